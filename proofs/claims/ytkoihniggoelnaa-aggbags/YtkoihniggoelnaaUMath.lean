/- What union does, as lists. No program stands here. -/
import Derived.Test.YtkoihniggoelnaaMem
import Derived.Shelf.Spec.SearchS
namespace Go.Proofs.Ytkoihniggoelnaa

/-- Where a text is looked for among others, by halving. -/
def bsL (l : List Str) (x : Str) : Nat := Lib.bsGo (fun t => Op.bytesLess (l.getD t []) x) l.length 0 l.length
def fndL (l : List Str) (x : Str) : Bool := decide (bsL l x < l.length ∧ l.getD (bsL l x) [] = x)
theorem bsGo_le (less : Nat → Bool) : ∀ (f lo hi : Nat), lo ≤ hi → Lib.bsGo less f lo hi ≤ hi
  | 0, lo, hi, h => by simpa [Lib.bsGo] using h
  | f + 1, lo, hi, h => by
    unfold Lib.bsGo
    by_cases c : lo < hi
    · rw [if_pos c]
      split
      · exact bsGo_le less f _ _ (by omega)
      · have := bsGo_le less f lo ((lo + hi) / 2) (by omega); omega
    · rw [if_neg c]; exact h
theorem bsL_le (l : List Str) (x : Str) : bsL l x ≤ l.length := bsGo_le _ _ _ _ (Nat.zero_le _)
/-- One text more. -/
def ust (s : List Str × List Str) (x : Str) : List Str × List Str :=
  (s.1 ++ s.2.take (bsL s.2 x) ++ [x], s.2.drop (bsL s.2 x + if fndL s.2 x then 1 else 0))
def uniA (many few : List Str) : List Str := (few.foldl ust ([], many)).1 ++ (few.foldl ust ([], many)).2
def uniL (a b : List Str) : List Str := if a.length < b.length then uniA b a else uniA a b
theorem ust_length (s : List Str × List Str) (x : Str) : (ust s x).1.length + (ust s x).2.length ≤ s.1.length + s.2.length + 1 := by
  have := bsL_le s.2 x
  simp only [ust, List.length_append, List.length_take, List.length_drop, List.length_singleton]
  omega
theorem ustf_length : ∀ (l : List Str) (s : List Str × List Str), (l.foldl ust s).1.length + (l.foldl ust s).2.length ≤ s.1.length + s.2.length + l.length
  | [], s => by simp
  | x :: l, s => by
    have h1 := ustf_length l (ust s x)
    have h2 := ust_length s x
    simp only [List.foldl_cons, List.length_cons]; omega
theorem uni_ab : uniL [[98]] [[97]] = [[97], [98]] := by decide +kernel
end Go.Proofs.Ytkoihniggoelnaa
