/- The calls on an intake that a law made itself: blocks of its own alone. Plain functions. -/
import Derived.Test.YtmnlkmgpikilbaaNew
namespace Go.Proofs.Ytmnlkmgpikilbaa
open Go.RowKit Go.Maps Go.Sort
set_option linter.unusedVariables false

/-- An intake that was made behind a world. -/
structure St (w0 w : World) (x : Nat) (l : Int) (sv : Value) (Z : List Kp) (o : Kp) : Prop where
  ex : ∃ F, InZ w x F l sv Z o ∧ ∀ i, F i → w0.heap.size ≤ i
  bl : Below w0.heap.size w0 w
theorem St.up {w0 w w' : World} {x : Nat} {l : Int} {sv : Value} {Z : List Kp} {o : Kp} (h : St w0 w x l sv Z o) (hb : Below w.heap.size w w') : St w0 w' x l sv Z o := by
  obtain ⟨F, h1, h2⟩ := h.ex
  exact ⟨⟨F, h1.up hb, h2⟩, h.bl.trans (hb.mono h.bl.size)⟩
theorem St.new (w : World) (l : Int) (hl : 1 ≤ l ∧ l ≤ 1099511627776) (m : Nat) (hm : m ≤ 100000) :
    Calls Try.prog 10 #[.agg #[.int .i64 0, .int .i64 0], .int .i64 l, .int .u64 ((m + 1 : Nat) : Int)] w fun e w' => ∃ x, e = .returned (.tuple #[.pointer (some ⟨x, 0, none⟩), .int .i64 0]) ∧ St w w' x l nl [] { num := 1, fr := m, up := m, v := nl, ts := [] } :=
  (new_any w l hl m hm).mono fun _ _ ⟨x, h1, h2, h3, h4⟩ => ⟨x, h1, ⟨_, h4, fun i hi => by subst hi; exact h2⟩, h3⟩
theorem St.next {w0 w : World} {x : Nat} {l : Int} {sv : Value} {Z : List Kp} {o : Kp} (h : St w0 w x l sv Z o) (hl : 1 ≤ l) (hto : o.up ≤ 1000000) : Calls Try.prog 14 #[.pointer (some ⟨x, 0, none⟩)] w fun e w' => e = .returned (.int .u64 ((o.up + 1 : Nat) : Int)) ∧ w' = w := by
  obtain ⟨F, h1, h2⟩ := h.ex
  exact next_any w x F l sv Z o h1 hl hto
theorem St.good {w0 w : World} {x : Nat} {l : Int} {sv : Value} {Z : List Kp} {o : Kp} (h : St w0 w x l sv Z o) (hl : 1 ≤ l) (hto : o.up ≤ 1000000) (n : Nat) (hn : n = o.up + 1) (t : Int) (ht : T40 t) :
    Calls Try.prog 18 #[.pointer (some ⟨x, 0, none⟩), .int .u64 (n : Int), .agg (fc t)] w fun e w' => e = .returned (.int .i64 0) ∧ ∃ v, St w0 w' x l sv Z { num := o.num, fr := o.fr, up := o.up + 1, v := v, ts := o.ts ++ [t] } := by
  obtain ⟨F, h1, h2⟩ := h.ex
  refine (take_good w x F l sv Z o h1 hl hto n hn t ht).mono ?_
  rintro e w' ⟨he, hT⟩
  obtain ⟨v, hv⟩ := hT.ex
  refine ⟨he, v, ⟨_, hv, fun i hi => ?_⟩, h.bl.trans (hT.fr.below h.bl.size h2)⟩
  rcases hi with q | q
  · exact h2 i q
  · exact Nat.le_trans h.bl.size q.1
theorem St.old {w0 w : World} {x : Nat} {l : Int} {sv : Value} {Z : List Kp} {o : Kp} (h : St w0 w x l sv Z o) (hl : 1 ≤ l) (hto : o.up ≤ 1000000) (n : Nat) (hn : n < o.up + 1) (t : Int) :
    Calls Try.prog 18 #[.pointer (some ⟨x, 0, none⟩), .int .u64 (n : Int), .agg (fc t)] w fun e w' => e = .returned (.int .i64 170) ∧ St w0 w' x l sv Z o := by
  obtain ⟨F, h1, h2⟩ := h.ex
  exact (take_old w x F l sv Z o h1 hl hto n hn t).mono fun _ _ ⟨he, hb⟩ => ⟨he, h.up hb⟩
theorem St.gap {w0 w : World} {x : Nat} {l : Int} {sv : Value} {Z : List Kp} {o : Kp} (h : St w0 w x l sv Z o) (hl : 1 ≤ l) (hto : o.up ≤ 1000000) (n : Nat) (hn : o.up + 1 < n) (t : Int) :
    Calls Try.prog 18 #[.pointer (some ⟨x, 0, none⟩), .int .u64 (n : Int), .agg (fc t)] w fun e w' => e = .returned (.int .i64 171) ∧ St w0 w' x l sv Z o := by
  obtain ⟨F, h1, h2⟩ := h.ex
  exact (take_gap w x F l sv Z o h1 hl hto n hn t).mono fun _ _ ⟨he, hb⟩ => ⟨he, h.up hb⟩
theorem St.neg {w0 w : World} {x : Nat} {l : Int} {sv : Value} {Z : List Kp} {o : Kp} (h : St w0 w x l sv Z o) (hl : 1 ≤ l) (hto : o.up ≤ 1000000) (n : Nat) (hn : n = o.up + 1) (t : Int) (ht : t < 0) :
    Calls Try.prog 18 #[.pointer (some ⟨x, 0, none⟩), .int .u64 (n : Int), .agg (fc t)] w fun e w' => e = .returned (.int .i64 40) ∧ St w0 w' x l sv Z o := by
  obtain ⟨F, h1, h2⟩ := h.ex
  exact (take_neg w x F l sv Z o h1 hl hto n hn t ht).mono fun _ _ ⟨he, hb⟩ => ⟨he, h.up hb⟩
theorem St.sealNone {w0 w : World} {x : Nat} {l : Int} {sv : Value} {Z : List Kp} {o : Kp} (h : St w0 w x l sv Z o) (hl : 1 ≤ l) (hn : o.up = o.fr) :
    Calls Try.prog 20 #[.pointer (some ⟨x, 0, none⟩)] w fun e w' => e = .returned (.tuple #[.agg #[.int .i64 0, .int .u64 0, .int .u64 0, nl], .int .i64 120]) ∧ St w0 w' x l sv Z o := by
  obtain ⟨F, h1, h2⟩ := h.ex
  exact (seal_none w x F l sv Z o h1 hl hn).mono fun _ _ ⟨he, hb⟩ => ⟨he, h.up hb⟩
theorem St.sealGood {w0 w : World} {x : Nat} {l : Int} {sv : Value} {Z : List Kp} {o : Kp} (h : St w0 w x l sv Z o) (hl : 1 ≤ l ∧ l ≤ 1099511627776) (hn : o.fr < o.up) (hZ : Z.length ≤ 1000000) (hup : o.up ≤ 100000) (hnum : 0 ≤ o.num ∧ o.num ≤ 1000000) :
    Calls Try.prog 20 #[.pointer (some ⟨x, 0, none⟩)] w fun e w' => ∃ v, e = .returned (.tuple #[.agg #[.int .i64 o.num, .int .u64 (o.fr : Int), .int .u64 (o.up : Int), v], .int .i64 0]) ∧ (∃ sv', St w0 w' x l sv' (Z ++ [o]) { num := o.num + 1, fr := o.up, up := o.up, v := nl, ts := [] }) ∧ ChR w.heap.size w' l o.ts v := by
  obtain ⟨F, h1, h2⟩ := h.ex
  refine (seal_good w x F l sv Z o h1 hl hn hZ hup hnum).mono ?_
  rintro e w' ⟨v, he, hS, hC⟩
  obtain ⟨sv', hI⟩ := hS.ex
  refine ⟨v, he, ⟨sv', ⟨_, hI, fun i hi => ?_⟩, h.bl.trans (hS.fr.below h.bl.size h2)⟩, hC⟩
  rcases hi with q | q
  · exact h2 i q
  · exact Nat.le_trans h.bl.size q.1
theorem St.behind {w0 w : World} {x : Nat} {l : Int} {sv : Value} {Z : List Kp} {o : Kp} (h : St w0 w x l sv Z o) (hl : 1 ≤ l) (off : Nat) (hlo : rls Z o ≤ off) (hhi : off ≤ o.up) (hup : o.up ≤ 100000) (hZ : Z.length ≤ 100000) (hbs : ∀ p ∈ Z, p.up ≤ 100000) (hsum : ∀ i, (bh (Z.take i) off).length ≤ 100000) :
    Calls Try.prog 21 #[.pointer (some ⟨x, 0, none⟩), .int .u64 (off : Int)] w fun e w' => ∃ v, e = .returned (.tuple #[v, .int .u64 (o.up : Int), .int .i64 0]) ∧ St w0 w' x l sv Z o ∧ w'.ownsRow w.heap.size 38 3 v (bh Z off ++ o.ts.drop (ahd o off)).length (fcs (bh Z off ++ o.ts.drop (ahd o off))) ∧ Below w.heap.size w w' := by
  obtain ⟨F, h1, h2⟩ := h.ex
  exact (behindI_any w x F l sv Z o h1 hl off hlo hhi hup hZ hbs hsum).mono fun _ _ ⟨v, he, hr, hb⟩ => ⟨v, he, h.up hb, hr, hb⟩
/-- Facts have their spans in one way alone. -/
theorem Chks.eq {l : Int} {ts : List Int} {a b : List K2} (h1 : Chks l ts a) (h2 : Chks l ts b) : a = b := by
  refine List.Perm.eq_of_pairwise (le := fun p q : K2 => p.1 < q.1) (fun p q _ _ h3 h4 => ?_) h1.srt h2.srt ?_
  · omega
  · exact (List.perm_ext_iff_of_nodup h1.nd h2.nd).2 fun k => (h1.mem k).trans (h2.mem k).symm
end Go.Proofs.Ytmnlkmgpikilbaa
