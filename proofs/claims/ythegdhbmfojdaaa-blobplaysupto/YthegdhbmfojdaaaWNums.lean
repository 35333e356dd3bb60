/- Plain mathematics of the sum: one move of the register, eight moves a byte, over any bytes. No program is named here. -/
import Derived.WalkKit
import Derived.Laws.BitsAllLaws
import Derived.Test.YthegdhbmfojdaaaProg
import Derived.Below
import Derived.WalkSpells
import Derived.OwnWalk
import Derived.Outline
import Derived.Lib.Zigzag
namespace Go.Proofs.Ythegdhbmfojdaaa.Wi
namespace Crc
def poly : Nat := 3988292384
def mv (x : Nat) : Nat := (x / 2) ^^^ (poly * (x % 2))
def mvs : Nat → Nat → Nat
  | 0, x => x
  | j + 1, x => mv (mvs j x)
def byte (x c : Nat) : Nat := mvs 8 (x ^^^ c)
def run (l : List UInt8) : Nat := l.foldl (fun x c => byte x c.toNat) 4294967295
def sum (l : List UInt8) : Nat := run l ^^^ 4294967295

theorem mv_lt {x : Nat} (h : x < 4294967296) : mv x < 4294967296 := by
  have h1 : x / 2 < 2 ^ 32 := by omega
  have h2 : poly * (x % 2) < 2 ^ 32 := by unfold poly; omega
  exact Nat.xor_lt_two_pow h1 h2
theorem mvs_lt {x : Nat} (h : x < 4294967296) : ∀ j, mvs j x < 4294967296
  | 0 => h
  | j + 1 => mv_lt (mvs_lt h j)
theorem byte_lt {x c : Nat} (h : x < 4294967296) (hc : c < 256) : byte x c < 4294967296 := by
  have h1 : x ^^^ c < 2 ^ 32 := Nat.xor_lt_two_pow (by omega) (by omega)
  exact mvs_lt (by omega) 8
theorem foldl_lt : ∀ (l : List UInt8) (x : Nat), x < 4294967296 → l.foldl (fun x c => byte x c.toNat) x < 4294967296
  | [], _, h => h
  | c :: l, _, h => foldl_lt l _ (byte_lt h c.toNat_lt)
theorem run_lt (l : List UInt8) : run l < 4294967296 := foldl_lt l _ (by omega)
theorem sum_lt (l : List UInt8) : sum l < 4294967296 := by
  have h1 : run l ^^^ 4294967295 < 2 ^ 32 := Nat.xor_lt_two_pow (run_lt l) (by omega)
  exact h1
theorem run_snoc (l : List UInt8) (c : UInt8) : run (l ++ [c]) = byte (run l) c.toNat := by simp [run]
/- The walk's own forms. -/
theorem xor_u32 {x c : Nat} (hx : x < 4294967296) (hc : c < 256) : bits .xor .u32 (x : Int) ((c : Int) % 4294967296) = ((x ^^^ c : Nat) : Int) := by
  have e : (c : Int) % 4294967296 = (c : Int) := by omega
  rw [e]; exact u32_xor_nat x c hx (by omega)
theorem and_one {x : Nat} (hx : x < 4294967296) : bits .and .u32 (x : Int) 1 = ((x % 2 : Nat) : Int) := by
  have := u32_and_nat x 1 hx (by omega)
  rw [Nat.and_one_is_mod] at this; exact this
theorem mv_u32 {x : Nat} (hx : x < 4294967296) : bits .xor .u32 ((x : Int) / 2) ((3988292384 * bits .and .u32 (x : Int) 1) % 4294967296) = ((mv x : Nat) : Int) := by
  rw [and_one hx]
  have e : (3988292384 * ((x % 2 : Nat) : Int)) % 4294967296 = ((poly * (x % 2) : Nat) : Int) := by unfold poly; omega
  have e2 : (x : Int) / 2 = ((x / 2 : Nat) : Int) := by omega
  rw [e, e2]
  exact u32_xor_nat _ _ (by omega) (by unfold poly; omega)
theorem not_u32 {x : Nat} (hx : x < 4294967296) : bits .xor .u32 4294967295 (x : Int) = ((x ^^^ 4294967295 : Nat) : Int) := by
  rw [Nat.xor_comm]; exact u32_xor_nat 4294967295 x (by omega) hx
theorem div_cast (c j : Nat) (hc : c < 256) : (c : Int) / 2 ^ j % 4294967296 = ((c / 2 ^ j : Nat) : Int) := by
  have h1 : c / 2 ^ j ≤ c := Nat.div_le_self _ _
  have h2 : (c : Int) / 2 ^ j = ((c / 2 ^ j : Nat) : Int) := by simp
  rw [h2]
  generalize c / 2 ^ j = q at h1
  omega
theorem pre_lt {x c : Nat} (h : x < 4294967296) (hc : c < 256) (j : Nat) : mvs j (x ^^^ c) < 4294967296 := by
  have h1 : x ^^^ c < 2 ^ 32 := Nat.xor_lt_two_pow (by omega) (by omega)
  exact mvs_lt (by omega) j
theorem xor_lt {y d : Nat} (hy : y < 4294967296) (hd : d < 4294967296) : y ^^^ d < 4294967296 := by
  have h1 : y ^^^ d < 2 ^ 32 := Nat.xor_lt_two_pow (by omega) (by omega)
  exact h1
theorem odd_xor (y d : Nat) : (y ^^^ d) % 2 ≠ d % 2 ↔ y % 2 = 1 := by
  have h := @Nat.xor_mod_two_eq_one y d
  omega
theorem refstep (y d : Nat) (hy : y < 4294967296) (hd : d < 256) :
    (((bits .and .u32 ((y ^^^ d : Nat) : Int) 1 != bits .and .u32 (d : Int) 1) = true) → bits .xor .u32 (((y ^^^ d : Nat) : Int) / 2) 3988292384 = ((mv y ^^^ (d / 2) : Nat) : Int))
    ∧ (((bits .and .u32 ((y ^^^ d : Nat) : Int) 1 != bits .and .u32 (d : Int) 1) = false) → ((y ^^^ d : Nat) : Int) / 2 = ((mv y ^^^ (d / 2) : Nat) : Int)) := by
  rw [and_one (xor_lt hy (by omega)), and_one (by omega)]
  have ho := odd_xor y d
  have e2 : ((y ^^^ d : Nat) : Int) / 2 = (((y ^^^ d) / 2 : Nat) : Int) := by omega
  rw [e2, Nat.xor_div_two]
  constructor
  · intro h
    have h' : (y ^^^ d) % 2 ≠ d % 2 := by
      intro e; rw [e] at h; simp at h
    have h1 : y % 2 = 1 := ho.1 h'
    have hx : bits .xor .u32 ((y / 2 ^^^ d / 2 : Nat) : Int) (3988292384 : Nat) = (((y / 2 ^^^ d / 2) ^^^ 3988292384 : Nat) : Int) := u32_xor_nat _ _ (xor_lt (by omega) (by omega)) (by omega)
    refine hx.trans ?_
    have e : mv y = (y / 2) ^^^ 3988292384 := by unfold mv poly; rw [h1]
    rw [e, Nat.xor_assoc, Nat.xor_assoc, Nat.xor_comm (d / 2)]
  · intro h
    have h' : ¬ ((y ^^^ d) % 2 ≠ d % 2) := by
      intro hne
      have : ((((y ^^^ d) % 2 : Nat) : Int) != ((d % 2 : Nat) : Int)) = true := by rw [bne_iff_ne]; omega
      rw [this] at h; cases h
    have h1 : y % 2 = 0 := by have := mt ho.2 h'; omega
    have e : mv y = y / 2 := by unfold mv poly; rw [h1]; simp
    rw [e]
theorem refstep_yes {x c j : Nat} (hx : x < 4294967296) (hc : c < 256)
    (h : (bits .and .u32 ((mvs j (x ^^^ c) ^^^ c / 2 ^ j : Nat) : Int) 1 != bits .and .u32 ((c : Int) / 2 ^ j % 4294967296) 1) = true) :
    bits .xor .u32 (((mvs j (x ^^^ c) ^^^ c / 2 ^ j : Nat) : Int) / 2) 3988292384 = ((mvs (j + 1) (x ^^^ c) ^^^ c / 2 ^ (j + 1) : Nat) : Int) := by
  rw [div_cast c j hc] at h
  rw [Nat.pow_succ, ← Nat.div_div_eq_div_mul]
  exact (refstep _ _ (pre_lt hx hc j) (Nat.lt_of_le_of_lt (Nat.div_le_self _ _) hc)).1 h
theorem refstep_no {x c j : Nat} (hx : x < 4294967296) (hc : c < 256)
    (h : (bits .and .u32 ((mvs j (x ^^^ c) ^^^ c / 2 ^ j : Nat) : Int) 1 != bits .and .u32 ((c : Int) / 2 ^ j % 4294967296) 1) = false) :
    ((mvs j (x ^^^ c) ^^^ c / 2 ^ j : Nat) : Int) / 2 = ((mvs (j + 1) (x ^^^ c) ^^^ c / 2 ^ (j + 1) : Nat) : Int) := by
  rw [div_cast c j hc] at h
  rw [Nat.pow_succ, ← Nat.div_div_eq_div_mul]
  exact (refstep _ _ (pre_lt hx hc j) (Nat.lt_of_le_of_lt (Nat.div_le_self _ _) hc)).2 h
theorem ref_start (x c : Nat) : ((x : Nat) : Int) = ((mvs 0 (x ^^^ c) ^^^ c / 2 ^ 0 : Nat) : Int) := by
  have : mvs 0 (x ^^^ c) ^^^ c / 2 ^ 0 = x := by show (x ^^^ c) ^^^ c / 1 = x; rw [Nat.div_one, Nat.xor_assoc, Nat.xor_self, Nat.xor_zero]
  rw [this]
theorem ref_end (x c : Nat) (hc : c < 256) : ((mvs 8 (x ^^^ c) ^^^ c / 2 ^ 8 : Nat) : Int) = ((byte x c : Nat) : Int) := by
  have : c / 2 ^ 8 = 0 := Nat.div_eq_of_lt (by omega)
  rw [this, Nat.xor_zero]; rfl
theorem fin_u32 {x : Nat} (hx : x < 4294967296) : bits .xor .u32 (x : Int) 4294967295 = ((x ^^^ 4294967295 : Nat) : Int) := u32_xor_nat x 4294967295 hx (by omega)
end Crc
namespace Num
/-- A number from 0 on as bytes, with so many bytes more at most. -/
def uvF : Nat → Nat → List UInt8
  | 0, n => [UInt8.ofNat n]
  | f + 1, n => if n < 128 then [UInt8.ofNat n] else UInt8.ofNat (n % 128 + 128) :: uvF f (n / 128)
def uv (n : Nat) : List UInt8 := uvF 9 n
theorem uvF_small (f n : Nat) (h : n < 128) : uvF f n = [UInt8.ofNat n] := by cases f <;> simp [uvF, h]
theorem uvF_great (f n : Nat) (h : 128 ≤ n) : uvF (f + 1) n = UInt8.ofNat (n % 128 + 128) :: uvF f (n / 128) := by simp [uvF, show ¬ n < 128 by omega]
theorem uvF_length : ∀ f n, (uvF f n).length ≤ f + 1
  | 0, _ => by simp [uvF]
  | f + 1, n => by
    have := uvF_length f (n / 128)
    unfold uvF; split <;> simp; omega
theorem uv_length (n : Nat) : (uv n).length ≤ 10 := uvF_length 9 n
theorem uvF_pos (f n : Nat) : 0 < (uvF f n).length := by cases f <;> unfold uvF <;> (try split) <;> simp
end Num
namespace Four
/-- The byte of place j of a number, its lowest one first. -/
def at_ (n j : Nat) : UInt8 := UInt8.ofNat (n / 2 ^ (8 * j))
def le4 (n : Nat) : List UInt8 := [at_ n 0, at_ n 1, at_ n 2, at_ n 3]
theorem at_nat (n j : Nat) : (at_ n j).toNat = n / 2 ^ (8 * j) % 256 := by simp [at_, UInt8.toNat_ofNat']
/-- The number of bytes, the lowest one first. -/
def num : List UInt8 → Nat
  | [] => 0
  | c :: l => c.toNat + 256 * num l
theorem num_le4 (n : Nat) (h : n < 4294967296) : num (le4 n) = n := by
  simp only [le4, num, at_nat]
  omega
theorem le4_num (a b c d : UInt8) : le4 (num [a, b, c, d]) = [a, b, c, d] := by
  have ha := a.toNat_lt; have hb := b.toNat_lt; have hc := c.toNat_lt; have hd := d.toNat_lt
  simp only [num, le4, List.cons.injEq, and_true]
  refine ⟨?_, ?_, ?_, ?_⟩ <;> apply UInt8.toNat_inj.1 <;> rw [at_nat] <;> simp <;> omega
theorem num_lt (l : List UInt8) (h : l.length = 4) : num l < 4294967296 := by
  match l, h with
  | [a, b, c, d], _ =>
    have ha := a.toNat_lt; have hb := b.toNat_lt; have hc := c.toNat_lt; have hd := d.toNat_lt
    simp only [num]; omega
theorem le4_length (n : Nat) : (le4 n).length = 4 := rfl
theorem num_snoc : ∀ (l : List UInt8) (c : UInt8), num (l ++ [c]) = num l + c.toNat * 2 ^ (8 * l.length)
  | [], c => by simp [num]
  | d :: l, c => by
    have h := num_snoc l c
    simp only [List.cons_append, num, List.length_cons, h]
    have e : 2 ^ (8 * (l.length + 1)) = 256 * 2 ^ (8 * l.length) := by rw [Nat.mul_add, Nat.pow_add, Nat.mul_comm]
    rw [e, Nat.mul_add, Nat.add_assoc]
    congr 2
    rw [← Nat.mul_assoc, ← Nat.mul_assoc, Nat.mul_comm 256]
theorem num_lt_pow : ∀ (l : List UInt8), num l < 2 ^ (8 * l.length)
  | [] => by simp [num]
  | d :: l => by
    have h := num_lt_pow l
    have hd := d.toNat_lt
    have e : 2 ^ (8 * (l.length + 1)) = 256 * 2 ^ (8 * l.length) := by rw [Nat.mul_add, Nat.pow_add, Nat.mul_comm]
    simp only [num, List.length_cons]
    rw [e]
    omega
theorem or_step (n c k : Nat) (hn : n < 2 ^ (8 * k)) (hc : c < 256) (hk : k < 4) :
    bits .or .u32 (n : Int) ((c : Int) % 4294967296 * 2 ^ (8 * k) % 4294967296) = ((n + c * 2 ^ (8 * k) : Nat) : Int) := by
  have hp : 2 ^ (8 * k) ≤ 16777216 := by
    have : 2 ^ (8 * k) ≤ 2 ^ 24 := Nat.pow_le_pow_right (by decide) (by omega)
    simpa using this
  have hm : c * 2 ^ (8 * k) ≤ 255 * 16777216 := Nat.mul_le_mul (by omega) hp
  have e1 : (c : Int) % 4294967296 = (c : Int) := by omega
  have e2 : (c : Int) * 2 ^ (8 * k) = ((c * 2 ^ (8 * k) : Nat) : Int) := by simp
  have e3 : ((c * 2 ^ (8 * k) : Nat) : Int) % 4294967296 = ((c * 2 ^ (8 * k) : Nat) : Int) := Int.emod_eq_of_lt (by omega) (by omega)
  rw [e1, e2, e3, u32_or_nat _ _ (by omega) (by omega)]
  have h := Nat.shiftLeft_add_eq_or_of_lt hn c
  rw [Nat.shiftLeft_eq] at h
  rw [Nat.or_comm, ← h, Nat.add_comm]
theorem num_take (l : List UInt8) (k : Nat) (h : k < l.length) (hk : k < 4) :
    bits .or .u32 (num (l.take k) : Int) ((l[k].toNat : Int) % 4294967296 * 2 ^ (8 * k) % 4294967296) = ((num (l.take (k + 1)) : Nat) : Int) := by
  have hl : (l.take k).length = k := by simp; omega
  rw [List.take_succ_eq_append_getElem h, num_snoc, hl]
  refine or_step _ _ k ?_ l[k].toNat_lt hk
  have := num_lt_pow (l.take k)
  rw [hl] at this; exact this
end Four
end Go.Proofs.Ythegdhbmfojdaaa.Wi

namespace Go.Proofs.Ythegdhbmfojdaaa.Wi
open Go.RowKit

theorem hide {p : Prop} (h : p) : Hid p := h
theorem ret_int {k : IntKind} {a b : Int} (h : a = b) : Ending.returned (.int k a) = .returned (.int k b) := by rw [h]
theorem unhide {p : Prop} (h : Hid p) : p := h

/-- The cells that hold these bytes. -/
def bv (l : List UInt8) : List Value := l.map fun c => .int .u8 (c.toNat : Int)
theorem bv_length (l : List UInt8) : (bv l).length = l.length := by simp [bv]
theorem bv_append (l m : List UInt8) : bv (l ++ m) = bv l ++ bv m := by simp [bv]
theorem bv_one (l : List UInt8) : ∀ u ∈ bv l, u.oneCell' = true := by
  intro u hu; simp [bv] at hu; obtain ⟨c, _, rfl⟩ := hu; rfl
theorem bv_get (l : List UInt8) (i : Nat) (h : i < l.length) : (bv l)[i]? = some (.int .u8 ((l.getD i 0).toNat : Int)) := by
  simp [bv, h]

/-- A slice value reads as these bytes: nil and nothing, or an address from which they lie. -/
def Reads (w : World) (v : Value) (l : List UInt8) : Prop :=
  ∃ ao cap, v = .slice ao l.length cap ∧ l.length ≤ cap ∧ cap ≤ maxLen ∧ (ao = none → l.length = 0 ∧ cap = 0) ∧
    ∀ ad, ao = some ad → ∀ j u, (bv l)[j]? = some u → w.cell? (ad.add j) = some u

theorem Reads.nil (w : World) : Reads w (.slice none 0 0) [] := ⟨none, 0, rfl, Nat.le_refl _, Nat.zero_le _, fun _ => ⟨rfl, rfl⟩, fun _ h => by cases h⟩

/-- An owned row of bytes. -/
def Owns (w : World) (base : Nat) (v : Value) (l : List UInt8) : Prop := w.ownsRow base 5 1 v l.length (bv l)

theorem Owns.reads {w : World} {base : Nat} {v : Value} {l : List UInt8} (h : Owns w base v l) : Reads w v l := by
  have hc := h
  rcases h.2 with ⟨rfl, hn⟩ | ⟨g, cap, cur, rfl, hb, hg, hnc, hcm, hcs, ht⟩
  · have : l = [] := List.eq_nil_of_length_eq_zero hn
    subst this
    exact Reads.nil w
  · refine ⟨some ⟨g, 0, none⟩, cap, rfl, hnc, hcm, (fun h => by cases h), ?_⟩
    rintro ad ⟨rfl⟩
    exact fun j u hj => World.ownsRow.cells hc rfl j u hj

theorem Reads.below {w w' : World} {v : Value} {l : List UInt8} (h : Reads w v l) (hb : Below w.heap.size w w') : Reads w' v l := by
  obtain ⟨ao, cap, rfl, h1, h2, h3, h4⟩ := h
  refine ⟨ao, cap, rfl, h1, h2, h3, fun ad ha j u hj => ?_⟩
  have hc := h4 ad ha j u hj
  rw [hb.cell (World.block_lt_of_cell? _ _ hc)]
  exact hc
theorem Reads.drew {w : World} {v : Value} {l : List UInt8} (h : Reads w v l) : Reads w.drew v l := h

/-- The address and the cells of a slice that isn't empty. -/
theorem Reads.cells {w : World} {ao : Option Addr} {n cap : Nat} {l : List UInt8} (h : Reads w (.slice ao n cap) l) :
    n = l.length ∧ l.length ≤ cap ∧ cap ≤ maxLen ∧ (0 < l.length → ∃ b off, ao = some ⟨b, off, none⟩ ∧ ∀ i, i < l.length → w.cell? ⟨b, off + i, none⟩ = some (.int .u8 ((l.getD i 0).toNat : Int))) := by
  obtain ⟨ao', cap', he, h1, h2, h3, h4⟩ := h
  simp only [Value.slice.injEq] at he
  obtain ⟨rfl, rfl, rfl⟩ := he
  refine ⟨rfl, h1, h2, fun hp => ?_⟩
  cases ao with
  | none => have := (h3 rfl).1; omega
  | some ad =>
    obtain ⟨b, off, sp⟩ := ad
    have hc := h4 _ rfl
    have hs : sp = none := by
      have := World.cell?_spot (hc 0 _ (bv_get l 0 hp))
      simpa [Addr.add] using this
    subst hs
    exact ⟨b, off, rfl, fun i hi => by rw [← Addr.add_lit]; exact hc i _ (bv_get l i hi)⟩

theorem Try.info5 : (Try.prog.info? 5).map (fun i => (i.zero, i.size, i.bytes)) = some (some (.int .u8 0), 1, 1) := by kernel_rfl
end Go.Proofs.Ythegdhbmfojdaaa.Wi

namespace Go.Proofs.Ythegdhbmfojdaaa.Wi
open Go.RowKit

theorem or_128 (m : Nat) (_h : m < 18446744073709551616) : bits .or .u8 ((m : Int) % 256) 128 = (((UInt8.ofNat (m % 128 + 128)).toNat : Nat) : Int) := by
  have h1 : (UInt8.ofNat (m % 128 + 128)).toNat = m % 128 + 128 := by simp [UInt8.toNat_ofNat']; omega
  have e : (m : Int) % 256 = ((m % 256 : Nat) : Int) := by omega
  have h2 : bits .or .u8 ((m % 256 : Nat) : Int) ((128 : Nat) : Int) = ((m % 256 ||| 128 : Nat) : Int) := u8_or_nat _ _ (by omega) (by omega)
  have h3 : m % 256 ||| 128 = m % 128 + 128 := by
    have a1 : m % 256 ||| 128 = 128 * ((m % 256 / 128) ||| 1) + m % 128 := by
      have q := @Nat.or_mod_two_pow (m % 256) 128 7
      have r := @Nat.or_div_two_pow (m % 256) 128 7
      have z : m % 256 % 128 ||| 0 = m % 256 % 128 := Nat.or_zero _
      have z2 : (m % 256 ||| 128) % 128 = m % 256 % 128 := q.trans z
      have z3 : (m % 256 ||| 128) / 128 = m % 256 / 128 ||| 1 := r
      omega
    have a2 : m % 256 / 128 = 0 ∨ m % 256 / 128 = 1 := by omega
    rcases a2 with a2 | a2 <;> rw [a2] at a1 <;> simp at a1 <;> omega
  rw [h1, e]
  refine h2.trans ?_
  rw [h3]

theorem one_more {w1 : World} {base : Nat} {v1 : Value} {l : List UInt8} {c : UInt8} {z : Int} (hz : z = ((c.toNat : Nat) : Int)) (h : w1.ownsRow base 5 1 v1 (l.length + 1) (bv l ++ [.int .u8 z])) : Owns w1 base v1 (l ++ [c]) := by
  subst hz
  have e : bv (l ++ [c]) = bv l ++ [.int .u8 (c.toNat : Int)] := by simp [bv]
  unfold Owns
  rw [e]; simpa using h
theorem below_grown {base : Nat} {w wr w1 : World} {o : Obj} {u : Value} {l : List UInt8} (hbel : Below base w wr) (hb : base ≤ wr.heap.size) (hown : Owns wr base u l) (hg : (wr.alloc o).grownBy w1 u.ownBlock) : Below base w w1 :=
  (hbel.alloc hb o).grown hg (by simp; omega) (fun k hk => (World.ownsRow.lt hown k hk).1)
theorem add_step {w wr w1 : World} {base : Nat} {u v1 : Value} {l pre : List UInt8} {f m n : Nat} {o : Obj} (hU : Num.uv n = pre ++ Num.uvF f m) (hm : m < 18446744073709551616) (hf : m < 128 ^ (f + 1)) (h128 : 128 ≤ m)
    (hown : Owns wr base u (l ++ pre)) (hbel : Below base w wr) (hb : base ≤ wr.heap.size)
    (hown1 : w1.ownsRow base 5 1 v1 ((l ++ pre).length + 1) (bv (l ++ pre) ++ [.int .u8 (bits .or .u8 ((m : Int) % 256) 128)]))
    (hg : (wr.alloc o).grownBy w1 u.ownBlock) :
    ∃ (pre' : List UInt8) (f' : Nat), m / 128 < 128 ^ (f' + 1) ∧ Num.uv n = pre' ++ Num.uvF f' (m / 128) ∧ Owns w1 base v1 (l ++ pre') ∧ Below base w w1 := by
  cases f with
  | zero => simp at hf; omega
  | succ f' =>
    refine ⟨pre ++ [UInt8.ofNat (m % 128 + 128)], f', ?_, ?_, ?_, below_grown hbel hb hown hg⟩
    · rw [Nat.pow_succ] at hf; omega
    · rw [hU, Num.uvF_great f' m h128]; simp
    · rw [← List.append_assoc]; exact one_more (or_128 m hm) hown1

end Go.Proofs.Ythegdhbmfojdaaa.Wi

namespace Go.Proofs.Ythegdhbmfojdaaa.Wi
open Go.RowKit
end Go.Proofs.Ythegdhbmfojdaaa.Wi
