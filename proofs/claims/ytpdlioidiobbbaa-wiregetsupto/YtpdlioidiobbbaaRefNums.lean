/- What is said of rows of bytes in memory: a slice value reads as a list of bytes; an owned row of bytes. No walk stands here. -/
import Derived.Test.YtpdlioidiobbbaaProg
import Derived.Test.YtpdlioidiobbbaaPMath
import Derived.WalkKit
import Derived.Below
import Derived.WalkSpells
import Derived.OwnWalk
import Derived.Outline
import Derived.Lib.Zigzag
import Derived.Room.AppendFits
import Derived.Laws.AppendOwnNone
import Derived.Lib.SlBytesConst
import Derived.Laws.BytesArg
import Derived.Lib.AppendStr
namespace Go.Proofs.Ytpdlioidiobbbaa
open Go.RowKit

theorem hide {p : Prop} (h : p) : Hid p := h
theorem ret_int {k : IntKind} {a b : Int} (h : a = b) : Ending.returned (.int k a) = .returned (.int k b) := by rw [h]
theorem unhide {p : Prop} (h : Hid p) : p := h

/-- The cells that hold these bytes. -/
def bv (l : List UInt8) : List Value := l.map fun c => .int .u8 (c.toNat : Int)
theorem bv_length (l : List UInt8) : (bv l).length = l.length := by simp [bv]
theorem bv_append (l m : List UInt8) : bv (l ++ m) = bv l ++ bv m := by simp [bv]
theorem bv_one (l : List UInt8) : ∀ u ∈ bv l, u.oneCell' = true := by
  intro u hu; simp [bv] at hu; obtain ⟨c, _, rfl⟩ := hu; rfl
theorem bv_get (l : List UInt8) (i : Nat) (h : i < l.length) : (bv l)[i]? = some (.int .u8 ((l.getD i 0).toNat : Int)) := by
  simp [bv, h]

/-- A slice value reads as these bytes: nil and nothing, or an address from which they lie. -/
def Reads (w : World) (v : Value) (l : List UInt8) : Prop :=
  ∃ ao cap, v = .slice ao l.length cap ∧ l.length ≤ cap ∧ cap ≤ maxLen ∧ (ao = none → l.length = 0 ∧ cap = 0) ∧
    ∀ ad, ao = some ad → ∀ j u, (bv l)[j]? = some u → w.cell? (ad.add j) = some u

theorem Reads.nil (w : World) : Reads w (.slice none 0 0) [] := ⟨none, 0, rfl, Nat.le_refl _, Nat.zero_le _, fun _ => ⟨rfl, rfl⟩, fun _ h => by cases h⟩

/-- An owned row of bytes. -/
def Owns (w : World) (base : Nat) (v : Value) (l : List UInt8) : Prop := w.ownsRow base 5 1 v l.length (bv l)

theorem Owns.reads {w : World} {base : Nat} {v : Value} {l : List UInt8} (h : Owns w base v l) : Reads w v l := by
  have hc := h
  rcases h.2 with ⟨rfl, hn⟩ | ⟨g, cap, cur, rfl, hb, hg, hnc, hcm, hcs, ht⟩
  · have : l = [] := List.eq_nil_of_length_eq_zero hn
    subst this
    exact Reads.nil w
  · refine ⟨some ⟨g, 0, none⟩, cap, rfl, hnc, hcm, (fun h => by cases h), ?_⟩
    rintro ad ⟨rfl⟩
    exact fun j u hj => World.ownsRow.cells hc rfl j u hj

theorem Reads.below {w w' : World} {v : Value} {l : List UInt8} (h : Reads w v l) (hb : Below w.heap.size w w') : Reads w' v l := by
  obtain ⟨ao, cap, rfl, h1, h2, h3, h4⟩ := h
  refine ⟨ao, cap, rfl, h1, h2, h3, fun ad ha j u hj => ?_⟩
  have hc := h4 ad ha j u hj
  rw [hb.cell (World.block_lt_of_cell? _ _ hc)]
  exact hc
theorem Reads.drew {w : World} {v : Value} {l : List UInt8} (h : Reads w v l) : Reads w.drew v l := h

/-- The address and the cells of a slice that isn't empty. -/
theorem Reads.cells {w : World} {ao : Option Addr} {n cap : Nat} {l : List UInt8} (h : Reads w (.slice ao n cap) l) :
    n = l.length ∧ l.length ≤ cap ∧ cap ≤ maxLen ∧ (0 < l.length → ∃ b off, ao = some ⟨b, off, none⟩ ∧ ∀ i, i < l.length → w.cell? ⟨b, off + i, none⟩ = some (.int .u8 ((l.getD i 0).toNat : Int))) := by
  obtain ⟨ao', cap', he, h1, h2, h3, h4⟩ := h
  simp only [Value.slice.injEq] at he
  obtain ⟨rfl, rfl, rfl⟩ := he
  refine ⟨rfl, h1, h2, fun hp => ?_⟩
  cases ao with
  | none => have := (h3 rfl).1; omega
  | some ad =>
    obtain ⟨b, off, sp⟩ := ad
    have hc := h4 _ rfl
    have hs : sp = none := by
      have := World.cell?_spot (hc 0 _ (bv_get l 0 hp))
      simpa [Addr.add] using this
    subst hs
    exact ⟨b, off, rfl, fun i hi => by rw [← Addr.add_lit]; exact hc i _ (bv_get l i hi)⟩

theorem Try.info5 : (Try.prog.info? 5).map (fun i => (i.zero, i.size, i.bytes)) = some (some (.int .u8 0), 1, 1) := by kernel_rfl
end Go.Proofs.Ytpdlioidiobbbaa

namespace Go.Proofs.Ytpdlioidiobbbaa
open Go.RowKit

set_option maxHeartbeats 400000 in
theorem room_any (w : World) (v : Value) (l : List UInt8) (r : Nat) (h : Reads w v l) (hl : l.length ≤ 1099511627776) (hr : r ≤ 1099511627776) :
    Calls Try.prog 72 #[v, .int .i64 r] w fun e w' => ∃ v', e = .returned v' ∧ Owns w' w.heap.size v' l ∧ Below w.heap.size w w' := by
  obtain ⟨ao, cap, rfl, h1, h2, h3, h4⟩ := h
  obtain ⟨i0, hi, hz0, hz1, hz2⟩ := info_parts Try.info5
  go_enter Try.func72, Try.ntmps72
  go_wp2_with (first
    | (at_make; refine wpList_make_own _ rfl _ _ 49 rfl w.heap.size 5 i0 (.int .u8 0) 1 Try.underlying49 hi hz0 hz1 .i64 .i64 _ (l.length + r) rfl rfl (by omega) (by rw [hz2]; omega) (by unfold maxLen; omega) (Nat.le_refl _) ?_; intro w0 hown0 hgrow0)
    | (at_builtin; refine wpList_append_fits_any _ rfl _ _ 49 rfl w.heap.size 5 i0 1 Try.underlying49 hi hz1 w.heap.size 0 _ _ rfl hown0 ao l.length cap (bv l) rfl (by simp [bv_length]) h3 (fun ad ha j u hj => hgrow0.cell (h4 ad ha j u hj) (by simp)) (bv_one l) (by omega) ?_; intro w1 hown1 hgrow1))
  go_ret
  simp only [Nat.zero_add, List.nil_append] at hown1
  exact ⟨_, rfl, hown1, ((Below.refl _ _).grown hgrow0 (Nat.le_refl _) (by simp)).grown hgrow1 hgrow0.size (by simp)⟩

theorem or_128 (m : Nat) (_h : m < 18446744073709551616) : bits .or .u8 ((m : Int) % 256) 128 = (((UInt8.ofNat (m % 128 + 128)).toNat : Nat) : Int) := by
  have h1 : (UInt8.ofNat (m % 128 + 128)).toNat = m % 128 + 128 := by simp [UInt8.toNat_ofNat']; omega
  have e : (m : Int) % 256 = ((m % 256 : Nat) : Int) := by omega
  have h2 : bits .or .u8 ((m % 256 : Nat) : Int) ((128 : Nat) : Int) = ((m % 256 ||| 128 : Nat) : Int) := u8_or_nat _ _ (by omega) (by omega)
  have h3 : m % 256 ||| 128 = m % 128 + 128 := by
    have a1 : m % 256 ||| 128 = 128 * ((m % 256 / 128) ||| 1) + m % 128 := by
      have q := @Nat.or_mod_two_pow (m % 256) 128 7
      have r := @Nat.or_div_two_pow (m % 256) 128 7
      have z : m % 256 % 128 ||| 0 = m % 256 % 128 := Nat.or_zero _
      have z2 : (m % 256 ||| 128) % 128 = m % 256 % 128 := q.trans z
      have z3 : (m % 256 ||| 128) / 128 = m % 256 / 128 ||| 1 := r
      omega
    have a2 : m % 256 / 128 = 0 ∨ m % 256 / 128 = 1 := by omega
    rcases a2 with a2 | a2 <;> rw [a2] at a1 <;> simp at a1 <;> omega
  rw [h1, e]
  refine h2.trans ?_
  rw [h3]

theorem one_more {w1 : World} {base : Nat} {v1 : Value} {l : List UInt8} {c : UInt8} {z : Int} (hz : z = ((c.toNat : Nat) : Int)) (h : w1.ownsRow base 5 1 v1 (l.length + 1) (bv l ++ [.int .u8 z])) : Owns w1 base v1 (l ++ [c]) := by
  subst hz
  have e : bv (l ++ [c]) = bv l ++ [.int .u8 (c.toNat : Int)] := by simp [bv]
  unfold Owns
  rw [e]; simpa using h
theorem below_grown {base : Nat} {w wr w1 : World} {o : Obj} {u : Value} {l : List UInt8} (hbel : Below base w wr) (hb : base ≤ wr.heap.size) (hown : Owns wr base u l) (hg : (wr.alloc o).grownBy w1 u.ownBlock) : Below base w w1 :=
  (hbel.alloc hb o).grown hg (by simp; omega) (fun k hk => (World.ownsRow.lt hown k hk).1)
theorem add_step {w wr w1 : World} {base : Nat} {u v1 : Value} {l pre : List UInt8} {f m n : Nat} {o : Obj} (hU : Num.uv n = pre ++ Num.uvF f m) (hm : m < 18446744073709551616) (hf : m < 128 ^ (f + 1)) (h128 : 128 ≤ m)
    (hown : Owns wr base u (l ++ pre)) (hbel : Below base w wr) (hb : base ≤ wr.heap.size)
    (hown1 : w1.ownsRow base 5 1 v1 ((l ++ pre).length + 1) (bv (l ++ pre) ++ [.int .u8 (bits .or .u8 ((m : Int) % 256) 128)]))
    (hg : (wr.alloc o).grownBy w1 u.ownBlock) :
    ∃ (pre' : List UInt8) (f' : Nat), m / 128 < 128 ^ (f' + 1) ∧ Num.uv n = pre' ++ Num.uvF f' (m / 128) ∧ Owns w1 base v1 (l ++ pre') ∧ Below base w w1 := by
  cases f with
  | zero => simp at hf; omega
  | succ f' =>
    refine ⟨pre ++ [UInt8.ofNat (m % 128 + 128)], f', ?_, ?_, ?_, below_grown hbel hb hown hg⟩
    · rw [Nat.pow_succ] at hf; omega
    · rw [hU, Num.uvF_great f' m h128]; simp
    · rw [← List.append_assoc]; exact one_more (or_128 m hm) hown1

set_option maxRecDepth 100000 in
set_option maxHeartbeats 800000 in
theorem add_any (w : World) (base : Nat) (v : Value) (l : List UInt8) (n : Nat) (h : Owns w base v l) (hb : base ≤ w.heap.size) (hl : l.length ≤ 1099511627776) (hn : n < 18446744073709551616) :
    Calls Try.prog 71 #[v, .int .u64 n] w fun e w' => ∃ v', e = .returned v' ∧ Owns w' base v' (l ++ Num.uv n) ∧ Below base w w' := by
  obtain ⟨i0, hi, hz0, hz1, hz2⟩ := info_parts Try.info5
  go_enter Try.func71, Try.ntmps71
  go_wp2
  go_loopw [0, 1] (fun vb vn wr => ∃ (pre : List UInt8) (f m : Nat), vn = .int .u64 m ∧ m < 18446744073709551616 ∧ m < 128 ^ (f + 1) ∧ Num.uv n = pre ++ Num.uvF f m ∧ Owns wr base vb (l ++ pre) ∧ Below base w wr)
    (fun _ vn _ => (intOf vn).toNat)
  case atStart => exact ⟨[], 9, n, rfl, hn, by omega, by simp [Num.uv], by simpa using h, Below.refl _ _⟩
  case round =>
    obtain ⟨pre, f, m, rfl, hm, hf, HU, hown, hbel⟩ := hrel
    have hpl : pre.length + (Num.uvF f m).length ≤ 10 := by
      have := Num.uv_length n
      rw [HU] at this
      simpa using this
    have hU : Hid (Num.uv n = pre ++ Num.uvF f m) := HU
    clear HU
    have hsz := hbel.size
    by_cases hlt : 128 ≤ m
    · have hge : (128 : Int) ≤ (m : Int) := by omega
      go_wp2_with (first
        | (at_builtin; refine wpList_append_own _ rfl _ _ 49 rfl base 5 i0 (.int .u8 0) 1 1 Try.underlying49 hi hz0 hz1 hz2 rfl (by decide) u0 _ _ rfl (hown.alloc _) ⟨wr.heap.size, 0, none⟩ 1 1 [.int .u8 (bits .or .u8 ((m : Int) % 256) 128)] rfl rfl (cell_one_new _ _ _) (by simp [Value.oneCell']) (by simp [maxLen]; omega) (by simp; omega) (by simp; omega) ?_; intro v1 w1 hown1 hgrow1 _)
        | go_in)
      obtain ⟨pre', f', g1, g2, g3, g4⟩ := add_step hU.out hm hf hlt hown hbel (by omega) hown1 hgrow1
      go_roundw
      case rel => exact ⟨pre', f', m / 128, by go_num, by omega, g1, g2, g3, g4⟩
      case measure => simp [intOf]; omega
    · have hge : (m : Int) < 128 := by omega
      clear hlt hf
      go_wp2_with (first
        | (at_builtin; refine wpList_append_own _ rfl _ _ 49 rfl base 5 i0 (.int .u8 0) 1 1 Try.underlying49 hi hz0 hz1 hz2 rfl (by decide) u0 _ _ rfl (hown.alloc _) ⟨wr.heap.size, 0, none⟩ 1 1 [.int .u8 (m : Int)] rfl rfl (cell_one_new _ _ _) (by simp [Value.oneCell']) (by simp [maxLen]; omega) (by simp; omega) (by simp; omega) ?_; intro v1 w1 hown1 hgrow1 _)
        | go_in)
      go_ret
      refine ⟨_, rfl, ?_, below_grown hbel (by omega) hown hgrow1⟩
      rw [hU.out, Num.uvF_small f m (by omega), ← List.append_assoc]
      exact one_more (by simp [UInt8.toNat_ofNat']; omega) hown1
end Go.Proofs.Ytpdlioidiobbbaa

namespace Go.Proofs.Ytpdlioidiobbbaa
open Go.RowKit
set_option maxHeartbeats 400000 in
theorem folded_any (w : World) (k : Int) (h1 : -9223372036854775808 ≤ k) (h2 : k ≤ 9223372036854775807) :
    Calls Try.prog 73 #[.int .i64 k] w fun e w' => e = .returned (.int .u64 (Lib.zigzag k : Nat)) ∧ w' = w := by
  by_cases hk : k < 0
  · go_enter Try.func73, Try.ntmps73
    go_wp2
    go_ret
    exact ⟨ret_int (Lib.zigzag_neg h1 hk), rfl⟩
  · have hk0 : 0 ≤ k := by omega
    go_enter Try.func73, Try.ntmps73
    go_wp2
    go_ret
    exact ⟨ret_int (Lib.zigzag_nonneg hk0).symm, rfl⟩
set_option maxHeartbeats 400000 in
theorem uint_any (w : World) (v : Value) (l : List UInt8) (n : Nat) (h : Reads w v l) (hl : l.length ≤ 1099511627776) (hn : n < 18446744073709551616) :
    Calls Try.prog 17 #[v, .int .u64 n] w fun e w' => ∃ v', e = .returned v' ∧ Owns w' w.heap.size v' (l ++ Num.uv n) ∧ Below w.heap.size w w' := by
  go_enter Try.func17, Try.ntmps17
  go_wp2_with fail
  refine (room_any w v l 10 h hl (by omega)).mono ?_
  rintro e w1 ⟨v1, rfl, hown1, hbel1⟩
  go_wp2_with fail
  refine (add_any w1 w.heap.size v1 l n hown1 hbel1.size hl hn).mono ?_
  rintro e w2 ⟨v2, rfl, hown2, hbel2⟩
  go_wp2_with fail
  go_ret
  exact ⟨v2, rfl, hown2, hbel1.trans hbel2⟩
set_option maxHeartbeats 400000 in
theorem int_any (w : World) (v : Value) (l : List UInt8) (k : Int) (h : Reads w v l) (hl : l.length ≤ 1099511627776) (h1 : -9223372036854775808 ≤ k) (h2 : k ≤ 9223372036854775807) :
    Calls Try.prog 18 #[v, .int .i64 k] w fun e w' => ∃ v', e = .returned v' ∧ Owns w' w.heap.size v' (l ++ Num.uv (Lib.zigzag k)) ∧ Below w.heap.size w w' := by
  go_enter Try.func18, Try.ntmps18
  go_wp2_with fail
  refine (room_any w v l 10 h hl (by omega)).mono ?_
  rintro e w1 ⟨v1, rfl, hown1, hbel1⟩
  go_wp2_with fail
  refine (folded_any _ k h1 h2).mono ?_
  rintro e w2 ⟨rfl, rfl⟩
  go_wp2_with fail
  refine (add_any w2 w.heap.size v1 l _ hown1 hbel1.size hl (Lib.zigzag_lt h1 h2)).mono ?_
  rintro e w3 ⟨v2, rfl, hown2, hbel2⟩
  go_wp2_with fail
  go_ret
  exact ⟨v2, rfl, hown2, hbel1.trans hbel2⟩
theorem uint_lit (w : World) (v : Value) (l : List UInt8) (n : Nat) (z : Int) (h : Reads w v l) (hl : l.length ≤ 1099511627776) (hn : n < 18446744073709551616) (hz : z = (n : Int)) :
    Calls Try.prog 17 #[v, .int .u64 z] w fun e w' => ∃ v', e = .returned v' ∧ Owns w' w.heap.size v' (l ++ Num.uv n) ∧ Below w.heap.size w w' := by
  subst hz
  exact uint_any w v l n h hl hn
end Go.Proofs.Ytpdlioidiobbbaa

namespace Go.Proofs.Ytpdlioidiobbbaa
open Go.RowKit

end Go.Proofs.Ytpdlioidiobbbaa

namespace Go.Proofs.Ytpdlioidiobbbaa
open Go.RowKit

theorem Owns.mono {w : World} {base base' : Nat} {v : Value} {l : List UInt8} (h : Owns w base v l) (hb : base' ≤ base) : Owns w base' v l := by
  refine ⟨h.1, ?_⟩
  rcases h.2 with h2 | ⟨g, cap, cur, h1, h2, h3⟩
  · exact .inl h2
  · exact .inr ⟨g, cap, cur, h1, by omega, h3⟩
theorem Owns.below {w w' : World} {base : Nat} {v : Value} {l : List UInt8} (h : Owns w base v l) (hb : Below w.heap.size w w') : Owns w' base v l := by
  refine ⟨h.1, ?_⟩
  rcases h.2 with h2 | ⟨g, cap, cur, h1, h2, h3, h4⟩
  · exact .inl h2
  · refine .inr ⟨g, cap, cur, h1, h2, ?_, h4⟩
    rw [hb.block g (Array.getElem?_eq_some_iff.1 h3).1]
    exact h3
theorem Owns.some {w : World} {base : Nat} {v : Value} {l : List UInt8} (h : Owns w base v l) (hl : 0 < l.length) :
    ∃ g cap, v = .slice (.some ⟨g, 0, none⟩) l.length cap ∧ base ≤ g ∧ ∀ j u, (bv l)[j]? = .some u → w.cell? ((⟨g, 0, none⟩ : Addr).add j) = .some u := by
  rcases h.2 with ⟨_, hn⟩ | ⟨g, cap, cur, rfl, h2, h3, h4⟩
  · omega
  · exact ⟨g, cap, rfl, h2, fun j u hj => World.ownsRow.cells h rfl j u hj⟩

theorem app_owns {w1 : World} {base : Nat} {v1 : Value} {a b : List UInt8} (h : w1.ownsRow base 5 1 v1 (a.length + b.length) (bv a ++ bv b)) : Owns w1 base v1 (a ++ b) := by
  unfold Owns
  rw [bv_append, List.length_append]; exact h

/-- 'append(x, y...)' where x is an owned row of bytes or nil and y reads as bytes, nil or not. -/
theorem wp_app {w : World} {ops : Array Oper} {rest : List Oper} {o : Oper} {a : Act} {Q : Exit → Act → World → Prop} (hgd : o.guard = none) (s x : Operand)
    (ho : o.op = .call { callee := .builtin .append, args := #[s, x], argTypes := #[49, 49] }) (base : Nat) (v : Value) (l m : List UInt8) (hs : a.eval s = v) (hown : Owns w base v l)
    (ao : Option Addr) (n cap : Nat) (hx : a.eval x = .slice ao n cap) (hn : n = m.length) (hnone : ao = none → m.length = 0 ∧ cap = 0)
    (hsrc : ∀ ad, ao = .some ad → ∀ j u, (bv m)[j]? = .some u → w.cell? (ad.add j) = .some u) (hb : l.length + m.length ≤ 140737488355328) (hbase : base ≤ w.heap.size)
    (h : ∀ v' w', Owns w' base v' (l ++ m) → w.grownBy w' v.ownBlock → wpList Try.prog ops Q rest (a.put o.dst v') w') : wpList Try.prog ops Q (o :: rest) a w := by
  subst hn
  obtain ⟨i0, hi, hz0, hz1, hz2⟩ := info_parts Try.info5
  cases ao with
  | none =>
    obtain ⟨h0, rfl⟩ := hnone rfl
    obtain rfl : m = [] := List.eq_nil_of_length_eq_zero h0
    refine wpList_append_own_none hgd s x 49 ho base 5 i0 1 Try.underlying49 hi v _ _ hs hown hx ?_
    refine h v w ?_ (World.grownBy.refl _ _)
    rw [List.append_nil]; exact hown
  | some ad =>
    refine wpList_append_own _ hgd s x 49 ho base 5 i0 (.int .u8 0) 1 1 Try.underlying49 hi hz0 hz1 hz2 rfl (by decide) v _ _ hs hown ad m.length cap (bv m) hx (by simp [bv_length]) (hsrc ad rfl) (bv_one m) (by unfold maxLen; omega) (by omega) hbase ?_
    intro v' w' ho' hg' _
    exact h v' w' (app_owns ho') hg'

theorem Reads.src {w w' : World} {ao : Option Addr} {n cap : Nat} {l : List UInt8} (h : Reads w (.slice ao n cap) l) (hb : Below w.heap.size w w') :
    n = l.length ∧ (ao = none → l.length = 0 ∧ cap = 0) ∧ ∀ ad, ao = .some ad → ∀ j u, (bv l)[j]? = .some u → w'.cell? (ad.add j) = .some u := by
  obtain ⟨ao', cap', he, h1, h2, h3, h4⟩ := h.below hb
  simp only [Value.slice.injEq] at he
  obtain ⟨rfl, rfl, rfl⟩ := he
  exact ⟨rfl, h3, h4⟩

theorem grown_below {base : Nat} {w wr w1 : World} {u : Value} {l : List UInt8} (hbel : Below base w wr) (hb : base ≤ wr.heap.size) (hown : Owns wr base u l) (hg : wr.grownBy w1 u.ownBlock) : Below base w w1 :=
  hbel.grown hg hb (fun k hk => (World.ownsRow.lt hown k hk).1)

/-- The string of bytes. -/
theorem conv_string (w : World) (v : Value) (l : List UInt8) (h : Reads w v l) : (convert 49 9 v).run Try.prog w = .ok (.string ⟨l.toArray⟩) w := by
  obtain ⟨ao, cap, rfl, h1, h2, h3, h4⟩ := h
  cases ao with
  | none =>
    obtain ⟨h0, rfl⟩ := h3 rfl
    obtain rfl : l = [] := List.eq_nil_of_length_eq_zero h0
    exact run_convert_bytes_nil w 49 5 Try.underlying49 Try.underlying5 0 0 9 Try.underlying9
  | some ad =>
    have hl : (loadCells ad l.length).run Try.prog w = .ok ((l.map fun c => (c.toNat : Int)).map (Value.int .u8)).toArray w := by
      have := run_loadCells_list (P := Try.prog) w ad (bv l) (h4 ad rfl)
      rw [bv_length] at this
      rw [this, List.map_map]; rfl
    rw [run_convert_bytes_string w 49 9 5 _ _ _ Try.underlying49 Try.underlying5 Try.underlying9, run_bytesToString w ad l.length cap _ hl, foldl_push_bytes]
    simp [Function.comp_def]

/-- A constant's bytes in their new row. -/
theorem const_reads (w : World) (l : List UInt8) (fr : Nat × Nat) (n : Nat) (hn : n = l.length) (hm : l.length ≤ maxLen) (C : Array Value) (hC : C = (bv l).toArray) :
    Reads (w.alloc (.cells C 5 fr)) (.slice (some ⟨w.heap.size, 0, none⟩) n n) l := by
  subst hn hC
  refine ⟨_, _, rfl, Nat.le_refl _, hm, (fun h => by cases h), ?_⟩
  rintro ad ⟨rfl⟩
  intro j u hj
  rw [Addr.add_lit]
  have : (w.alloc (.cells (bv l).toArray 5 fr)).heap[w.heap.size]? = some (.cells (bv l).toArray 5 fr) := by
    show (w.heap.push _)[w.heap.size]? = _
    simp
  unfold World.cell?
  simp only
  rw [this]
  simpa using hj

theorem Owns.shape {w : World} {base : Nat} {v : Value} {l : List UInt8} (h : Owns w base v l) (n : Nat) (hn : l.length = n) : ∃ a c, v = .slice a n c := by
  subst hn
  obtain ⟨a, c, e, _⟩ := h.reads
  exact ⟨a, c, e⟩

/-- The cells of a slice that isn't nil. -/
def At (w : World) (b off : Nat) (l : List UInt8) : Prop := ∀ j u, (bv l)[j]? = some u → w.cell? ⟨b, off + j, none⟩ = some u
theorem At.reads {w : World} {b off c : Nat} {l : List UInt8} (h : At w b off l) (hc : l.length ≤ c) (hm : c ≤ maxLen) (n : Nat) (hn : n = l.length) : Reads w (.slice (some ⟨b, off, none⟩) n c) l := by
  subst hn
  refine ⟨_, _, rfl, hc, hm, (fun h => by cases h), ?_⟩
  rintro ad ⟨rfl⟩
  exact fun j u hj => by rw [Addr.add_lit]; exact h j u hj
theorem At.part {w : World} {b off : Nat} {l : List UInt8} (h : At w b off l) (i m : Nat) : At w b (off + i) ((l.drop i).take m) := by
  intro j u hj
  have hj' : (bv l)[i + j]? = some u := by
    simp only [bv, List.getElem?_map, List.getElem?_take, List.getElem?_drop] at hj ⊢
    split at hj
    · exact hj
    · simp at hj
  have := h (i + j) u hj'
  rw [Nat.add_assoc]; exact this
end Go.Proofs.Ytpdlioidiobbbaa

namespace Go.Proofs.Ytpdlioidiobbbaa
open Go.RowKit

theorem strCells_bv (s : ByteArray) : Lib.strCells s = bv s.data.toList := rfl

end Go.Proofs.Ytpdlioidiobbbaa

namespace Go.Proofs.Ytpdlioidiobbbaa
open Go.RowKit

theorem ref_low (m : Nat) : (m : Int) % 128 + 128 = (((UInt8.ofNat (m % 128 + 128)).toNat : Nat) : Int) := by
  simp [UInt8.toNat_ofNat']; omega
theorem ref_last (m : Nat) (h : m < 128) : (m : Int) % 128 = (((UInt8.ofNat m).toNat : Nat) : Int) := by
  simp [UInt8.toNat_ofNat']; omega

theorem refu_step {w wr w1 : World} {base : Nat} {u v1 : Value} {pre : List UInt8} {f m n : Nat} {o : Obj} {z : Int} (hU : Num.uv n = pre ++ Num.uvF f m) (hf : m < 128 ^ (f + 1)) (h128 : 128 ≤ m) (hz : z = (((UInt8.ofNat (m % 128 + 128)).toNat : Nat) : Int))
    (hown : Owns wr base u pre) (hbel : Below base w wr) (hb : base ≤ wr.heap.size)
    (hown1 : w1.ownsRow base 5 1 v1 (pre.length + 1) (bv pre ++ [.int .u8 z]))
    (hg : (wr.alloc o).grownBy w1 u.ownBlock) :
    ∃ (pre' : List UInt8) (f' : Nat), m / 128 < 128 ^ (f' + 1) ∧ Num.uv n = pre' ++ Num.uvF f' (m / 128) ∧ Owns w1 base v1 pre' ∧ Below base w w1 := by
  cases f with
  | zero => simp at hf; omega
  | succ f' =>
    refine ⟨pre ++ [UInt8.ofNat (m % 128 + 128)], f', ?_, ?_, one_more hz hown1, below_grown hbel hb hown hg⟩
    · rw [Nat.pow_succ] at hf; omega
    · rw [hU, Num.uvF_great f' m h128]; simp

set_option maxRecDepth 100000 in
set_option maxHeartbeats 800000 in
theorem refuint_any (w : World) (n : Nat) (hn : n < 18446744073709551616) :
    Calls Try.prog 30 #[.int .u64 n] w fun e w' => ∃ v', e = .returned v' ∧ Owns w' w.heap.size v' (Num.uv n) ∧ Below w.heap.size w w' := by
  obtain ⟨i0, hi, hz0, hz1, hz2⟩ := info_parts Try.info5
  go_enter Try.func30, Try.ntmps30
  go_wp2
  go_loopw [0, 3] (fun vn vb wr => ∃ (pre : List UInt8) (f m : Nat), vn = .int .u64 m ∧ m < 18446744073709551616 ∧ m < 128 ^ (f + 1) ∧ Num.uv n = pre ++ Num.uvF f m ∧ Owns wr w.heap.size vb pre ∧ Below w.heap.size w wr)
    (fun vn _ _ => (intOf vn).toNat)
  case atStart => exact ⟨[], 9, n, rfl, hn, by omega, by simp [Num.uv], World.ownsRow_nil _ _ _ _, Below.refl _ _⟩
  case round =>
    obtain ⟨pre, f, m, rfl, hm, hf, HU, hown, hbel⟩ := hrel
    have hpl : pre.length + (Num.uvF f m).length ≤ 10 := by
      have := Num.uv_length n
      rw [HU] at this
      simpa using this
    have hU : Hid (Num.uv n = pre ++ Num.uvF f m) := HU
    clear HU
    have hsz := hbel.size
    by_cases hlt : 128 ≤ m
    · have hge : ((m : Int) / 128 == 0) = false := by rw [beq_eq_false_iff_ne]; omega
      go_wp2_with (first
        | (at_builtin; refine wpList_append_own _ rfl _ _ 49 rfl w.heap.size 5 i0 (.int .u8 0) 1 1 Try.underlying49 hi hz0 hz1 hz2 rfl (by decide) u3 _ _ rfl (hown.alloc _) ⟨wr.heap.size, 0, none⟩ 1 1 [.int .u8 ((m : Int) % 128 + 128)] rfl rfl (cell_one_new _ _ _) (by simp [Value.oneCell']) (by simp [maxLen]; omega) (by simp; omega) (by simp; omega) ?_; intro v1 w1 hown1 hgrow1 _)
        | go_in)
      obtain ⟨pre', f', g1, g2, g3, g4⟩ := refu_step hU.out hf hlt (ref_low m) hown hbel hsz hown1 hgrow1
      go_roundw
      case rel => exact ⟨pre', f', m / 128, by go_num, by omega, g1, g2, g3, g4⟩
      case measure => simp [intOf]; omega
    · have hge : ((m : Int) / 128 == 0) = true := by rw [beq_iff_eq]; omega
      have hm' : m < 128 := by omega
      clear hlt hf
      go_wp2_with (first
        | (at_builtin; refine wpList_append_own _ rfl _ _ 49 rfl w.heap.size 5 i0 (.int .u8 0) 1 1 Try.underlying49 hi hz0 hz1 hz2 rfl (by decide) u3 _ _ rfl (hown.alloc _) ⟨wr.heap.size, 0, none⟩ 1 1 [.int .u8 ((m : Int) % 128)] rfl rfl (cell_one_new _ _ _) (by simp [Value.oneCell']) (by simp [maxLen]; omega) (by simp; omega) (by simp; omega) ?_; intro v1 w1 hown1 hgrow1 _)
        | go_in)
      go_ret
      refine ⟨_, rfl, ?_, below_grown hbel hsz hown hgrow1⟩
      rw [hU.out, Num.uvF_small f m hm']
      exact one_more (ref_last m hm') hown1

theorem refuint_lit (w : World) (n : Nat) (z : Int) (hz : z = (n : Int)) (hn : n < 18446744073709551616) :
    Calls Try.prog 30 #[.int .u64 z] w fun e w' => ∃ v', e = .returned v' ∧ Owns w' w.heap.size v' (Num.uv n) ∧ Below w.heap.size w w' := by
  subst hz
  exact refuint_any w n hn

set_option maxHeartbeats 400000 in
theorem refint_any (w : World) (k : Int) (h1 : -9223372036854775808 ≤ k) (h2 : k ≤ 9223372036854775807) :
    Calls Try.prog 29 #[.int .i64 k] w fun e w' => ∃ v', e = .returned v' ∧ Owns w' w.heap.size v' (Num.uv (Lib.zigzag k)) ∧ Below w.heap.size w w' := by
  have hz := Lib.zigzag_lt h1 h2
  by_cases hk : 0 ≤ k
  · go_enter Try.func29, Try.ntmps29
    go_wp2_with fail
    refine (refuint_lit w (Lib.zigzag k) _ (by rw [Lib.zigzag_nonneg hk]; omega) hz).mono ?_
    rintro e w1 ⟨v1, rfl, hown1, hbel1⟩
    go_wp2_with fail
    go_ret
    exact ⟨_, rfl, hown1, hbel1⟩
  · have hk' : k < 0 := by omega
    go_enter Try.func29, Try.ntmps29
    go_wp2_with fail
    refine (refuint_lit w (Lib.zigzag k) _ (by unfold Lib.zigzag; rw [if_neg (by omega)]; omega) hz).mono ?_
    rintro e w1 ⟨v1, rfl, hown1, hbel1⟩
    go_wp2_with fail
    go_ret
    exact ⟨_, rfl, hown1, hbel1⟩

set_option maxHeartbeats 400000 in
theorem reftext_any (w : World) (s : ByteArray) (hs : s.size ≤ 140737488351232) :
    Calls Try.prog 91 #[.string s] w fun e w' => ∃ v', e = .returned v' ∧ Owns w' w.heap.size v' (Num.uv s.size ++ s.data.toList) ∧ Below w.heap.size w w' := by
  obtain ⟨i0, hi, hz0, hz1, hz2⟩ := info_parts Try.info5
  go_enter Try.func91, Try.ntmps91
  go_wp2_with fail
  refine (refuint_any w s.size (by omega)).mono ?_
  rintro e w1 ⟨v1, rfl, hown1, hbel1⟩
  have hul := Num.uv_length s.size
  have hsz := hbel1.size
  have hsl : s.data.toList.length = s.size := by simp
  generalize hLe : Num.uv s.size = L at *
  have HLe := hide hLe
  clear hLe
  go_wp2_with (first
    | (at_builtin; refine Lib.wpList_append_own_string _ rfl _ _ 49 9 rfl w.heap.size 5 i0 Try.underlying49 Try.underlying9 hi hz0 hz1 hz2 v1 L.length (bv L) rfl hown1 s rfl (by unfold maxLen; omega) (by omega) hsz ?_; intro v2 w2 hown2 hgrow2 _))
  go_ret
  rw [strCells_bv] at hown2
  rw [unhide HLe]
  have h4 : w2.ownsRow w.heap.size 5 1 v2 (L.length + s.data.toList.length) (bv L ++ bv s.data.toList) := by rw [hsl]; exact hown2
  exact ⟨_, rfl, app_owns h4, grown_below hbel1 hsz hown1 hgrow2⟩
end Go.Proofs.Ytpdlioidiobbbaa
