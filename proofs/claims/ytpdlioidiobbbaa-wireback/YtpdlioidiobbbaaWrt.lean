/- The writer: what it has so far, and its plain calls. -/
import Derived.Test.YtpdlioidiobbbaaTexts
import Derived.Test.YtpdlioidiobbbaaFm0
namespace Go.Proofs.Ytpdlioidiobbbaa
open Go.RowKit

abbrev Bs := List UInt8
/-- No block has changed, but those that hold bytes. -/
def KT (w w' : World) : Prop := w.heap.size ≤ w'.heap.size ∧ ∀ i, i < w.heap.size → (∀ cs fr, w.heap[i]? ≠ some (.cells cs 5 fr)) → w'.heap[i]? = w.heap[i]?
theorem KT.refl (w : World) : KT w w := ⟨Nat.le_refl _, fun _ _ _ => rfl⟩
theorem KT.trans {a b c : World} (h : KT a b) (k : KT b c) : KT a c :=
  ⟨Nat.le_trans h.1 k.1, fun i hi ht => by
    have e := h.2 i hi ht
    rw [k.2 i (Nat.lt_of_lt_of_le hi h.1) (by rw [e]; exact ht), e]⟩
theorem KT.of_grown {w w1 : World} {base : Nat} {u : Value} {l : List UInt8} (h : Owns w base u l) (hg : w.grownBy w1 u.ownBlock) : KT w w1 := by
  refine ⟨hg.size, fun i hi ht => hg.block i hi fun e => ?_⟩
  rcases h.2 with ⟨rfl, _⟩ | ⟨g, cap, cur, rfl, hb, hcur, _⟩
  · cases e
  · have : i = g := by simpa [Value.ownBlock] using e
    subst this
    exact ht _ _ hcur
theorem KT.alloc (w : World) (o : Obj) : KT w (w.alloc o) := ⟨by simp, fun i hi _ => (Fi.Grows.alloc w o).below.block i hi⟩
theorem KT.alloc_grown {w w1 : World} {o : Obj} {base : Nat} {u : Value} {l : List UInt8} (h : Owns w base u l) (hg : (w.alloc o).grownBy w1 u.ownBlock) : KT w w1 :=
  (KT.alloc w o).trans (KT.of_grown (World.ownsRow.alloc h o) hg)
set_option maxRecDepth 100000 in
set_option maxHeartbeats 800000 in
theorem add_kt (w : World) (base : Nat) (v : Value) (l : List UInt8) (n : Nat) (h : Owns w base v l) (hb : base ≤ w.heap.size) (hl : l.length ≤ 1099511627776) (hn : n < 18446744073709551616) :
    Calls Try.prog 71 #[v, .int .u64 n] w fun e w' => ∃ v', e = .returned v' ∧ Owns w' base v' (l ++ Num.uv n) ∧ Below base w w' ∧ KT w w' := by
  obtain ⟨i0, hi, hz0, hz1, hz2⟩ := info_parts Try.info5
  go_enter Try.func71, Try.ntmps71
  go_wp2
  go_loopw [0, 1] (fun vb vn wr => ∃ (pre : List UInt8) (f m : Nat), vn = .int .u64 m ∧ m < 18446744073709551616 ∧ m < 128 ^ (f + 1) ∧ Num.uv n = pre ++ Num.uvF f m ∧ Owns wr base vb (l ++ pre) ∧ Below base w wr ∧ KT w wr)
    (fun _ vn _ => (intOf vn).toNat)
  case atStart => exact ⟨[], 9, n, rfl, hn, by omega, by simp [Num.uv], by simpa using h, Below.refl _ _, KT.refl _⟩
  case round =>
    obtain ⟨pre, f, m, rfl, hm, hf, HU, hown, hbel, hkt⟩ := hrel
    have hpl : pre.length + (Num.uvF f m).length ≤ 10 := by
      have := Num.uv_length n
      rw [HU] at this
      simpa using this
    have hU : Hid (Num.uv n = pre ++ Num.uvF f m) := HU
    clear HU
    have hsz := hbel.size
    by_cases hlt : 128 ≤ m
    · have hge : (128 : Int) ≤ (m : Int) := by omega
      go_wp2_with (first
        | (at_builtin; refine wpList_append_own _ rfl _ _ 49 rfl base 5 i0 (.int .u8 0) 1 1 Try.underlying49 hi hz0 hz1 hz2 rfl (by decide) u0 _ _ rfl (hown.alloc _) ⟨wr.heap.size, 0, none⟩ 1 1 [.int .u8 (bits .or .u8 ((m : Int) % 256) 128)] rfl rfl (cell_one_new _ _ _) (by simp [Value.oneCell']) (by simp [maxLen]; omega) (by simp; omega) (by simp; omega) ?_; intro v1 w1 hown1 hgrow1 _)
        | go_in)
      obtain ⟨pre', f', g1, g2, g3, g4⟩ := add_step hU.out hm hf hlt hown hbel (by omega) hown1 hgrow1
      go_roundw
      case rel => exact ⟨pre', f', m / 128, by go_num, by omega, g1, g2, g3, g4, hkt.trans (KT.alloc_grown hown hgrow1)⟩
      case measure => simp [intOf]; omega
    · have hge : (m : Int) < 128 := by omega
      clear hlt hf
      go_wp2_with (first
        | (at_builtin; refine wpList_append_own _ rfl _ _ 49 rfl base 5 i0 (.int .u8 0) 1 1 Try.underlying49 hi hz0 hz1 hz2 rfl (by decide) u0 _ _ rfl (hown.alloc _) ⟨wr.heap.size, 0, none⟩ 1 1 [.int .u8 (m : Int)] rfl rfl (cell_one_new _ _ _) (by simp [Value.oneCell']) (by simp [maxLen]; omega) (by simp; omega) (by simp; omega) ?_; intro v1 w1 hown1 hgrow1 _)
        | go_in)
      go_ret
      refine ⟨_, rfl, ?_, below_grown hbel (by omega) hown hgrow1, hkt.trans (KT.alloc_grown hown hgrow1)⟩
      rw [hU.out, Num.uvF_small f m (by omega), ← List.append_assoc]
      exact one_more (by simp [UInt8.toNat_ofNat']; omega) hown1
/-- What a writer has behind something more: none, if that is too much. -/
def put : Option Bs → Option Bs → Option Bs
  | some l, some x => if l.length + x.length ≤ 1048576 then some (l ++ x) else none
  | _, _ => none
def cat : Option Bs → Option Bs → Option Bs
  | some l, some x => some (l ++ x)
  | _, _ => none
theorem put_none (x : Option Bs) : put none x = none := rfl
theorem put_none' (s : Option Bs) : put s none = none := by cases s <;> rfl
theorem put_put (s x y : Option Bs) : put (put s x) y = put s (cat x y) := by
  cases s with
  | none => rfl
  | some l =>
    cases x with
    | none => cases y <;> rfl
    | some x =>
      cases y with
      | none => rw [put_none']; rfl
      | some y =>
        simp only [cat]
        by_cases h : l.length + x.length ≤ 1048576
        · have e : put (some l) (some x) = some (l ++ x) := if_pos h
          rw [e]
          simp only [put, List.length_append, List.append_assoc, Nat.add_assoc]
        · have e : put (some l) (some x) = none := if_neg h
          rw [e]
          exact (if_neg (by simp; omega)).symm
theorem put_two (s : Option Bs) (x y : Bs) : put s (some (x ++ y)) = put (put s (some x)) (some y) := (put_put s (some x) (some y)).symm
theorem put_isNone (l x : Bs) : (put (some l) (some x)).isNone = decide (1048576 < l.length + x.length) := by
  simp only [put]
  by_cases h : l.length + x.length ≤ 1048576
  · rw [if_pos h, decide_eq_false (by omega)]; rfl
  · rw [if_neg h, decide_eq_true (by omega)]; rfl
theorem put_some {l x y : Bs} (h : put (some l) (some x) = some y) : l ++ x = y ∧ y.length ≤ 1048576 := by
  simp only [put] at h
  by_cases hl : l.length + x.length ≤ 1048576
  · rw [if_pos hl] at h
    obtain rfl := Option.some.inj h
    exact ⟨rfl, by simp; omega⟩
  · rw [if_neg hl] at h; cases h
/-- A writer at the block p, that was made when all else that counts was there (W0). -/
structure Wr (W0 : World) (p : Nat) (w : World) (s : Option Bs) : Prop where
  hp : p = W0.heap.size
  b : Below W0.heap.size W0 w
  z : p < w.heap.size
  ex : ∃ v l, w.cell? ⟨p, 0, none⟩ = some v ∧ w.cell? ⟨p, 1, none⟩ = some (.bool s.isNone) ∧ w.frozen? ⟨p, 0, none⟩ = false ∧ w.frozen? ⟨p, 1, none⟩ = false ∧ Owns w (p + 1) v l ∧ ∀ x, s = some x → l = x ∧ x.length ≤ 1048576
theorem Wr.up {W0 w w' : World} {p : Nat} {s : Option Bs} (h : Wr W0 p w s) (hb : Below w.heap.size w w') : Wr W0 p w' s := by
  obtain ⟨hp, b, z, v, l, c0, c1, f0, f1, o, hx⟩ := h
  refine ⟨hp, b.trans (hb.mono b.size), Nat.lt_of_lt_of_le z hb.size, v, l, ?_, ?_, ?_, ?_, o.below hb, hx⟩
  · rw [hb.cell (by exact z)]; exact c0
  · rw [hb.cell (by exact z)]; exact c1
  · rw [hb.frozen (by exact z)]; exact f0
  · rw [hb.frozen (by exact z)]; exact f1
theorem Wr.alloc {W0 w : World} {p : Nat} {s : Option Bs} (h : Wr W0 p w s) (o : Obj) : Wr W0 p (w.alloc o) s := h.up (Fi.Grows.alloc w o).below
/-- No block has changed, but the writer's, and those that hold bytes. -/
def KP (p : Nat) (w w' : World) : Prop := w.heap.size ≤ w'.heap.size ∧ ∀ i, i < w.heap.size → i ≠ p → (∀ cs fr, w.heap[i]? ≠ some (.cells cs 5 fr)) → w'.heap[i]? = w.heap[i]?
theorem KP.refl (p : Nat) (w : World) : KP p w w := ⟨Nat.le_refl _, fun _ _ _ _ => rfl⟩
theorem KP.trans {p : Nat} {a b c : World} (h : KP p a b) (k : KP p b c) : KP p a c :=
  ⟨Nat.le_trans h.1 k.1, fun i hi hp ht => by
    have e := h.2 i hi hp ht
    rw [k.2 i (Nat.lt_of_lt_of_le hi h.1) hp (by rw [e]; exact ht), e]⟩
theorem KT.kp {w w' : World} (h : KT w w') (p : Nat) : KP p w w' := ⟨h.1, fun i hi _ ht => h.2 i hi ht⟩
theorem KP.alloc (p : Nat) (w : World) (o : Obj) : KP p w (w.alloc o) := (KT.alloc w o).kp p
theorem KP.set (p o : Nat) (w : World) (v : Value) : KP p w (w.setCell ⟨p, o, none⟩ v) := ⟨by simp, fun i _ hp _ => Below.heap_setCell w _ v i hp⟩
/-- A box of one cell. -/
def Bx (w : World) (g : Nat) (t : TypeId) (v : Value) : Prop := w.heap[g]? = some (.cells #[v] t (0, 0))
theorem Bx.kp {w w' : World} {p g : Nat} {t : TypeId} {v : Value} (h : Bx w g t v) (hk : KP p w w') (hg : g ≠ p) (ht : t ≠ 5) : Bx w' g t v := by
  unfold Bx at h ⊢
  rw [hk.2 g (Array.getElem?_eq_some_iff.1 h).1 hg (fun cs fr e => ht (by rw [h] at e; simp at e; exact e.2.1)), h]
theorem Bx.new (w : World) (t : TypeId) (v : Value) : Bx (w.alloc (.cells #[v] t)) w.heap.size t v := heap_alloc_new w _
theorem Bx.cell {w : World} {g : Nat} {t : TypeId} {v : Value} (h : Bx w g t v) : w.cell? ⟨g, 0, none⟩ = some v := by
  unfold Bx at h
  simp [World.cell?, h]
/-- It wrote. -/
def Wrote (W0 : World) (p : Nat) (w : World) (s : Option Bs) (e : Ending) (w' : World) : Prop := e = .returned (.tuple #[]) ∧ Wr W0 p w' s ∧ KP p w w'
set_option maxRecDepth 100000 in
set_option maxHeartbeats 1600000 in
theorem wuint (W0 w : World) (p n : Nat) (s : Option Bs) (h : Wr W0 p w s) (hn : n < 18446744073709551616) :
    Calls Try.prog 75 #[.pointer (some ⟨p, 0, none⟩), .int .u64 n] w (Wrote W0 p w (put s (some (Num.uv n)))) := by
  obtain ⟨hp, b, z, v, l, c0, c1, f0, f1, o, hx⟩ := id h
  cases s with
  | none =>
    change w.cell? ⟨p, 1, none⟩ = some (.bool true) at c1
    clear hp hx
    go_enter Try.func75, Try.ntmps75
    go_wp2_with fail
    go_end0
    exact ⟨rfl, h, KP.refl _ _⟩
  | some x =>
    obtain ⟨rfl, hl⟩ := hx x rfl
    have HH : Hid (Wr W0 p w (some l)) := h
    obtain ⟨av, cv, rfl⟩ := o.shape l.length rfl
    have kA := add_kt w (p + 1) _ l n o (by omega) (by omega) hn
    have HP : Hid (p = W0.heap.size) := hp
    have HF : Hid (w.frozen? ⟨p, 0, none⟩ = false ∧ w.frozen? ⟨p, 1, none⟩ = false) := ⟨f0, f1⟩
    clear hx h hp b o
    go_enter Try.func75, Try.ntmps75
    go_wp2_with fail
    refine kA.mono ?_
    rintro e w1 ⟨v1, rfl, o1, b1, kt1⟩
    have HK : Hid (KT w w1) := kt1
    clear kt1
    obtain ⟨L, hL⟩ : ∃ L, L = l ++ Num.uv n := ⟨_, rfl⟩
    rw [← hL] at o1
    obtain ⟨M, hM⟩ : ∃ M, M = L.length := ⟨_, rfl⟩
    have hM2 : Hid (M = l.length + (Num.uv n).length) := by show M = _; rw [hM, hL]; simp
    have hu := Num.uv_length n
    have hMs : M ≤ 2000000 := by have := hM2.out; omega
    change w.cell? ⟨p, 1, none⟩ = some (.bool false) at c1
    obtain ⟨a1, k1, rfl⟩ := o1.shape M hM.symm
    have HL : Hid (L = l ++ Num.uv n ∧ M = L.length) := ⟨hL, hM⟩
    have d0 : w1.cell? ⟨p, 0, none⟩ = some (.slice av l.length cv) := by rw [b1.cell (by exact Nat.lt_succ_self p)]; exact c0
    have d1 : w1.cell? ⟨p, 1, none⟩ = some (.bool false) := by rw [b1.cell (by exact Nat.lt_succ_self p)]; exact c1
    have e0 : w1.frozen? ⟨p, 0, none⟩ = false := by rw [b1.frozen (by exact Nat.lt_succ_self p)]; exact f0
    have e1 : w1.frozen? ⟨p, 1, none⟩ = false := by rw [b1.frozen (by exact Nat.lt_succ_self p)]; exact f1
    have HO : Hid (Owns w1 (p + 1) (.slice a1 M k1) L) := o1
    have HB : Hid (Below (p + 1) w w1) := b1
    clear o1 b1 kA c0 c1 f0 f1 hL hM
    go_wp2_with fail
    go_end0
    refine ⟨rfl, ⟨HP.out, ?_, ?_, .slice a1 M k1, L, ?_, ?_, ?_, ?_, ?_, ?_⟩, ((HK.out.kp p).trans (KP.set p 0 _ _)).trans (KP.set p 1 _ _)⟩
    · have := HH.out.b.trans (HB.out.mono (by have := HP.out; omega))
      exact (this.setCell (p := ⟨p, 0, none⟩) (Nat.le_of_eq HP.out.symm) _).setCell (p := ⟨p, 1, none⟩) (Nat.le_of_eq HP.out.symm) _
    · have := HB.out.size; simp; omega
    · rw [World.cell?_setCell_other _ _ _ _ (by simp)]; exact World.cell?_setCell_same _ _ _ d0
    · rw [World.cell?_setCell_same (u := .bool false) _ _ _ (by rw [World.cell?_setCell_other _ _ _ _ (by simp)]; exact d1)]
      rw [put_isNone, ← hM2.out]
      simp
      omega
    · simpa using e0
    · simpa using e1
    · exact ownsRow_setCell_below (ownsRow_setCell_below HO.out (a := ⟨p, 0, none⟩) (Nat.lt_succ_self p) _) (a := ⟨p, 1, none⟩) (Nat.lt_succ_self p) _
    · intro x hx
      rw [HL.out.1]
      exact put_some hx
/-- A number's bytes. -/
def ei (k : Int) : Bs := Num.uv (Lib.zigzag k)
theorem wint (W0 w : World) (p : Nat) (k : Int) (s : Option Bs) (h : Wr W0 p w s) (h1 : -9223372036854775808 ≤ k) (h2 : k ≤ 9223372036854775807) :
    Calls Try.prog 76 #[.pointer (some ⟨p, 0, none⟩), .int .i64 k] w (Wrote W0 p w (put s (some (ei k)))) := by
  have hk := Lib.zigzag_lt h1 h2
  go_enter Try.func76, Try.ntmps76
  go_wp2_with fail
  refine (folded_any w k h1 h2).mono ?_
  rintro e w1 ⟨rfl, rfl⟩
  go_wp2_with fail
  refine (wuint W0 w1 p _ s h hk).mono ?_
  rintro e w2 ⟨rfl, H, K⟩
  go_wp2_with fail
  go_end0
  exact ⟨rfl, H, K⟩
theorem wwhole (W0 w : World) (p : Nat) (k : Int) (s : Option Bs) (h : Wr W0 p w s) (h1 : -9223372036854775808 ≤ k) (h2 : k ≤ 9223372036854775807) :
    Calls Try.prog 74 #[.pointer (some ⟨p, 0, none⟩), .int .i64 k] w (Wrote W0 p w (put s (some (ei k)))) := by
  go_enter Try.func74, Try.ntmps74
  go_wp2_with fail
  refine (wint W0 w p k s h h1 h2).mono ?_
  rintro e w2 ⟨rfl, H, K⟩
  go_wp2_with fail
  go_end0
  exact ⟨rfl, H, K⟩
/-- Whether: one byte. -/
def eb (b : Bool) : Bs := if b then [1] else [0]
theorem wyes (W0 w : World) (p : Nat) (b : Bool) (s : Option Bs) (h : Wr W0 p w s) :
    Calls Try.prog 87 #[.pointer (some ⟨p, 0, none⟩), .bool b] w (Wrote W0 p w (put s (some (eb b)))) := by
  cases b
  · go_enter Try.func87, Try.ntmps87
    go_wp2_with fail
    refine (wuint W0 w p 0 s h (by omega)).mono ?_
    rintro e w2 ⟨rfl, H, K⟩
    go_wp2_with fail
    go_end0
    exact ⟨rfl, H, K⟩
  · go_enter Try.func87, Try.ntmps87
    go_wp2_with fail
    refine (wuint W0 w p 1 s h (by omega)).mono ?_
    rintro e w2 ⟨rfl, H, K⟩
    go_wp2_with fail
    go_end0
    exact ⟨rfl, H, K⟩
/-- A text's bytes. -/
def et (s : Fi.Str) : Bs := Num.uv s.length ++ s
/-- Over, whatever it was. -/
theorem Wr.over {W0 w : World} {p : Nat} {s : Option Bs} (h : Wr W0 p w s) : Wr W0 p (w.setCell ⟨p, 1, none⟩ (.bool true)) none := by
  obtain ⟨hp, b, z, v, l, c0, c1, f0, f1, o, hx⟩ := h
  refine ⟨hp, b.setCell (p := ⟨p, 1, none⟩) (Nat.le_of_eq hp.symm) _, by simpa using z, v, l, ?_, World.cell?_setCell_same _ _ _ c1, by simpa using f0, by simpa using f1, ownsRow_setCell_below o (a := ⟨p, 1, none⟩) (Nat.lt_succ_self p) _, fun x h => by cases h⟩
  rw [World.cell?_setCell_other _ _ _ _ (by simp)]; exact c0
theorem text_step {w1 w2 : World} {p m : Nat} {v v2 : Value} {l t : Bs} {T : ByteArray} (ho : Owns w1 (p + 1) v l) (hTs : T.size = m) (hm : m = t.length) (hT : T.data.toList = t) (hz : p + 1 ≤ w1.heap.size)
    (h : w2.ownsRow (p + 1) 5 1 v2 (l.length + T.size) (bv l ++ Lib.strCells T)) (hg : w1.grownBy w2 v.ownBlock) : (∃ a k, v2 = .slice a (l.length + t.length) k) ∧ Owns w2 (p + 1) v2 (l ++ t) ∧ Below (p + 1) w1 w2 ∧ KT w1 w2 := by
  have b2 : Below (p + 1) w1 w2 := grown_below (Below.refl _ _) hz ho hg
  rw [strCells_bv, hT] at h
  have h4 : w2.ownsRow (p + 1) 5 1 v2 (l.length + t.length) (bv l ++ bv t) := by rw [← hm, ← hTs]; exact h
  have o2 : Owns w2 (p + 1) v2 (l ++ t) := app_owns h4
  exact ⟨o2.shape _ (by simp), o2, b2, KT.of_grown ho hg⟩
set_option maxRecDepth 100000 in
set_option maxHeartbeats 1600000 in
theorem wtext (W0 w : World) (p : Nat) (t : Fi.Str) (s : Option Bs) (h : Wr W0 p w s) (ht : t.length ≤ maxLen) :
    Calls Try.prog 78 #[.pointer (some ⟨p, 0, none⟩), .string ⟨t.toArray⟩] w (Wrote W0 p w (put s (some (et t)))) := by
  obtain ⟨i0, hi, hz0, hz1, hz2⟩ := info_parts Try.info5
  have hts : (⟨t.toArray⟩ : ByteArray).size = t.length := Fi.str_size t
  obtain ⟨T, hT⟩ : ∃ T : ByteArray, T = ⟨t.toArray⟩ := ⟨_, rfl⟩
  obtain ⟨m, hm⟩ : ∃ m, m = t.length := ⟨_, rfl⟩
  have hTd : T.data.toList = t := by rw [hT]
  have hTs : T.size = m := by rw [hT, hts, hm]
  unfold maxLen at ht
  have hmb : m ≤ 9223372036854775807 := by omega
  rw [← hT]
  have HS : Hid (put s (some (et t)) = put (put s (some (Num.uv m))) (some t)) := by show _ = _; unfold et; rw [put_two, hm]
  have HT : Hid (T.data.toList = t) := hTd
  have HM : Hid (m = t.length) := hm
  clear hts hT hTd hm ht
  have kU := wuint W0 w p m s h (by omega)
  go_enter Try.func78, Try.ntmps78
  go_wp2_with fail
  refine kU.mono ?_
  rintro e w1 ⟨rfl, H1, K1⟩
  have HK1 : Hid (KP p w w1) := K1
  clear K1
  obtain ⟨s1, hs1⟩ : ∃ s1, s1 = put s (some (Num.uv m)) := ⟨_, rfl⟩
  rw [← hs1] at H1
  have HS1 : Hid (put s (some (et t)) = put s1 (some t)) := by show _ = _; rw [HS.out, hs1]
  clear hs1 HS kU h
  obtain ⟨hp, b, z, v, l, c0, c1, f0, f1, o, hx⟩ := id H1
  have HH : Hid (Wr W0 p w1 s1) := H1
  have HP : Hid (p = W0.heap.size) := hp
  clear hp H1
  cases s1 with
  | none =>
    change w1.cell? ⟨p, 1, none⟩ = some (.bool true) at c1
    clear hx
    go_wp2_with fail
    go_end0
    exact ⟨rfl, by rw [HS1.out]; exact HH.out.over, HK1.out.trans (KP.set p 1 _ _)⟩
  | some x =>
    obtain ⟨rfl, hl⟩ := hx x rfl
    change w1.cell? ⟨p, 1, none⟩ = some (.bool false) at c1
    obtain ⟨av, cv, rfl⟩ := o.shape l.length rfl
    have HO : Hid (Owns w1 (p + 1) (.slice av l.length cv) l) := o
    clear hx o
    by_cases hc : (1048576 : Int) - (l.length : Int) < (m : Int)
    · go_wp2_with fail
      go_end0
      refine ⟨rfl, ?_, HK1.out.trans (KP.set p 1 _ _)⟩
      rw [HS1.out, show put (some l) (some t) = none from if_neg (by have := HM.out; omega)]
      exact HH.out.over
    · have hzl : p + 1 ≤ w1.heap.size := z
      go_wp2_with (first
        | (at_builtin; refine Lib.wpList_append_own_string _ rfl _ _ 49 9 rfl (p + 1) 5 i0 Try.underlying49 Try.underlying9 hi hz0 hz1 hz2 (.slice av l.length cv) l.length (bv l) rfl HO.out T rfl (by unfold maxLen; omega) (by omega) hzl ?_; intro v2 w2 hown2 hgrow2 _; have g2 := text_step HO.out hTs HM.out HT.out hzl hown2 hgrow2; clear hown2 hgrow2; obtain ⟨⟨a2, k2, rfl⟩, o2, b2, kt2⟩ := g2; have HKT : Hid (KT w1 w2) := kt2; clear kt2; have d0 : w2.cell? ⟨p, 0, none⟩ = some (.slice av l.length cv) := (by rw [b2.cell (by exact Nat.lt_succ_self p)]; exact c0); have e0 : w2.frozen? ⟨p, 0, none⟩ = false := (by rw [b2.frozen (by exact Nat.lt_succ_self p)]; exact f0)))
      have d1 : w2.cell? ⟨p, 1, none⟩ = some (.bool false) := by rw [b2.cell (by exact Nat.lt_succ_self p)]; exact c1
      have e1 : w2.frozen? ⟨p, 1, none⟩ = false := by rw [b2.frozen (by exact Nat.lt_succ_self p)]; exact f1
      have HB : Hid (Below (p + 1) w1 w2) := b2
      have HO2 : Hid (Owns w2 (p + 1) _ (l ++ t)) := o2
      clear o2 b2 c0 c1 f0 f1
      go_end0
      refine ⟨rfl, ?_, (HK1.out.trans (HKT.out.kp p)).trans (KP.set p 0 _ _)⟩
      have hle : l.length + t.length ≤ 1048576 := by have := HM.out; omega
      rw [HS1.out, show put (some l) (some t) = some (l ++ t) from if_pos hle]
      refine ⟨HP.out, ?_, ?_, _, l ++ t, World.cell?_setCell_same _ _ _ d0, ?_, by simpa using e0, by simpa using e1, ownsRow_setCell_below HO2.out (a := ⟨p, 0, none⟩) (Nat.lt_succ_self p) _, ?_⟩
      · exact (HH.out.b.trans (HB.out.mono (by have := HP.out; omega))).setCell (p := ⟨p, 0, none⟩) (Nat.le_of_eq HP.out.symm) _
      · have := HB.out.size; simp; omega
      · rw [World.cell?_setCell_other _ _ _ _ (by simp)]; exact d1
      · intro x hx
        obtain rfl := Option.some.inj hx
        exact ⟨rfl, by simp; omega⟩
end Go.Proofs.Ytpdlioidiobbbaa
