/- The contract of the law's awake: it is true, and changes nothing that was there. -/
import Derived.Test.YtcldmjjbiifejaaDoorSetBytes
import Derived.Test.YtcldmjjbiifejaaDoorWidth
import Derived.Test.YtcldmjjbiifejaaDoorPack
namespace Go.Proofs.YtcldmjjbiifejaaDoor
open Go.RowKit

theorem const_rds (w : World) (xs : List Value) (t : TypeId) (n : Nat) (hn : n = xs.length) (hm : xs.length ≤ maxLen) (C : Array Value) (hC : C = xs.toArray) :
    Rds (w.alloc (.cells C t)) (.slice (some ⟨w.heap.size, 0, none⟩) n n) xs := by
  subst hn hC
  refine ⟨_, _, rfl, Nat.le_refl _, hm, (fun h => by cases h), ?_⟩
  rintro ad ⟨rfl⟩
  intro j u hj
  rw [Addr.add_lit, World.cell?_alloc_at _ _ _ _ rfl]
  simpa using hj
theorem pack_lit (w : World) (v : Value) (l : List Int) (wd : Nat) (z : Int) (hz : z = (wd : Int)) (h : Rds w v (iv l)) (hw : wd ≤ 32) (hi : Ints l) (hl : l.length ≤ 5000) (hf : fits l wd = true) :
    Calls Tryd.prog 25 #[v, .int .i64 z] w fun e w' => ∃ v', e = .returned (.tuple #[v', .int .i64 0]) ∧
      Own w' w.heap.size 5 v' (nv .u8 (dg 8 ((wd * l.length + 7) / 8) (num wd l))) ∧ Below w.heap.size w w' := by
  subst hz; exact pack_any w v l wd h hw hi hl hf
theorem new_lit (w : World) (n : Nat) (z : Int) (hz : z = (n : Int)) (hn : n ≤ 1048576) :
    Calls Tryd.prog 17 #[.int .i64 z] w fun e w' => ∃ p B g, e = .returned (.tuple #[p, .int .i64 0]) ∧ ISet w' w.heap.size p n 0 B g ∧ Below w.heap.size w w' := by
  subst hz; exact new_any w n hn
theorem put_lit (w : World) (base n X B g : Nat) (p : Value) (r : Nat) (z : Int) (hz : z = (r : Int)) (h : ISet w base p n X B g) (hr : r < n) :
    Calls Tryd.prog 19 #[p, .int .i64 z] w fun e w' => e = .returned (.int .i64 0) ∧ ISet w' base p n (X ||| 2 ^ r) B g ∧ w.grownBy w' (some g) := by
  subst hz; exact put_any w base n X B g p r h hr
theorem ISet.own_ge {w : World} {base n X B g : Nat} {p : Value} (h : ISet w base p n X B g) : base ≤ g := (World.ownsRow.lt h.own g rfl).1

theorem awake_facts : num 2 [1, 2, 3] = 57 ∧ fits [1, 2, 3] 2 = true ∧ dg 8 ((2 * 3 + 7) / 8) 57 = [57] ∧ cnt 10 (0 ||| 2 ^ 0 ||| 2 ^ 9) = 2 ∧ dg 8 ((10 + 7) / 8) (0 ||| 2 ^ 0 ||| 2 ^ 9) = [1, 2] ∧ wdt 257 = 9 := by
  refine ⟨by decide +kernel, by decide +kernel, by decide +kernel, by decide +kernel, by decide +kernel, by decide +kernel⟩

set_option maxHeartbeats 800000 in
theorem awake_any (w : World) : Calls Tryd.prog 7 #[] w fun e w' => e = .returned (.bool true) ∧ Below w.heap.size w w' := by
  obtain ⟨L, hL⟩ : ∃ L : List Int, L = [1, 2, 3] := ⟨_, rfl⟩
  obtain ⟨f1, f2, f3, f4, f5, f6⟩ := awake_facts
  have f2' : fits L 2 = true := by rw [hL]; exact f2
  have fL : dg 8 ((2 * L.length + 7) / 8) (num 2 L) = [57] := by rw [hL, f1]; exact f3
  have hLl : L.length = 3 := by rw [hL]; rfl
  have HC : Hid (#[Value.int .i64 1, .int .i64 2, .int .i64 3] = (iv L).toArray) := by rw [hL]; exact (by simp [iv] : #[Value.int .i64 1, .int .i64 2, .int .i64 3] = (iv [1, 2, 3]).toArray)
  have hI : Ints L := by rw [hL]; intro x hx; simp at hx; omega
  have F2 := hide f2'
  have FL := hide fL
  have HL := hide hLl
  have HI := hide hI
  clear f1 f2 f2' f3 fL hLl hI hL
  obtain ⟨X, hX⟩ : ∃ X, X = 0 ||| 2 ^ 0 ||| 2 ^ 9 := ⟨_, rfl⟩
  rw [← hX] at f4 f5
  have F4 := hide f4
  have F5 := hide f5
  have F6 := hide f6
  have FX := hide hX
  clear f4 f5 f6 hX
  go_enter Tryd.func7, Tryd.ntmps7
  go_wp2_with fail
  refine (pack_lit _ _ L 2 _ rfl (const_rds w (iv L) _ 3 (by rw [iv_length, unhide HL]) (by rw [iv_length, unhide HL]; unfold maxLen; omega) _ (unhide HC)) (by omega) (unhide HI) (by rw [unhide HL]; omega) (unhide F2)).mono ?_
  rintro e1 w1 ⟨v1, rfl, hown1, hb1⟩
  rw [unhide FL] at hown1
  have hbw1 : Below w.heap.size w w1 := ((Below.refl _ _).alloc (Nat.le_refl _) _).trans (below_mono hb1 (by simp))
  clear hb1
  go_wp2_with fail
  refine (new_lit _ 10 _ rfl (by omega)).mono ?_
  rintro e1 w2 ⟨p, B, g, rfl, hs, hb2⟩
  have hr1 := hown1.rds
  have hgB := hs.own_ge
  have hp := hs.ptr
  subst hp
  clear hown1
  go_wp2_with fail
  refine (put_lit _ _ _ _ _ _ _ 0 _ rfl hs (by omega)).mono ?_
  rintro e1 w3 ⟨rfl, hs3, hg3⟩
  have hb3 : Below w1.heap.size w1 w3 := hb2.grown hg3 hb2.size (fun k hk => by cases hk; exact hgB)
  go_wp2_with fail
  refine (put_lit _ _ _ _ _ _ _ 9 _ rfl hs3 (by omega)).mono ?_
  rintro e1 w4 ⟨rfl, hs4, hg4⟩
  have hb4 : Below w1.heap.size w1 w4 := hb3.grown hg4 hb3.size (fun k hk => by cases hk; exact hgB)
  have hr4 := hr1.below hb4
  have hbw4 : Below w.heap.size w w4 := hbw1.trans (below_mono hb4 hbw1.size)
  rw [← unhide FX] at hs4
  have c4 := conv_string w4 v1 [57] (by decide) hr4
  have e57 : (⟨(byt [57]).toArray⟩ : ByteArray) = ⟨#[57]⟩ := rfl
  rw [e57] at c4
  have hcount := fun w' hb => count_any w' _ _ _ _ _ _ (hs4.below (w' := w') hb)
  have hbyt := fun w' hb => bytes_any w' _ _ _ _ _ _ (hs4.below (w' := w') hb)
  rw [unhide F4] at hcount
  simp only [unhide F5] at hbyt
  clear hs hs3 hs4 hg3 hg4 hr1 hr4 hb2 hb3 hb4
  go_wp2_with fail
  refine (hcount w4 (Below.refl _ _)).mono ?_
  rintro e1 w5 ⟨rfl, d, hd⟩
  have hb5 : Below w4.heap.size w4 w5 := by rw [hd]; exact below_drewN (Below.refl _ _) d
  clear hd
  go_wp2_with fail
  refine (hbyt w5 hb5).mono ?_
  rintro e1 w6 ⟨v6, rfl, hown6, hb6⟩
  have c6 := conv_string w6 v6 [1, 2] (by decide) hown6.rds
  have e12 : (⟨(byt [1, 2]).toArray⟩ : ByteArray) = ⟨#[1, 2]⟩ := rfl
  rw [e12] at c6
  clear hcount hbyt hown6
  go_wp2_with fail
  refine (width_any w6 257 (by omega)).mono ?_
  rintro e1 w7 ⟨rfl, rfl⟩
  rw [unhide F6]
  go_wp2
  go_ret
  have hb7 := hb5.trans (below_mono hb6 hb5.size)
  exact ⟨by simp, hbw4.trans (below_mono hb7 hbw4.size)⟩
end Go.Proofs.YtcldmjjbiifejaaDoor
