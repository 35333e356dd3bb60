/- Contracts of parts and Check. -/
import Derived.Test.YtiiihjihegilnaaGreatDoorQlk
namespace Go.Proofs.YtiiihjihegilnaaGreatDoor
open Go.RowKit Go.Sort

def prt (Bs Bq : Nat) : Array Value := #[.string ⟨#[115, 99, 104, 101, 109, 97]⟩, .func (.func 29) #[] #[.pointer (some ⟨Bs, 0, none⟩)], .string ⟨#[115, 112, 97, 110]⟩, .func (.func 32) #[] #[.pointer (some ⟨Bq, 0, none⟩)], .string ⟨#[102, 105, 108, 116, 101, 114]⟩, .func (.func 33) #[] #[.pointer (some ⟨Bs, 0, none⟩), .pointer (some ⟨Bq, 0, none⟩)], .string ⟨#[103, 114, 97, 105, 110]⟩, .func (.func 35) #[] #[.pointer (some ⟨Bq, 0, none⟩)], .string ⟨#[115, 101, 116, 115]⟩, .func (.func 36) #[] #[.pointer (some ⟨Bs, 0, none⟩), .pointer (some ⟨Bq, 0, none⟩)], .string ⟨#[97, 103, 103, 115]⟩, .func (.func 38) #[] #[.pointer (some ⟨Bs, 0, none⟩), .pointer (some ⟨Bq, 0, none⟩)], .string ⟨#[103, 114, 111, 117, 112, 115]⟩, .func (.func 40) #[] #[.pointer (some ⟨Bq, 0, none⟩)], .string ⟨#[114, 111, 119, 115]⟩, .func (.func 41) #[] #[.pointer (some ⟨Bq, 0, none⟩)]]
def nam : Nat → ByteArray
  | 0 => ⟨#[115, 99, 104, 101, 109, 97]⟩
  | 1 => ⟨#[115, 112, 97, 110]⟩
  | 2 => ⟨#[102, 105, 108, 116, 101, 114]⟩
  | 3 => ⟨#[103, 114, 97, 105, 110]⟩
  | 4 => ⟨#[115, 101, 116, 115]⟩
  | 5 => ⟨#[97, 103, 103, 115]⟩
  | 6 => ⟨#[103, 114, 111, 117, 112, 115]⟩
  | 7 => ⟨#[114, 111, 119, 115]⟩
  | _ => ⟨#[]⟩
theorem Qm.Ok.sls {w : World} {q : Qm} (h : q.Ok w) : (∃ a n c, q.t.tv = .slice a n c) ∧ (∃ a n c, q.t.kv = .slice a n c) ∧ (∃ a n c, q.sv = .slice a n c) ∧ (∃ a n c, q.av = .slice a n c) := by
  obtain ⟨at', nt, ct, ak, nk, ck, e1, e2, -⟩ := Fi.Tr.Ok.lens h.t
  refine ⟨⟨_, _, _, e1⟩, ⟨_, _, _, e2⟩, h.s.sl, ?_⟩
  obtain ⟨ao, cap, hv, _⟩ := h.a
  exact ⟨_, _, _, hv⟩
set_option maxHeartbeats 3200000 in
theorem parts_any (w : World) (D M : Int) (q : Qm) (h : q.Ok w) :
    Calls Tryz.prog 15 #[.agg #[.int .i64 D, .int .i64 M], .agg #[.int .i64 q.F, .int .i64 q.T, .int .i64 q.t.k, .int .i64 q.t.d, q.t.tv, .int .i64 q.t.lo, .int .i64 q.t.hi, q.t.kv, .int .i64 q.g, q.sv, q.av, .int .i64 q.G, .int .i64 q.R]] w fun e w' => e = .returned (.slice (some ⟨w.heap.size + 1 + 1, 0, none⟩) 8 8) ∧ w' = ((w.alloc (.cells #[.int .i64 D, .int .i64 M] 23)).alloc (.cells q.cells 33)).alloc (.cells (prt w.heap.size (w.heap.size + 1)) 61) := by
  obtain ⟨⟨a1, n1, c1, e1⟩, ⟨a2, n2, c2, e2⟩, ⟨a3, n3, c3, e3⟩, ⟨a4, n4, c4, e4⟩⟩ := h.sls
  unfold Qm.cells prt
  rw [e1, e2, e3, e4]
  clear h e1 e2 e3 e4
  go_enter Tryz.func15, Tryz.ntmps15
  go_wp2_with fail
  go_ret
  exact ⟨rfl, rfl⟩
/-- What Check answers. -/
def Tells (D M : Int) (q : Qm) (w : World) (e : Ending) (w' : World) : Prop :=
  ((∀ k, k < 8 → look D M q k = -1) ∧ e = .returned .nilIface ∨
   ∃ k B, k < 8 ∧ (∀ j, j < k → look D M q j = -1) ∧ look D M q k ≠ -1 ∧ e = .returned (.iface 42 (.pointer (some ⟨B, 0, none⟩))) ∧ w.heap.size ≤ B ∧ w'.cell? ⟨B, 0, none⟩ = some (.string (nam k)) ∧ w'.cell? ⟨B, 1, none⟩ = some (.int .i64 (look D M q k))) ∧ Below w.heap.size w w'
set_option maxRecDepth 100000 in
set_option maxHeartbeats 8000000 in
theorem check_any (w : World) (D M : Int) (q : Qm) (h : q.Ok w) (hD : D ≤ 9223372036854775807) :
    Calls Tryz.prog 6 #[.agg #[.int .i64 D, .int .i64 M], .agg #[.int .i64 q.F, .int .i64 q.T, .int .i64 q.t.k, .int .i64 q.t.d, q.t.tv, .int .i64 q.t.lo, .int .i64 q.t.hi, q.t.kv, .int .i64 q.g, q.sv, q.av, .int .i64 q.G, .int .i64 q.R]] w (Tells D M q w) := by
  obtain ⟨W, hW⟩ : ∃ W, W = (w.alloc (.cells #[.int .i64 D, .int .i64 M] 23)).alloc (.cells q.cells 33) := ⟨_, rfl⟩
  have gW : Below w.heap.size w W := by rw [hW]; exact ((Grows.alloc _ _).trans (Grows.alloc _ _)).below
  have zW : W.heap.size = w.heap.size + 2 := by rw [hW]; simp
  have kP := parts_any W D M q (h.up gW)
  obtain ⟨V, hV⟩ : ∃ V, V = ((W.alloc (.cells #[.int .i64 D, .int .i64 M] 23)).alloc (.cells q.cells 33)).alloc (.cells (prt W.heap.size (W.heap.size + 1)) 61) := ⟨_, rfl⟩
  have gV : Below W.heap.size W V := by rw [hV]; exact (((Grows.alloc _ _).trans (Grows.alloc _ _)).trans (Grows.alloc _ _)).below
  have hB : QB V W.heap.size (W.heap.size + 1) D M q := by
    refine ⟨?_, fun c u hu => ?_, (h.up gW).up gV⟩
    · rw [hV]; exact ⟨cell_grow (cell_grow (by simp) _) _, cell_grow (cell_grow (by simp) _) _⟩
    · rw [hV]; exact cell_grow (by rw [World.cell?_alloc_at _ _ _ _ (by simp)]; exact hu) _
  have hPt : ∀ c u, (prt W.heap.size (W.heap.size + 1))[c]? = some u → V.cell? ⟨W.heap.size + 1 + 1, c, none⟩ = some u := fun c u hu => by
    rw [hV, World.cell?_alloc_at _ _ _ _ (by simp)]; exact hu
  rw [← hV] at kP
  obtain ⟨⟨a1, n1, c1, e1⟩, ⟨a2, n2, c2, e2⟩, ⟨a3, n3, c3, e3⟩, ⟨a4, n4, c4, e4⟩⟩ := h.sls
  have hcs : q.cells = #[.int .i64 q.F, .int .i64 q.T, .int .i64 q.t.k, .int .i64 q.t.d, q.t.tv, .int .i64 q.t.lo, .int .i64 q.t.hi, q.t.kv, .int .i64 q.g, q.sv, q.av, .int .i64 q.G, .int .i64 q.R] := rfl
  rw [e1, e2, e3, e4] at hcs
  rw [hcs] at hW
  have HW : Hid _ := hW
  have HQ : Hid (QB V W.heap.size (W.heap.size + 1) D M q) := hB
  have HP : Aside _ := hPt
  have HBV : Hid (Below w.heap.size w V) := gW.trans (gV.mono gW.size)
  have hlt : W.heap.size + 1 + 1 < V.heap.size := World.block_lt_of_cell? _ _ (hPt 0 _ rfl)
  obtain ⟨Bs, hBs⟩ : ∃ Bs, Bs = W.heap.size := ⟨_, rfl⟩
  rw [← hBs] at HQ HP hlt kP
  rw [e1, e2, e3, e4] at kP ⊢
  rw [hW] at kP
  clear h hB hPt gW gV hV zW hcs hW e1 e2 e3 e4 hBs
  go_enter Tryz.func6, Tryz.ntmps6
  go_wp2_with fail
  refine kP.mono ?_
  rintro e V ⟨rfl, rfl⟩
  clear kP
  go_wp2_with fail
  go_loopg [12] 8 (fun kx v12 wr => ∃ (i : Nat), v12 = .int .i64 i ∧ i ≤ 8 ∧ 8 - i ≤ kx ∧ Hid (∀ j, j < i → look D M q j = -1) ∧ Hid (Below V.heap.size V wr))
  case atStart => exact ⟨0, rfl, by omega, Nat.le_refl _, (fun _ h => by omega), Below.refl _ _⟩
  case round =>
    obtain ⟨i, rfl, hi, hkx, HR, HB⟩ := hrel
    rcases (by omega : i = 0 ∨ i = 1 ∨ i = 2 ∨ i = 3 ∨ i = 4 ∨ i = 5 ∨ i = 6 ∨ i = 7 ∨ i = 8) with rfl | rfl | rfl | rfl | rfl | rfl | rfl | rfl | rfl
    · have q0 : V.cell? ⟨Bs + 1 + 1, 0, none⟩ = some (.string ⟨#[115, 99, 104, 101, 109, 97]⟩) := HP.out 0 _ rfl
      have q1 : V.cell? ⟨Bs + 1 + 1, 1, none⟩ = some (.func (.func 29) #[] #[.pointer (some ⟨Bs, 0, none⟩)]) := HP.out 1 _ rfl
      rw [← HB.out.cell (by exact hlt)] at q0 q1
      obtain ⟨X, hX⟩ : ∃ X, X = wr.alloc (.cells #[.string ⟨#[115, 99, 104, 101, 109, 97]⟩, .func (.func 29) #[] #[.pointer (some ⟨Bs, 0, none⟩)]] 61) := ⟨_, rfl⟩
      have bX : Below V.heap.size V X := by rw [hX]; exact HB.out.alloc HB.out.size _
      have kL := look0_any X Bs (Bs + 1) D M q (HQ.out.up bX)
      rw [hX] at kL
      have HX : Hid _ := hX
      have HBX : Hid _ := bX
      obtain ⟨r, hr⟩ : ∃ r, r = look D M q 0 := ⟨_, rfl⟩
      rw [← hr] at kL
      have HL : Hid _ := hr
      clear hX bX hr
      by_cases hm : r = -1
      · subst hm
        go_wp2_with fail
        refine kL.mono ?_
        rintro e w2 ⟨rfl, b2⟩
        rw [← HX.out] at b2
        have HB2 : Hid (Below V.heap.size V w2) := HBX.out.trans (b2.mono HBX.out.size)
        clear b2 kL q0 q1
        go_wp2_with fail
        go_roundg 7
        case measure => omega
        case rel => exact ⟨1, by go_num, by omega, by omega, (fun j hj => by rcases Nat.lt_or_eq_of_le (Nat.le_of_lt_succ hj) with h | rfl; exact HR.out j h; exact HL.out.symm), HB2⟩
      · have hmb : (r == -1) = false := by rw [beq_eq_false_iff_ne]; exact hm
        have hmn : (r != -1) = true := by unfold bne; rw [hmb]; rfl
        go_wp2_with fail
        refine kL.mono ?_
        rintro e w2 ⟨rfl, b2⟩
        rw [← HX.out] at b2
        have HB2 : Hid (Below V.heap.size V w2) := HBX.out.trans (b2.mono HBX.out.size)
        have y0 : w2.cell? ⟨wr.heap.size, 0, none⟩ = some (.string ⟨#[115, 99, 104, 101, 109, 97]⟩) := by rw [b2.cell (by rw [HX.out]; simp), HX.out]; simp
        clear b2 kL q0 q1
        go_wp2_with fail
        go_ret
        refine ⟨.inr ⟨0, _, by omega, HR.out, by rw [← HL.out]; exact hm, rfl, ?_, ?_, ?_⟩, ?_⟩
        · have h1 := HBV.out.size; have h2 := HB2.out.size; omega
        · simp [nam]
        · rw [← HL.out]; simp
        · exact (HBV.out.trans (HB2.out.mono HBV.out.size)).alloc (by have h1 := HBV.out.size; have h2 := HB2.out.size; omega) _
    · have q0 : V.cell? ⟨Bs + 1 + 1, 2, none⟩ = some (.string ⟨#[115, 112, 97, 110]⟩) := HP.out 2 _ rfl
      have q1 : V.cell? ⟨Bs + 1 + 1, 3, none⟩ = some (.func (.func 32) #[] #[.pointer (some ⟨Bs + 1, 0, none⟩)]) := HP.out 3 _ rfl
      rw [← HB.out.cell (by exact hlt)] at q0 q1
      obtain ⟨X, hX⟩ : ∃ X, X = wr.alloc (.cells #[.string ⟨#[115, 112, 97, 110]⟩, .func (.func 32) #[] #[.pointer (some ⟨Bs + 1, 0, none⟩)]] 61) := ⟨_, rfl⟩
      have bX : Below V.heap.size V X := by rw [hX]; exact HB.out.alloc HB.out.size _
      have kL := look1_any X Bs (Bs + 1) D M q (HQ.out.up bX)
      rw [hX] at kL
      have HX : Hid _ := hX
      have HBX : Hid _ := bX
      obtain ⟨r, hr⟩ : ∃ r, r = look D M q 1 := ⟨_, rfl⟩
      rw [← hr] at kL
      have HL : Hid _ := hr
      clear hX bX hr
      by_cases hm : r = -1
      · subst hm
        go_wp2_with fail
        refine kL.mono ?_
        rintro e w2 ⟨rfl, b2⟩
        rw [← HX.out] at b2
        have HB2 : Hid (Below V.heap.size V w2) := HBX.out.trans (b2.mono HBX.out.size)
        clear b2 kL q0 q1
        go_wp2_with fail
        go_roundg 6
        case measure => omega
        case rel => exact ⟨2, by go_num, by omega, by omega, (fun j hj => by rcases Nat.lt_or_eq_of_le (Nat.le_of_lt_succ hj) with h | rfl; exact HR.out j h; exact HL.out.symm), HB2⟩
      · have hmb : (r == -1) = false := by rw [beq_eq_false_iff_ne]; exact hm
        have hmn : (r != -1) = true := by unfold bne; rw [hmb]; rfl
        go_wp2_with fail
        refine kL.mono ?_
        rintro e w2 ⟨rfl, b2⟩
        rw [← HX.out] at b2
        have HB2 : Hid (Below V.heap.size V w2) := HBX.out.trans (b2.mono HBX.out.size)
        have y0 : w2.cell? ⟨wr.heap.size, 0, none⟩ = some (.string ⟨#[115, 112, 97, 110]⟩) := by rw [b2.cell (by rw [HX.out]; simp), HX.out]; simp
        clear b2 kL q0 q1
        go_wp2_with fail
        go_ret
        refine ⟨.inr ⟨1, _, by omega, HR.out, by rw [← HL.out]; exact hm, rfl, ?_, ?_, ?_⟩, ?_⟩
        · have h1 := HBV.out.size; have h2 := HB2.out.size; omega
        · simp [nam]
        · rw [← HL.out]; simp
        · exact (HBV.out.trans (HB2.out.mono HBV.out.size)).alloc (by have h1 := HBV.out.size; have h2 := HB2.out.size; omega) _
    · have q0 : V.cell? ⟨Bs + 1 + 1, 4, none⟩ = some (.string ⟨#[102, 105, 108, 116, 101, 114]⟩) := HP.out 4 _ rfl
      have q1 : V.cell? ⟨Bs + 1 + 1, 5, none⟩ = some (.func (.func 33) #[] #[.pointer (some ⟨Bs, 0, none⟩), .pointer (some ⟨Bs + 1, 0, none⟩)]) := HP.out 5 _ rfl
      rw [← HB.out.cell (by exact hlt)] at q0 q1
      obtain ⟨X, hX⟩ : ∃ X, X = wr.alloc (.cells #[.string ⟨#[102, 105, 108, 116, 101, 114]⟩, .func (.func 33) #[] #[.pointer (some ⟨Bs, 0, none⟩), .pointer (some ⟨Bs + 1, 0, none⟩)]] 61) := ⟨_, rfl⟩
      have bX : Below V.heap.size V X := by rw [hX]; exact HB.out.alloc HB.out.size _
      have kL := look2_any X Bs (Bs + 1) D M q (HQ.out.up bX)
      rw [hX] at kL
      have HX : Hid _ := hX
      have HBX : Hid _ := bX
      obtain ⟨r, hr⟩ : ∃ r, r = look D M q 2 := ⟨_, rfl⟩
      rw [← hr] at kL
      have HL : Hid _ := hr
      clear hX bX hr
      by_cases hm : r = -1
      · subst hm
        go_wp2_with fail
        refine kL.mono ?_
        rintro e w2 ⟨rfl, b2⟩
        rw [← HX.out] at b2
        have HB2 : Hid (Below V.heap.size V w2) := HBX.out.trans (b2.mono HBX.out.size)
        clear b2 kL q0 q1
        go_wp2_with fail
        go_roundg 5
        case measure => omega
        case rel => exact ⟨3, by go_num, by omega, by omega, (fun j hj => by rcases Nat.lt_or_eq_of_le (Nat.le_of_lt_succ hj) with h | rfl; exact HR.out j h; exact HL.out.symm), HB2⟩
      · have hmb : (r == -1) = false := by rw [beq_eq_false_iff_ne]; exact hm
        have hmn : (r != -1) = true := by unfold bne; rw [hmb]; rfl
        go_wp2_with fail
        refine kL.mono ?_
        rintro e w2 ⟨rfl, b2⟩
        rw [← HX.out] at b2
        have HB2 : Hid (Below V.heap.size V w2) := HBX.out.trans (b2.mono HBX.out.size)
        have y0 : w2.cell? ⟨wr.heap.size, 0, none⟩ = some (.string ⟨#[102, 105, 108, 116, 101, 114]⟩) := by rw [b2.cell (by rw [HX.out]; simp), HX.out]; simp
        clear b2 kL q0 q1
        go_wp2_with fail
        go_ret
        refine ⟨.inr ⟨2, _, by omega, HR.out, by rw [← HL.out]; exact hm, rfl, ?_, ?_, ?_⟩, ?_⟩
        · have h1 := HBV.out.size; have h2 := HB2.out.size; omega
        · simp [nam]
        · rw [← HL.out]; simp
        · exact (HBV.out.trans (HB2.out.mono HBV.out.size)).alloc (by have h1 := HBV.out.size; have h2 := HB2.out.size; omega) _
    · have q0 : V.cell? ⟨Bs + 1 + 1, 6, none⟩ = some (.string ⟨#[103, 114, 97, 105, 110]⟩) := HP.out 6 _ rfl
      have q1 : V.cell? ⟨Bs + 1 + 1, 7, none⟩ = some (.func (.func 35) #[] #[.pointer (some ⟨Bs + 1, 0, none⟩)]) := HP.out 7 _ rfl
      rw [← HB.out.cell (by exact hlt)] at q0 q1
      obtain ⟨X, hX⟩ : ∃ X, X = wr.alloc (.cells #[.string ⟨#[103, 114, 97, 105, 110]⟩, .func (.func 35) #[] #[.pointer (some ⟨Bs + 1, 0, none⟩)]] 61) := ⟨_, rfl⟩
      have bX : Below V.heap.size V X := by rw [hX]; exact HB.out.alloc HB.out.size _
      have kL := look3_any X Bs (Bs + 1) D M q (HQ.out.up bX)
      rw [hX] at kL
      have HX : Hid _ := hX
      have HBX : Hid _ := bX
      obtain ⟨r, hr⟩ : ∃ r, r = look D M q 3 := ⟨_, rfl⟩
      rw [← hr] at kL
      have HL : Hid _ := hr
      clear hX bX hr
      by_cases hm : r = -1
      · subst hm
        go_wp2_with fail
        refine kL.mono ?_
        rintro e w2 ⟨rfl, b2⟩
        rw [← HX.out] at b2
        have HB2 : Hid (Below V.heap.size V w2) := HBX.out.trans (b2.mono HBX.out.size)
        clear b2 kL q0 q1
        go_wp2_with fail
        go_roundg 4
        case measure => omega
        case rel => exact ⟨4, by go_num, by omega, by omega, (fun j hj => by rcases Nat.lt_or_eq_of_le (Nat.le_of_lt_succ hj) with h | rfl; exact HR.out j h; exact HL.out.symm), HB2⟩
      · have hmb : (r == -1) = false := by rw [beq_eq_false_iff_ne]; exact hm
        have hmn : (r != -1) = true := by unfold bne; rw [hmb]; rfl
        go_wp2_with fail
        refine kL.mono ?_
        rintro e w2 ⟨rfl, b2⟩
        rw [← HX.out] at b2
        have HB2 : Hid (Below V.heap.size V w2) := HBX.out.trans (b2.mono HBX.out.size)
        have y0 : w2.cell? ⟨wr.heap.size, 0, none⟩ = some (.string ⟨#[103, 114, 97, 105, 110]⟩) := by rw [b2.cell (by rw [HX.out]; simp), HX.out]; simp
        clear b2 kL q0 q1
        go_wp2_with fail
        go_ret
        refine ⟨.inr ⟨3, _, by omega, HR.out, by rw [← HL.out]; exact hm, rfl, ?_, ?_, ?_⟩, ?_⟩
        · have h1 := HBV.out.size; have h2 := HB2.out.size; omega
        · simp [nam]
        · rw [← HL.out]; simp
        · exact (HBV.out.trans (HB2.out.mono HBV.out.size)).alloc (by have h1 := HBV.out.size; have h2 := HB2.out.size; omega) _
    · have q0 : V.cell? ⟨Bs + 1 + 1, 8, none⟩ = some (.string ⟨#[115, 101, 116, 115]⟩) := HP.out 8 _ rfl
      have q1 : V.cell? ⟨Bs + 1 + 1, 9, none⟩ = some (.func (.func 36) #[] #[.pointer (some ⟨Bs, 0, none⟩), .pointer (some ⟨Bs + 1, 0, none⟩)]) := HP.out 9 _ rfl
      rw [← HB.out.cell (by exact hlt)] at q0 q1
      obtain ⟨X, hX⟩ : ∃ X, X = wr.alloc (.cells #[.string ⟨#[115, 101, 116, 115]⟩, .func (.func 36) #[] #[.pointer (some ⟨Bs, 0, none⟩), .pointer (some ⟨Bs + 1, 0, none⟩)]] 61) := ⟨_, rfl⟩
      have bX : Below V.heap.size V X := by rw [hX]; exact HB.out.alloc HB.out.size _
      have kL := look4_any X Bs (Bs + 1) D M q (HQ.out.up bX) hD
      rw [hX] at kL
      have HX : Hid _ := hX
      have HBX : Hid _ := bX
      obtain ⟨r, hr⟩ : ∃ r, r = look D M q 4 := ⟨_, rfl⟩
      rw [← hr] at kL
      have HL : Hid _ := hr
      clear hX bX hr
      by_cases hm : r = -1
      · subst hm
        go_wp2_with fail
        refine kL.mono ?_
        rintro e w2 ⟨rfl, b2⟩
        rw [← HX.out] at b2
        have HB2 : Hid (Below V.heap.size V w2) := HBX.out.trans (b2.mono HBX.out.size)
        clear b2 kL q0 q1
        go_wp2_with fail
        go_roundg 3
        case measure => omega
        case rel => exact ⟨5, by go_num, by omega, by omega, (fun j hj => by rcases Nat.lt_or_eq_of_le (Nat.le_of_lt_succ hj) with h | rfl; exact HR.out j h; exact HL.out.symm), HB2⟩
      · have hmb : (r == -1) = false := by rw [beq_eq_false_iff_ne]; exact hm
        have hmn : (r != -1) = true := by unfold bne; rw [hmb]; rfl
        go_wp2_with fail
        refine kL.mono ?_
        rintro e w2 ⟨rfl, b2⟩
        rw [← HX.out] at b2
        have HB2 : Hid (Below V.heap.size V w2) := HBX.out.trans (b2.mono HBX.out.size)
        have y0 : w2.cell? ⟨wr.heap.size, 0, none⟩ = some (.string ⟨#[115, 101, 116, 115]⟩) := by rw [b2.cell (by rw [HX.out]; simp), HX.out]; simp
        clear b2 kL q0 q1
        go_wp2_with fail
        go_ret
        refine ⟨.inr ⟨4, _, by omega, HR.out, by rw [← HL.out]; exact hm, rfl, ?_, ?_, ?_⟩, ?_⟩
        · have h1 := HBV.out.size; have h2 := HB2.out.size; omega
        · simp [nam]
        · rw [← HL.out]; simp
        · exact (HBV.out.trans (HB2.out.mono HBV.out.size)).alloc (by have h1 := HBV.out.size; have h2 := HB2.out.size; omega) _
    · have q0 : V.cell? ⟨Bs + 1 + 1, 10, none⟩ = some (.string ⟨#[97, 103, 103, 115]⟩) := HP.out 10 _ rfl
      have q1 : V.cell? ⟨Bs + 1 + 1, 11, none⟩ = some (.func (.func 38) #[] #[.pointer (some ⟨Bs, 0, none⟩), .pointer (some ⟨Bs + 1, 0, none⟩)]) := HP.out 11 _ rfl
      rw [← HB.out.cell (by exact hlt)] at q0 q1
      obtain ⟨X, hX⟩ : ∃ X, X = wr.alloc (.cells #[.string ⟨#[97, 103, 103, 115]⟩, .func (.func 38) #[] #[.pointer (some ⟨Bs, 0, none⟩), .pointer (some ⟨Bs + 1, 0, none⟩)]] 61) := ⟨_, rfl⟩
      have bX : Below V.heap.size V X := by rw [hX]; exact HB.out.alloc HB.out.size _
      have kL := look5_any X Bs (Bs + 1) D M q (HQ.out.up bX)
      rw [hX] at kL
      have HX : Hid _ := hX
      have HBX : Hid _ := bX
      obtain ⟨r, hr⟩ : ∃ r, r = look D M q 5 := ⟨_, rfl⟩
      rw [← hr] at kL
      have HL : Hid _ := hr
      clear hX bX hr
      by_cases hm : r = -1
      · subst hm
        go_wp2_with fail
        refine kL.mono ?_
        rintro e w2 ⟨rfl, b2⟩
        rw [← HX.out] at b2
        have HB2 : Hid (Below V.heap.size V w2) := HBX.out.trans (b2.mono HBX.out.size)
        clear b2 kL q0 q1
        go_wp2_with fail
        go_roundg 2
        case measure => omega
        case rel => exact ⟨6, by go_num, by omega, by omega, (fun j hj => by rcases Nat.lt_or_eq_of_le (Nat.le_of_lt_succ hj) with h | rfl; exact HR.out j h; exact HL.out.symm), HB2⟩
      · have hmb : (r == -1) = false := by rw [beq_eq_false_iff_ne]; exact hm
        have hmn : (r != -1) = true := by unfold bne; rw [hmb]; rfl
        go_wp2_with fail
        refine kL.mono ?_
        rintro e w2 ⟨rfl, b2⟩
        rw [← HX.out] at b2
        have HB2 : Hid (Below V.heap.size V w2) := HBX.out.trans (b2.mono HBX.out.size)
        have y0 : w2.cell? ⟨wr.heap.size, 0, none⟩ = some (.string ⟨#[97, 103, 103, 115]⟩) := by rw [b2.cell (by rw [HX.out]; simp), HX.out]; simp
        clear b2 kL q0 q1
        go_wp2_with fail
        go_ret
        refine ⟨.inr ⟨5, _, by omega, HR.out, by rw [← HL.out]; exact hm, rfl, ?_, ?_, ?_⟩, ?_⟩
        · have h1 := HBV.out.size; have h2 := HB2.out.size; omega
        · simp [nam]
        · rw [← HL.out]; simp
        · exact (HBV.out.trans (HB2.out.mono HBV.out.size)).alloc (by have h1 := HBV.out.size; have h2 := HB2.out.size; omega) _
    · have q0 : V.cell? ⟨Bs + 1 + 1, 12, none⟩ = some (.string ⟨#[103, 114, 111, 117, 112, 115]⟩) := HP.out 12 _ rfl
      have q1 : V.cell? ⟨Bs + 1 + 1, 13, none⟩ = some (.func (.func 40) #[] #[.pointer (some ⟨Bs + 1, 0, none⟩)]) := HP.out 13 _ rfl
      rw [← HB.out.cell (by exact hlt)] at q0 q1
      obtain ⟨X, hX⟩ : ∃ X, X = wr.alloc (.cells #[.string ⟨#[103, 114, 111, 117, 112, 115]⟩, .func (.func 40) #[] #[.pointer (some ⟨Bs + 1, 0, none⟩)]] 61) := ⟨_, rfl⟩
      have bX : Below V.heap.size V X := by rw [hX]; exact HB.out.alloc HB.out.size _
      have kL := look6_any X Bs (Bs + 1) D M q (HQ.out.up bX)
      rw [hX] at kL
      have HX : Hid _ := hX
      have HBX : Hid _ := bX
      obtain ⟨r, hr⟩ : ∃ r, r = look D M q 6 := ⟨_, rfl⟩
      rw [← hr] at kL
      have HL : Hid _ := hr
      clear hX bX hr
      by_cases hm : r = -1
      · subst hm
        go_wp2_with fail
        refine kL.mono ?_
        rintro e w2 ⟨rfl, b2⟩
        rw [← HX.out] at b2
        have HB2 : Hid (Below V.heap.size V w2) := HBX.out.trans (b2.mono HBX.out.size)
        clear b2 kL q0 q1
        go_wp2_with fail
        go_roundg 1
        case measure => omega
        case rel => exact ⟨7, by go_num, by omega, by omega, (fun j hj => by rcases Nat.lt_or_eq_of_le (Nat.le_of_lt_succ hj) with h | rfl; exact HR.out j h; exact HL.out.symm), HB2⟩
      · have hmb : (r == -1) = false := by rw [beq_eq_false_iff_ne]; exact hm
        have hmn : (r != -1) = true := by unfold bne; rw [hmb]; rfl
        go_wp2_with fail
        refine kL.mono ?_
        rintro e w2 ⟨rfl, b2⟩
        rw [← HX.out] at b2
        have HB2 : Hid (Below V.heap.size V w2) := HBX.out.trans (b2.mono HBX.out.size)
        have y0 : w2.cell? ⟨wr.heap.size, 0, none⟩ = some (.string ⟨#[103, 114, 111, 117, 112, 115]⟩) := by rw [b2.cell (by rw [HX.out]; simp), HX.out]; simp
        clear b2 kL q0 q1
        go_wp2_with fail
        go_ret
        refine ⟨.inr ⟨6, _, by omega, HR.out, by rw [← HL.out]; exact hm, rfl, ?_, ?_, ?_⟩, ?_⟩
        · have h1 := HBV.out.size; have h2 := HB2.out.size; omega
        · simp [nam]
        · rw [← HL.out]; simp
        · exact (HBV.out.trans (HB2.out.mono HBV.out.size)).alloc (by have h1 := HBV.out.size; have h2 := HB2.out.size; omega) _
    · have q0 : V.cell? ⟨Bs + 1 + 1, 14, none⟩ = some (.string ⟨#[114, 111, 119, 115]⟩) := HP.out 14 _ rfl
      have q1 : V.cell? ⟨Bs + 1 + 1, 15, none⟩ = some (.func (.func 41) #[] #[.pointer (some ⟨Bs + 1, 0, none⟩)]) := HP.out 15 _ rfl
      rw [← HB.out.cell (by exact hlt)] at q0 q1
      obtain ⟨X, hX⟩ : ∃ X, X = wr.alloc (.cells #[.string ⟨#[114, 111, 119, 115]⟩, .func (.func 41) #[] #[.pointer (some ⟨Bs + 1, 0, none⟩)]] 61) := ⟨_, rfl⟩
      have bX : Below V.heap.size V X := by rw [hX]; exact HB.out.alloc HB.out.size _
      have kL := look7_any X Bs (Bs + 1) D M q (HQ.out.up bX)
      rw [hX] at kL
      have HX : Hid _ := hX
      have HBX : Hid _ := bX
      obtain ⟨r, hr⟩ : ∃ r, r = look D M q 7 := ⟨_, rfl⟩
      rw [← hr] at kL
      have HL : Hid _ := hr
      clear hX bX hr
      by_cases hm : r = -1
      · subst hm
        go_wp2_with fail
        refine kL.mono ?_
        rintro e w2 ⟨rfl, b2⟩
        rw [← HX.out] at b2
        have HB2 : Hid (Below V.heap.size V w2) := HBX.out.trans (b2.mono HBX.out.size)
        clear b2 kL q0 q1
        go_wp2_with fail
        go_roundg 0
        case measure => omega
        case rel => exact ⟨8, by go_num, by omega, by omega, (fun j hj => by rcases Nat.lt_or_eq_of_le (Nat.le_of_lt_succ hj) with h | rfl; exact HR.out j h; exact HL.out.symm), HB2⟩
      · have hmb : (r == -1) = false := by rw [beq_eq_false_iff_ne]; exact hm
        have hmn : (r != -1) = true := by unfold bne; rw [hmb]; rfl
        go_wp2_with fail
        refine kL.mono ?_
        rintro e w2 ⟨rfl, b2⟩
        rw [← HX.out] at b2
        have HB2 : Hid (Below V.heap.size V w2) := HBX.out.trans (b2.mono HBX.out.size)
        have y0 : w2.cell? ⟨wr.heap.size, 0, none⟩ = some (.string ⟨#[114, 111, 119, 115]⟩) := by rw [b2.cell (by rw [HX.out]; simp), HX.out]; simp
        clear b2 kL q0 q1
        go_wp2_with fail
        go_ret
        refine ⟨.inr ⟨7, _, by omega, HR.out, by rw [← HL.out]; exact hm, rfl, ?_, ?_, ?_⟩, ?_⟩
        · have h1 := HBV.out.size; have h2 := HB2.out.size; omega
        · simp [nam]
        · rw [← HL.out]; simp
        · exact (HBV.out.trans (HB2.out.mono HBV.out.size)).alloc (by have h1 := HBV.out.size; have h2 := HB2.out.size; omega) _
    · go_wp2_with fail
      go_ret
      exact ⟨.inl ⟨HR.out, rfl⟩, HBV.out.trans (HB.out.mono HBV.out.size)⟩
end Go.Proofs.YtiiihjihegilnaaGreatDoor
