/- The contract of Parse. -/
import Derived.Test.YtfhldldcfdimhaaAdd5
import Derived.Deep.LoopGhost
namespace Go.Proofs.Ytfhldldcfdimhaa
open Go.RowKit Go.Shelf Go.Sort

set_option maxHeartbeats 400000 in
theorem read_any (w : World) (v : Value) (l : List UInt8) (h : Reads w v l) :
    Calls Try.prog 31 #[v] w fun e w' => e = .returned (.pointer (some ⟨w.heap.size, 0, none⟩)) ∧ w' = w.alloc (.cells #[v, .int .i64 0] 84) := by
  obtain ⟨ao, n, cap, rfl⟩ : ∃ ao n cap, v = .slice ao n cap := by obtain ⟨ao, cap, rfl, _⟩ := h; exact ⟨_, _, _, rfl⟩
  clear h
  go_enter Try.func31, Try.ntmps31
  go_wp2_with fail
  go_ret
  exact ⟨rfl, rfl⟩
theorem PS.start {w : World} {v : Value} {l : List UInt8} (h : Reads w v l) : PS w.heap.size (w.alloc (.cells #[v, .int .i64 0] 84)) w.heap.size l 0 0 := by
  refine ⟨Nat.le_refl _, Nat.zero_le _, v, heap_alloc_new w _, ?_, fun h => absurd rfl h⟩
  rw [if_pos rfl, List.drop_zero]
  have hb : Below w.heap.size w (w.alloc (.cells #[v, .int .i64 0] 84)) := (Below.refl _ _).alloc (Nat.le_refl _) _
  have hr : Reads (w.alloc (.cells #[v, .int .i64 0] 84)) v l := by
    obtain ⟨ao, cap, rfl, h1, h2, h3, h4⟩ := id h
    refine ⟨ao, cap, rfl, h1, h2, h3, fun ad ha j u hj => ?_⟩
    have hc := h4 ad ha j u hj
    rw [hb.cell (World.block_lt_of_cell? _ _ hc)]
    exact hc
  refine ⟨hr, fun ad n c hv hn => ?_⟩
  obtain ⟨ao, cap, hv', h1, h2, h3, h4⟩ := h
  rw [hv'] at hv
  simp only [Value.slice.injEq] at hv
  obtain ⟨rfl, rfl, rfl⟩ := hv
  have := h4 ad rfl 0 _ (bv_get l 0 hn)
  have hlt := World.block_lt_of_cell? _ _ this
  simpa [Addr.add] using hlt
theorem PS.keep2 {B R base p e : Nat} {w w' : World} {l : List UInt8} (h : PS B w R l p e) (hb : Below base w w') (hR : R < base) : PS B w' R l p e := by
  obtain ⟨h1, h2, lv, h3, h4, h5⟩ := h
  refine ⟨h1, h2, lv, ?_, h4.keep (hb.mono (by omega)), h5⟩
  rw [hb.block R hR]; exact h3
theorem PS.lt {B R p e : Nat} {w : World} {l : List UInt8} (h : PS B w R l p e) : R < w.heap.size := by
  obtain ⟨_, _, lv, h3, _⟩ := h
  exact (Array.getElem?_eq_some_iff.1 h3).1
theorem DD.other {w w' : World} {base D R : Nat} {v : Value} {ts : List Str} (h : DD w base D v ts) (hg : w.grownBy w' (some R)) (hR : R < base) : DD w' base D v ts := by
  have hD : D < w.heap.size := (Array.getElem?_eq_some_iff.1 h.cell).1
  refine ⟨?_, h.ge, h.own.other hg fun e => ?_, h.ne, h.few⟩
  · rw [hg.block D hD (by have := h.ge; intro e; cases e; omega)]; exact h.cell
  · have := (World.ownsRow.lt h.own R e).1
    omega
theorem DD.idict {w : World} {base D : Nat} {v : Value} {ts : List Str} (h : DD w base D v ts) (hr : Ris ts) (hl : ts.length ≤ 4096) : IDict w (.pointer (some ⟨D, 0, none⟩)) ts :=
  ⟨⟨D, v, rfl, by rw [cell_of_row w D 0 _ 57 (0, 0) h.cell]; rfl, h.own.rds⟩, hr, hl, h.few⟩
/-- Where Parse begins its rounds. -/
def ini (l : List UInt8) : Nat × Nat × Option (List Str) := ((cS l 0 0 2).2.1, (cS l 0 0 2).2.2, if (cS l 0 0 2).1 ≤ 4096 then some [] else none)
/-- What Parse has at its end. -/
def fnl (l : List UInt8) : Nat × Nat × Option (List Str) := rnd l (ini l) (cS l 0 0 2).1
theorem fnl_facts {l : List UInt8} {ts : List Str} (h : (fnl l).2.2 = some ts) : Ris ts ∧ (∀ t ∈ ts, t.length ≤ 64) ∧ ts.length ≤ 4096 := by
  have hf := rnd_facts l (cS l 0 0 2).2.1 (cS l 0 0 2).2.2 (if (cS l 0 0 2).1 ≤ 4096 then some [] else none) (fun ts h => by split at h <;> simp at h; exact h.symm ▸ rfl) (cS l 0 0 2).1 ts h
  refine ⟨hf.1, hf.2.1, ?_⟩
  by_cases hc : (cS l 0 0 2).1 ≤ 4096
  · omega
  · exfalso
    have : ∀ k, (rnd l (ini l) k).2.2 = none := by
      intro k
      induction k with
      | zero => show (ini l).2.2 = none; unfold ini; simp only; rw [if_neg hc]
      | succ k ih =>
        have : (rnd l (ini l) (k + 1)).2.2 = (rnd l (ini l) k).2.2.bind _ := rfl
        rw [this, ih]; rfl
    have h0 := this (cS l 0 0 2).1
    unfold fnl at h
    rw [h0] at h
    cases h

set_option maxRecDepth 100000 in
set_option maxHeartbeats 4000000 in
theorem parse_any (w : World) (v : Value) (l : List UInt8) (h : Reads w v l) (hlb : l.length ≤ 140737488351232) :
    Calls Try.prog 13 #[v] w fun e w' =>
      (en l (fnl l).1 (fnl l).2.1 ≠ 0 ∧ e = .returned (.tuple #[.pointer none, .int .i64 (en l (fnl l).1 (fnl l).2.1 : Nat)]) ∨
       en l (fnl l).1 (fnl l).2.1 = 0 ∧ (fnl l).2.2 = none ∧ e = .returned (.tuple #[.pointer none, .int .i64 12]) ∨
       en l (fnl l).1 (fnl l).2.1 = 0 ∧ ∃ ts D, (fnl l).2.2 = some ts ∧ e = .returned (.tuple #[.pointer (some ⟨D, 0, none⟩), .int .i64 0]) ∧ IDict w' (.pointer (some ⟨D, 0, none⟩)) ts) ∧ Below w.heap.size w w' := by
  have kR := read_any w v l h
  have ps0 := PS.start h
  obtain ⟨ao, n, cap, rfl⟩ : ∃ ao n cap, v = .slice ao n cap := by obtain ⟨ao, cap, rfl, _⟩ := h; exact ⟨_, _, _, rfl⟩
  obtain ⟨W, hW⟩ : ∃ W, W = w.alloc (.cells #[.slice ao n cap, .int .i64 0] 84) := ⟨_, rfl⟩
  rw [← hW] at ps0 kR
  have bW : Below w.heap.size w W := by rw [hW]; exact (Below.refl _ _).alloc (Nat.le_refl _) _
  have zW : W.heap.size = w.heap.size + 1 := by rw [hW]; simp
  have kC := count_p w.heap.size W w.heap.size l 0 0 2 ps0 (by omega) (by omega) (by omega)
  have hcf := cS_facts l 0 0 2 (Nat.zero_le _)
  obtain ⟨c, hc⟩ : ∃ c, c = (cS l 0 0 2).1 := ⟨_, rfl⟩
  have hcl : c ≤ l.length := by
    by_cases he : (cS l 0 0 2).2.2 = 0
    · have := hcf.2.2 he; omega
    · have := hcf.2.1 he; omega
  obtain ⟨X, hX⟩ : ∃ X, X = rnd l (ini l) := ⟨_, rfl⟩
  have hXs : ∀ k, X (k + 1) = stp l (X k) := fun k => by rw [hX]; rfl
  have hX0 : X 0 = ((cS l 0 0 2).2.1, (cS l 0 0 2).2.2, if c ≤ 4096 then some [] else none) := by rw [hX, hc]; rfl
  have hXc : X c = fnl l := by rw [hX, hc]; rfl
  have hXl : ∀ k ts, (X k).2.2 = some ts → ts.length = k := fun k ts h => by
    rw [hX] at h
    exact (rnd_facts l _ _ _ (fun ts h => by split at h <;> simp at h; exact h.symm ▸ rfl) k ts h).2.2
  rw [← hXc]
  rw [← hc] at kC
  have HXS : Aside (∀ k, X (k + 1) = stp l (X k)) := hXs
  have HX0 : Hid (X 0 = ((cS l 0 0 2).2.1, (cS l 0 0 2).2.2, if c ≤ 4096 then some [] else none)) := hX0
  have HXC : Hid (X c = fnl l) := hXc
  have HXL : Aside (∀ k ts, (X k).2.2 = some ts → ts.length = k) := hXl
  have HBW : Hid (Below w.heap.size w W) := bW
  have HZW : Hid (W.heap.size = w.heap.size + 1) := zW
  clear h hcf hc hX hXs hX0 hXc hXl hW ps0 bW zW
  go_enter Try.func13, Try.ntmps13
  go_wp2_with fail
  refine kR.mono ?_
  rintro e w1 ⟨rfl, rfl⟩
  clear kR
  go_wp2_with fail
  refine kC.mono ?_
  rintro e w2 ⟨rfl, ps2, g2⟩
  clear kC
  have b2 : Below w.heap.size w w2 := HBW.out.trans (g2 |> fun g => grown_B g (Nat.le_refl _) (by have := HZW.out; omega))
  have z2 : w.heap.size + 1 ≤ w2.heap.size := by have := g2.size; have := HZW.out; omega
  obtain ⟨O, hO⟩ : ∃ O, O = (X 0).2.2 := ⟨_, rfl⟩
  have hps : PS w.heap.size w2 w.heap.size l (X 0).1 (X 0).2.1 := by rw [HX0.out]; exact ps2
  have dd0 : DD (w2.alloc (.cells #[.slice none 0 0] 57)) (w.heap.size + 1) w2.heap.size (.slice none 0 0) [] :=
    ⟨heap_alloc_new w2 _, z2, World.ownsRow_nil _ _ _ _, by simp [Value.ownBlock], (fun _ h => by cases h)⟩
  have ps3 : PS w.heap.size (w2.alloc (.cells #[.slice none 0 0] 57)) w.heap.size l (X 0).1 (X 0).2.1 := hps.keep2 (base := w2.heap.size) ((Below.refl _ _).alloc (Nat.le_refl _) _) (by omega)
  have b3 : Below w.heap.size w (w2.alloc (.cells #[.slice none 0 0] 57)) := b2.alloc b2.size _
  have hO2 : (X 0).2.2 = if c ≤ 4096 then some [] else none := by rw [HX0.out]
  have HS : Hid (PS w.heap.size (w2.alloc (.cells #[.slice none 0 0] 57)) w.heap.size l (X 0).1 (X 0).2.1 ∧ DD (w2.alloc (.cells #[.slice none 0 0] 57)) (w.heap.size + 1) w2.heap.size (.slice none 0 0) [] ∧ Below w.heap.size w (w2.alloc (.cells #[.slice none 0 0] 57)) ∧ (X 0).2.2 = if c ≤ 4096 then some [] else none) := ⟨ps3, dd0, b3, hO2⟩
  clear hO hps dd0 ps3 b3 hO2 ps2 g2 b2 O
  have hc63 : (c : Int) ≤ 140737488351232 := by omega
  by_cases hc4 : c ≤ 4096
  all_goals
    first
      | (have hc4z : (c : Int) ≤ 4096 := by omega
         have hc4d : decide ((c : Int) ≤ 4096) = true := decide_eq_true hc4z)
      | (have hc4z : ¬ (c : Int) ≤ 4096 := by omega
         have hc4d : decide ((c : Int) ≤ 4096) = false := decide_eq_false hc4z)
    go_wp2_with fail
    go_loopg [7, 20] c (fun kx v7 vi wr => ∃ (k : Nat) (b : Bool), vi = .int .i64 k ∧ v7 = .bool b ∧ k ≤ c ∧ c - k ≤ kx ∧ w.heap.size + 1 ≤ wr.heap.size ∧ Hid (PS w.heap.size wr w.heap.size l (X k).1 (X k).2.1 ∧ (b = true → c ≤ 4096 ∧ ∃ ts v, (X k).2.2 = some ts ∧ DD wr (w.heap.size + 1) w2.heap.size v ts) ∧ (b = false → (X k).2.2 = none) ∧ Below w.heap.size w wr))
    case atStart =>
      obtain ⟨q1, q2, q3, q4⟩ := HS.out
      first
        | exact ⟨0, true, rfl, rfl, Nat.zero_le _, by omega, by simp; omega, q1, fun _ => ⟨hc4, [], _, by rw [q4, if_pos hc4], q2⟩, (fun h => by cases h), q3⟩
        | exact ⟨0, false, rfl, rfl, Nat.zero_le _, by omega, by simp; omega, q1, (fun h => by cases h), fun _ => by rw [q4, if_neg hc4], q3⟩
    case round =>
      clear HS
      obtain ⟨k, b, rfl, rfl, hkc, hkx, hsz, HI⟩ := hrel
      by_cases hlt : k < c
      · have hltz : (k : Int) < (c : Int) := by omega
        obtain ⟨ps, hbt, hbf, bel⟩ := HI.out
        have kU := uint_p w.heap.size wr w.heap.size l _ _ ps
        have hst := HXS.out k
        have hln := HXL.out k
        have hul := Rd.uS_lt l (X k).1 (X k).2.1
        obtain ⟨P, E, O, hXk⟩ : ∃ P E O, X k = (P, E, O) := ⟨_, _, _, rfl⟩
        rw [hXk] at kU hst hln hul hbt hbf
        simp only at kU hst hln hul hbt hbf
        clear HI ps hXk
        go_wp2_with fail
        refine kU.mono ?_
        rintro e w4 ⟨rfl, ps4, g4⟩
        clear kU
        have kT := text_p w.heap.size w4 w.heap.size l _ _ ps4 (by omega)
        have htl := tS_length l (Rd.uS l P E).2.1 (Rd.uS l P E).2.2
        unfold stp at hst
        simp only at hst
        generalize hU : Rd.uS l P E = U at *
        obtain ⟨u0, u1, u2⟩ := U
        simp only at *
        generalize hTT : tS l u1 u2 = TT at *
        obtain ⟨tx, p5, e5⟩ := TT
        simp only at *
        clear ps4
        go_wp2_with fail
        refine kT.mono ?_
        rintro e w5 ⟨rfl, ps5, g5⟩
        clear kT
        have g45 := grown_trans g4 g5
        have b5 : Below w.heap.size w w5 := bel.trans (grown_B g45 (Nat.le_refl _) (by omega))
        have hs5 : w.heap.size + 1 ≤ w5.heap.size := by have := g45.size; omega
        have HP : Hid (PS w.heap.size w5 w.heap.size l p5 e5 ∧ Below w.heap.size w w5 ∧ X (k + 1) = (p5, e5, O.bind fun ts => addS ts u0 tx)) := ⟨ps5, b5, hst⟩
        cases b with
        | true =>
          obtain ⟨hc4k, ts, vv, hO, dd⟩ := hbt rfl
          have HC4K : Hid (c ≤ 4096) := hc4k
          have dd5 := dd.other g45 (Nat.lt_succ_self _)
          have kA := add_one w5 _ _ vv ts u0 tx dd5 (by have := hln ts hO; omega) (by omega) (by omega) hs5
          have HO : Hid (O = some ts) := hO
          clear hc4k hbt hbf hO dd dd5 hst ps5 b5 g4 g5 g45 bel hln hU hTT hul htl
          go_wp2_with fail
          refine kA.mono ?_
          rintro e w6 ⟨hres, b6⟩
          clear kA
          have HP6 : Hid (PS w.heap.size w6 w.heap.size l p5 e5 ∧ Below w.heap.size w w6 ∧ w.heap.size + 1 ≤ w6.heap.size) := ⟨HP.out.1.keep2 b6 (Nat.lt_succ_self _), HP.out.2.1.trans (b6.mono (by omega)), by have := b6.size; omega⟩
          have hz6 := HP6.out.2.2
          rcases hres with ⟨hn, rfl⟩ | ⟨ts', v', hsm, rfl, dd6⟩
          · have HN : Hid (addS ts u0 tx = none) := hn
            clear hn b6
            go_wp2_with fail
            go_roundg (c - (k + 1))
            case measure => omega
            case rel =>
              refine ⟨k + 1, false, by go_num, rfl, by omega, Nat.le_refl _, hz6, ?_⟩
              obtain ⟨x1, x2, _⟩ := HP6.out
              have x3 := HP.out.2.2
              refine ⟨by rw [x3]; exact x1, (fun h => by cases h), fun _ => ?_, x2⟩
              rw [x3, HO.out]; exact HN.out
          · have HN : Hid (addS ts u0 tx = some ts') := hsm
            have HD6 : Hid (DD w6 (w.heap.size + 1) w2.heap.size v' ts') := dd6
            clear hsm dd6 b6
            go_wp2_with fail
            go_roundg (c - (k + 1))
            case measure => omega
            case rel =>
              refine ⟨k + 1, true, by go_num, rfl, by omega, Nat.le_refl _, hz6, ?_⟩
              obtain ⟨x1, x2, _⟩ := HP6.out
              have x3 := HP.out.2.2
              refine ⟨by rw [x3]; exact x1, fun _ => ⟨HC4K.out, ts', v', ?_, HD6.out⟩, (fun h => by cases h), x2⟩
              rw [x3, HO.out]; exact HN.out
        | false =>
          have HO : Hid (O = none) := hbf rfl
          clear hbt hbf hst ps5 b5 g4 g5 g45 bel hln hU hTT hul htl
          go_wp2_with fail
          go_roundg (c - (k + 1))
          case measure => omega
          case rel =>
            refine ⟨k + 1, false, by go_num, rfl, by omega, Nat.le_refl _, hs5, ?_⟩
            obtain ⟨x1, x2, x3⟩ := HP.out
            refine ⟨by rw [x3]; exact x1, (fun h => by cases h), fun _ => ?_, x2⟩
            rw [x3, HO.out]; rfl
      · have hltz : ¬ (k : Int) < (c : Int) := by omega
        obtain rfl : k = c := by omega
        obtain ⟨ps, hbt, hbf, bel⟩ := HI.out
        have kE := end_p w.heap.size wr w.heap.size l _ _ ps
        have hff := HXC.out
        have HFF : Hid (X k = fnl l) := hff
        obtain ⟨N, hEN⟩ : ∃ N, N = en l (X k).1 (X k).2.1 := ⟨_, rfl⟩
        rw [← hEN] at kE
        have HEN : Hid (N = en l (X k).1 (X k).2.1) := hEN
        clear hEN
        have HB : Hid (Below w.heap.size w wr) := bel
        clear HI ps bel hff
        by_cases hN : N = 0
        · have hNb : ((N : Int) != 0) = false := by simp [hN]
          have HN0 : Hid (N = 0) := hN
          clear hN
          cases b with
          | true =>
            obtain ⟨-, ts, vv, hO, dd⟩ := hbt rfl
            have HO : Hid ((X k).2.2 = some ts ∧ DD wr (w.heap.size + 1) w2.heap.size vv ts) := ⟨hO, dd⟩
            clear hbt hbf hO dd
            go_wp2_with fail
            refine kE.mono ?_
            rintro e w7 ⟨rfl, rfl⟩
            go_wp2_with fail
            go_ret2
            have hfx := fnl_facts (l := l) (ts := ts) (by rw [← HFF.out]; exact HO.out.1)
            exact ⟨.inr (.inr ⟨by rw [← HEN.out]; exact HN0.out, ts, w2.heap.size, HO.out.1, rfl, HO.out.2.idict hfx.1 hfx.2.2⟩), HB.out⟩
          | false =>
            have HO : Hid ((X k).2.2 = none) := hbf rfl
            clear hbt hbf
            go_wp2_with fail
            refine kE.mono ?_
            rintro e w7 ⟨rfl, rfl⟩
            go_wp2_with fail
            go_ret2
            exact ⟨.inr (.inl ⟨by rw [← HEN.out]; exact HN0.out, HO.out, rfl⟩), HB.out⟩
        · have hNb : ((N : Int) != 0) = true := by simp; omega
          have HN0 : Hid (¬ N = 0) := hN
          clear hN hbt hbf
          go_wp2_with fail
          refine kE.mono ?_
          rintro e w7 ⟨rfl, rfl⟩
          go_wp2_with fail
          go_ret2
          exact ⟨.inl ⟨by rw [← HEN.out]; exact HN0.out, by rw [← HEN.out]; rfl⟩, HB.out⟩
end Go.Proofs.Ytfhldldcfdimhaa
