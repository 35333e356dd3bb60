/- The walk of GrainUnions. -/
import Derived.Test.YthijbpodkklcnaaMtsA
import Derived.Test.YthijbpodkklcnaaUni
namespace Go.Proofs.Ythijbpodkklcnaa
open Go.RowKit Go.Sort

theorem bel_alloc {V X : World} (h : Below V.heap.size V X) (o : Obj) : Below V.heap.size V (X.alloc o) := h.alloc h.size o
theorem bel_trans {V X Y : World} (h : Below V.heap.size V X) (k : Below X.heap.size X Y) : Below V.heap.size V Y := h.trans (k.mono h.size)
theorem union_eq (w : World) (v : Value) (l : List Sp) (h : RdP w v l) (hbig : (l.length + 2) * 16 ≤ 160842843834660) :
    Calls Try.prog 20 #[v] w fun e w' => ∃ v', e = .returned v' ∧ RdP w' v' (parts l []) ∧ Below w.heap.size w w' := by
  refine (union_any w v l h hbig).mono ?_
  rintro e w' ⟨v', rfl, r, o, hN, hA, -, b⟩
  obtain ⟨pN, pA⟩ := parts_norm l []
  have : r = parts l [] := norm_unique _ _ hN pN fun t => by rw [hA, pA]; simp [want, any]
  subst this
  exact ⟨v', rfl, o.rd, b⟩
theorem minus_eq (w : World) (s : Sp) (v : Value) (l : List Sp) (h : RdP w v l) (hbig : (l.length + 2) * 16 ≤ 160842843834660) :
    Calls Try.prog 21 #[.agg #[.int .i64 s.1, .int .i64 s.2], v] w fun e w' => ∃ v', e = .returned v' ∧ RdP w' v' (parts [s] l) ∧ Below w.heap.size w w' := by
  refine (minus_any w s v l h hbig).mono ?_
  rintro e w' ⟨v', rfl, r, o, hN, hA, -, b⟩
  obtain ⟨pN, pA⟩ := parts_norm [s] l
  have : r = parts [s] l := norm_unique _ _ hN pN fun t => by rw [hA, pA]; simp [want, any]
  subst this
  exact ⟨v', rfl, o.rd, b⟩

set_option maxHeartbeats 8000000 in
set_option maxRecDepth 100000 in
theorem unions_walk (w : World) (s : Sp) (_hs : In64 s.1 ∧ In64 s.2) (v : Value) (l : List Sp) (h : RdP w v l) (_hl : ∀ s ∈ l, In64 s.1 ∧ In64 s.2) (_hb : l.length * 16 ≤ 140737488351232) :
    Calls Try.prog 5 #[.agg #[.int .i64 s.1, .int .i64 s.2], v] w fun e w' => e = .returned (.bool true) ∧ Below w.heap.size w w' := by
  clear _hs _hl _hb
  obtain ⟨F, T⟩ := s
  simp only
  obtain ⟨W, hW⟩ : ∃ W, W = w.alloc (.cells #[.int .i64 F, .int .i64 T] 23) := ⟨_, rfl⟩
  have kA := awake_any W
  have bW : Below w.heap.size w W := by rw [hW]; exact (Grows.alloc _ _).below
  have hsW : W.heap.size = w.heap.size + 1 := by rw [hW]; simp
  have c0 : W.cell? ⟨w.heap.size, 0, none⟩ = some (.int .i64 F) ∧ W.cell? ⟨w.heap.size, 1, none⟩ = some (.int .i64 T) := by
    rw [hW]; exact At.new w (F, T) _ rfl
  obtain ⟨al, nl, cl, rfl⟩ := h.sl
  have hn := h.at.1
  have HN : Hid (nl = l.length) := hn
  have HX : Hid _ := And.intro bW (And.intro c0 hsW)
  have HH : Hid _ := h
  rw [hW] at kA
  have HW : Hid _ := hW
  clear hW bW c0 hsW h hn
  go_enter Try.func5, Try.ntmps5
  go_wp2_with fail
  refine kA.mono ?_
  rintro e w1 ⟨rfl, bb1⟩
  rw [← HW.out] at bb1
  obtain ⟨bW, c0, hsW⟩ := HX.out
  have b1 : Below w.heap.size w w1 := bW.trans (bb1.mono (by omega))
  have HB1 : Hid (Below w.heap.size w w1) := b1
  have d0 : w1.cell? ⟨w.heap.size, 0, none⟩ = some (.int .i64 F) := by rw [bb1.cell (by rw [hsW]; simp)]; exact c0.1
  have d1 : w1.cell? ⟨w.heap.size, 1, none⟩ = some (.int .i64 T) := by rw [bb1.cell (by rw [hsW]; simp)]; exact c0.2
  have r1 : RdP w1 (.slice al nl cl) l := HH.out.below b1
  by_cases h200 : nl ≤ 200
  · have h2z : ¬ ((nl : Int) > 200) := by omega
    have hb1 : (l.length + 2) * 16 ≤ 160842843834660 := by have := HN.out; omega
    have hb2 : l.length + ([] : List Sp).length ≤ 450 := by have := HN.out; simp; omega
    have hb3 : [(F, T)].length + l.length ≤ 450 := by have := HN.out; simp; omega
    have kU := union_eq w1 _ l r1 hb1
    have HP : Aside (∀ W, Below w1.heap.size w1 W → Calls Try.prog 15 #[.slice al nl cl, .slice none 0 0] W fun e w' => ∃ v', e = .returned v' ∧ RdP w' v' (parts l []) ∧ Below W.heap.size W w') := fun W b => refparts_any W _ _ l [] (r1.below b) (RdP.nil _) hb2
    have HRl : Hid _ := r1
    clear HX bW c0 hsW bb1 HW b1 r1 hb2 kA
    go_wp2_with fail
    refine kU.mono ?_
    rintro e w2 ⟨v2, rfl, r2, b2⟩
    have kP := HP.out w2 b2
    obtain ⟨a2, n2, c2, rfl⟩ := r2.sl
    have HR2 : Hid _ := r2
    have HB2 : Hid _ := b2
    clear kU r2 b2 HP
    go_wp2_with fail
    refine kP.mono ?_
    rintro e w3 ⟨v3, rfl, r3, b3⟩
    have kS := refsame_any w3 (.slice a2 n2 c2) v3 _ _ (HR2.out.below b3) r3
    rw [decide_eq_true rfl] at kS
    obtain ⟨a3, n3, c3, rfl⟩ := r3.sl
    have HB3 : Hid _ := HB2.out.trans (b3.mono HB2.out.size)
    clear kP r3 b3 HR2 HB2
    go_wp2_with fail
    refine kS.mono ?_
    rintro e V ⟨rfl, g4⟩
    have bV : Below w1.heap.size w1 V := HB3.out.trans (g4.below.mono HB3.out.size)
    have e0 : V.cell? ⟨w.heap.size, 0, none⟩ = some (.int .i64 F) := by rw [bV.cell (World.block_lt_of_cell? _ _ d0)]; exact d0
    have e1 : V.cell? ⟨w.heap.size, 1, none⟩ = some (.int .i64 T) := by rw [bV.cell (World.block_lt_of_cell? _ _ d1)]; exact d1
    have rV : RdP V (.slice al nl cl) l := HRl.out.below bV
    have HBV : Hid (Below w.heap.size w V) := HB1.out.trans (bV.mono HB1.out.size)
    have kM : ∀ W, Below V.heap.size V W → Calls Try.prog 21 #[.agg #[.int .i64 F, .int .i64 T], .slice al nl cl] W fun e w' => ∃ v', e = .returned v' ∧ RdP w' v' (parts [(F, T)] l) ∧ Below W.heap.size W w' := fun W b => minus_eq W (F, T) _ l (rV.below b) hb1
    have kQ : ∀ W u, Below V.heap.size V W → RdP W u [(F, T)] → Calls Try.prog 15 #[u, .slice al nl cl] W fun e w' => ∃ v', e = .returned v' ∧ RdP w' v' (parts [(F, T)] l) ∧ Below W.heap.size W w' := fun W u b hu => refparts_any W u _ [(F, T)] l hu (rV.below b) hb3
    have keepS : ∀ w', Below V.heap.size V w' → (fun w' => Below V.heap.size V w' ∧ w'.cell? ⟨w.heap.size, 0, none⟩ = some (.int .i64 F) ∧ w'.cell? ⟨w.heap.size, 1, none⟩ = some (.int .i64 T)) w' := fun w' b => ⟨b, by rw [b.cell (World.block_lt_of_cell? _ _ e0)]; exact e0, by rw [b.cell (World.block_lt_of_cell? _ _ e1)]; exact e1⟩
    generalize parts [(F, T)] l = R at *
    have kS2 : ∀ W u v, RdP W u R → RdP W v R → Calls Try.prog 19 #[u, v] W fun e w' => e = .returned (.bool true) ∧ Grows W w' := fun W u v h1 h2 => by
      have := refsame_any W u v R R h1 h2
      rw [decide_eq_true rfl] at this
      exact this
    clear kS g4 bV rV HRl HB3 d0 d1 HB1 hb1 hb3
    go_wp2_with fail
    go_cut [7] (fun t wA => t = .bool true ∧ Below V.heap.size V wA)
    case first =>
      go_region_held (fun w' => Below V.heap.size V w' ∧ w'.cell? ⟨w.heap.size, 0, none⟩ = some (.int .i64 F) ∧ w'.cell? ⟨w.heap.size, 1, none⟩ = some (.int .i64 T))
        (exact keepS _ (by repeat' (first | with_reducible assumption | with_reducible exact Below.refl _ _ | with_reducible refine Below.drew ?_ | with_reducible refine bel_alloc ?_ _)))
        (first
          | (go_at_call 21; (with_reducible refine (kM _ (by repeat' (first | with_reducible assumption | with_reducible exact Below.refl _ _ | with_reducible refine Below.drew ?_ | with_reducible refine bel_alloc ?_ _))).mono ?_); rintro e2 w2 ⟨v2, rfl, r2, b2⟩; have B2 : Below V.heap.size V w2 := bel_trans (by repeat' (first | with_reducible assumption | with_reducible exact Below.refl _ _ | with_reducible refine Below.drew ?_ | with_reducible refine bel_alloc ?_ _)) b2; (first | (have rb : RdP w2 (.slice (some ⟨V.heap.size, 0, none⟩) 1 1) [(F, T)] := RdP.below ((one_rds V (F, T) _ rfl).below (Below.drew (Below.refl _ _))) b2) | (have rb : RdP w2 (.slice (some ⟨V.heap.size, 0, none⟩) 1 1) [(F, T)] := RdP.below (one_rds V.drew (F, T) _ rfl) b2) | (have rk : RdP w2 _ R := r3.below b2) | skip); have HR2 : Hid (RdP w2 v2 R) := r2; obtain ⟨a2, n2, c2, hv2⟩ := r2.sl; subst hv2; clear r2)
          | (go_at_call 15; (first | (with_reducible refine (kQ _ _ (by repeat' (first | with_reducible assumption | with_reducible exact Below.refl _ _ | with_reducible refine Below.drew ?_ | with_reducible refine bel_alloc ?_ _)) rb).mono ?_) | (with_reducible refine (kQ _ _ (by repeat' (first | with_reducible assumption | with_reducible exact Below.refl _ _ | with_reducible refine Below.drew ?_ | with_reducible refine bel_alloc ?_ _)) (one_rds _ (F, T) _ rfl)).mono ?_) | (with_reducible refine (kQ _ _ (by repeat' (first | with_reducible assumption | with_reducible exact Below.refl _ _ | with_reducible refine Below.drew ?_ | with_reducible refine bel_alloc ?_ _)) ((one_rds V (F, T) _ rfl).below (Below.drew (Below.refl _ _)))).mono ?_)); rintro e3 w3 ⟨v3, rfl, r3, b3⟩; have B3 : Below V.heap.size V w3 := bel_trans (by repeat' (first | with_reducible assumption | with_reducible exact Below.refl _ _ | with_reducible refine Below.drew ?_ | with_reducible refine bel_alloc ?_ _)) b3; obtain ⟨a3, n3, c3, hv3⟩ := r3.sl; subst hv3)
          | (go_at_call 19; (first | (with_reducible refine (kS2 _ _ _ (RdP.below (RdP.below HR2.out ((Below.refl _ _).alloc (Nat.le_refl _) _)) b3) r3).mono ?_) | (with_reducible refine (kS2 _ _ _ (RdP.below HR2.out b3) r3).mono ?_) | (with_reducible refine (kS2 _ _ _ HR2.out rk).mono ?_)); rintro e4 w4 ⟨rfl, g4⟩; have B4 : Below V.heap.size V w4 := bel_trans (by repeat' (first | with_reducible assumption | with_reducible exact Below.refl _ _ | with_reducible refine Below.drew ?_ | with_reducible refine bel_alloc ?_ _)) g4.below))
      all_goals
        go_wp2_with fail
        go_meet
        case rel => exact ⟨rfl, B4⟩
    case rest =>
      obtain ⟨rfl, bA⟩ := hcut
      rename World => VA
      have HBA : Hid (Below w.heap.size w VA) := HBV.out.trans (bA.mono HBV.out.size)
      clear bA kM kQ kS2 keepS
      go_wp2_with fail
      go_ret
      exact ⟨rfl, HBA.out⟩
  · have h2z : (nl : Int) > 200 := by omega
    clear HX bW c0 hsW bb1 HW b1 r1 kA
    go_wp2_with fail
    go_ret
    exact ⟨rfl, HB1.out⟩
end Go.Proofs.Ythijbpodkklcnaa
