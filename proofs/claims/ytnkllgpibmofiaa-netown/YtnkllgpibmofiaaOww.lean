/- NetOwn's walk. -/
import Derived.Test.YtnkllgpibmofiaaOwN
namespace Go.Proofs.Ytnkllgpibmofiaa
open Go.RowKit Go.Maps Go.Sort
set_option linter.unusedVariables false

def MO (d s g : Value) : Array Value := List.toArray ((Value.int .i64 0) :: (Value.int .i64 0) :: (Value.int .i64 0) :: (Value.int .u64 0) :: (Value.int .u64 0) :: (Value.int .u64 0) :: (Value.int .i64 0) :: (Value.int .u64 0) :: (Value.int .i64 0) :: (Value.int .i64 0) :: d :: (Value.slice none 0 0) :: (Value.int .i64 0) :: (Value.int .i64 0) :: (Value.int .i64 0) :: (Value.int .i64 0) :: (Value.slice none 0 0) :: (Value.int .i64 0) :: (Value.int .i64 0) :: (Value.slice none 0 0) :: (Value.int .i64 0) :: s :: (Value.slice none 0 0) :: (Value.int .i64 0) :: (Value.int .i64 0) :: (Value.int .i64 0) :: (Value.int .i64 0) :: (Value.int .i64 0) :: (Value.int .i64 0) :: (Value.int .i64 0) :: (Value.int .i64 0) :: (Value.int .i64 0) :: (Value.bool false) :: (Value.int .i64 0) :: (Value.int .i64 0) :: (Value.int .i64 0) :: (Value.int .i64 0) :: (Value.int .i64 0) :: (Value.int .i64 0) :: g :: (Value.slice none 0 0) :: [])
theorem MO_po (d s g : Value) (hd : d.oneCell' = true) (hs : s.oneCell' = true) (hg : g.oneCell' = true) : Po (MO d s g) d s g := by
  refine ⟨rfl, ?_, ⟨0, sub_of _ _ _ rfl⟩, ⟨0, 0, 0, 0, 0, 0, 0, 0, 0, sub_of _ _ _ rfl⟩, rfl, rfl⟩
  have e : MO d s g = (((List.toArray ((Value.int .i64 0) :: (Value.int .i64 0) :: (Value.int .i64 0) :: (Value.int .u64 0) :: (Value.int .u64 0) :: (Value.int .u64 0) :: (Value.int .i64 0) :: (Value.int .u64 0) :: (Value.int .i64 0) :: (Value.int .i64 0) :: (Value.slice none 0 0) :: (Value.slice none 0 0) :: (Value.int .i64 0) :: (Value.int .i64 0) :: (Value.int .i64 0) :: (Value.int .i64 0) :: (Value.slice none 0 0) :: (Value.int .i64 0) :: (Value.int .i64 0) :: (Value.slice none 0 0) :: (Value.int .i64 0) :: (Value.slice none 0 0) :: (Value.slice none 0 0) :: (Value.int .i64 0) :: (Value.int .i64 0) :: (Value.int .i64 0) :: (Value.int .i64 0) :: (Value.int .i64 0) :: (Value.int .i64 0) :: (Value.int .i64 0) :: (Value.int .i64 0) :: (Value.int .i64 0) :: (Value.bool false) :: (Value.int .i64 0) :: (Value.int .i64 0) :: (Value.int .i64 0) :: (Value.int .i64 0) :: (Value.int .i64 0) :: (Value.int .i64 0) :: (Value.slice none 0 0) :: (Value.slice none 0 0) :: [])).setIfInBounds 10 d).setIfInBounds 21 s).setIfInBounds 39 g := rfl
  rw [e]
  exact all_set (all_set (all_set (pl_kind 0 0).one 10 hd) 21 hs) 39 hg
theorem own_atK {w : World} {base e k : Nat} {v : Value} {xs : List Value} (h : w.ownsRow base e k v 1 xs) : ∃ b c, v = .slice (some ⟨b, 0, none⟩) 1 c ∧ 1 ≤ c ∧ c ≤ maxLen ∧ base ≤ b ∧ (∀ j u, xs[j]? = some u → w.cell? ⟨b, j, none⟩ = some u) ∧ (∀ j, w.frozen? ⟨b, j, none⟩ = false) ∧ ∃ cur, w.heap[b]? = some (.cells cur e) := by
  rcases h.2 with ⟨_, hn⟩ | ⟨g, cap, cur, rfl, hb, hg, hnc, hcm, _⟩
  · omega
  · refine ⟨g, cap, rfl, hnc, hcm, hb, fun j u hj => ?_, fun j => frozen_of_row w g j _ e hg, cur, hg⟩
    have := World.ownsRow.cells h rfl j u hj
    rw [Addr.add_lit] at this
    simpa using this
/-- What such a message's cells are, and that its blocks are apart. -/
theorem Cn.cells {w : World} {lo x : Nat} {M : Array Value} {a : Str} {c ver : Int} (h : Cn w lo M a c ver) (hx : BxA w x 54 M) : ∃ bg cg bs cs bi ci bd cd : Nat,
    w.cell? ⟨x, 39, none⟩ = some (.slice (some ⟨bg, 0, none⟩) 1 cg) ∧ w.cell? ⟨x, 21, none⟩ = some (.slice (some ⟨bs, 0, none⟩) 1 cs) ∧ w.cell? ⟨x, 10, none⟩ = some (.slice (some ⟨bd, 0, none⟩) 1 cd) ∧
    (w.cell? ⟨bg, 2, none⟩ = some (.int .i64 ver) ∧ w.frozen? ⟨bg, 2, none⟩ = false) ∧ (w.cell? ⟨bs, 0, none⟩ = some (.slice (some ⟨bi, 0, none⟩) 1 ci)) ∧ (w.cell? ⟨bi, 0, none⟩ = some (.int .i64 c) ∧ w.frozen? ⟨bi, 0, none⟩ = false) ∧ w.cell? ⟨bd, 0, none⟩ = some (.string ⟨a.toArray⟩) ∧
    (lo ≤ bg ∧ lo ≤ bs ∧ lo ≤ bi ∧ lo ≤ bd) ∧ (bg ≠ x ∧ bg ≠ bs ∧ bg ≠ bi ∧ bi ≠ bs ∧ bi ≠ x) ∧ (1 ≤ cg ∧ cg ≤ maxLen ∧ 1 ≤ cs ∧ cs ≤ maxLen ∧ 1 ≤ ci ∧ ci ≤ maxLen ∧ 1 ≤ cd ∧ cd ≤ maxLen) := by
  obtain ⟨d, s, i, g, h1, h2, h3, h4, h5⟩ := h.ex
  obtain ⟨bd, cd, rfl, d1, d2, d3, d4, d5, cur1, d6⟩ := own_atK h2
  obtain ⟨bs, cs, rfl, s1, s2, s3, s4, s5, cur2, s6⟩ := own_atK h3
  obtain ⟨bi, ci, rfl, i1, i2, i3, i4, i5, cur3, i6⟩ := own_atK h4
  obtain ⟨bg, cg, rfl, g1, g2, g3, g4, g5, cur4, g6⟩ := own_atK h5
  obtain ⟨t, hft⟩ := h1.ft
  obtain ⟨f, t', k, dd, lo', hi, gg, gr, ro, hqr⟩ := h1.qr
  have hx' : w.heap[x]? = some (.cells M 54) := hx
  have ne : ∀ {p q : Nat} {u v : Array Value} {s t : TypeId}, w.heap[p]? = some (.cells u s) → w.heap[q]? = some (.cells v t) → s ≠ t → p ≠ q := fun h1 h2 hn e => by
    subst e
    rw [h1] at h2
    simp only [Option.some.injEq, Obj.cells.injEq] at h2
    exact hn h2.2.1
  exact ⟨bg, cg, bs, cs, bi, ci, bd, cd, hx.cell 39 _ h1.sg, hx.cell 21 _ (hqr 9 _ rfl), hx.cell 10 _ (hft 1 _ rfl), ⟨g4 2 _ rfl, g5 2⟩, s4 0 _ rfl, ⟨i4 0 _ rfl, i5 0⟩, d4 0 _ rfl, ⟨g3, s3, i3, d3⟩,
    ⟨ne g6 hx' (by decide), ne g6 s6 (by decide), ne g6 i6 (by decide), ne i6 s6 (by decide), ne i6 hx' (by decide)⟩, g1, g2, s1, s2, i1, i2, d1, d2⟩
theorem own_of_bx {w : World} {g t base k : Nat} {cs : Array Value} (h : BxA w g t cs) (hb : base ≤ g) (hk : cs.size = k) : w.ownsRow base t k (.slice (some ⟨g, 0, none⟩) 1 1) 1 cs.toList := by
  refine ⟨by simp [hk], .inr ⟨g, 1, cs, rfl, hb, h, Nat.le_refl _, by decide, by omega, ?_⟩⟩
  rw [List.take_of_length_le (by simp [hk])]
abbrev lit4 (w7 : World) : World := (((w7.alloc (.cells #[.int .i64 0, .int .i64 0, .int .i64 1, .int .i64 0, .int .i64 0] 46)).alloc (.cells #[.string { data := #[97] }] 9)).alloc (.cells #[.int .i64 1] 3)).alloc (.cells #[.slice (some ⟨w7.heap.size + 1 + 1, 0, none⟩) 1 1] 86)
abbrev lit5 (w7 : World) : World := (lit4 w7).alloc (.cells (List.toArray ((Value.int .i64 0) :: (Value.int .i64 0) :: (Value.int .i64 0) :: (Value.int .u64 0) :: (Value.int .u64 0) :: (Value.int .u64 0) :: (Value.int .i64 0) :: (Value.int .u64 0) :: (Value.int .i64 0) :: (Value.int .i64 0) :: (Value.slice none 0 0) :: (Value.slice none 0 0) :: (Value.int .i64 0) :: (Value.int .i64 0) :: (Value.int .i64 0) :: (Value.int .i64 0) :: (Value.slice none 0 0) :: (Value.int .i64 0) :: (Value.int .i64 0) :: (Value.slice none 0 0) :: (Value.int .i64 0) :: (Value.slice none 0 0) :: (Value.slice none 0 0) :: (Value.int .i64 0) :: (Value.int .i64 0) :: (Value.int .i64 0) :: (Value.int .i64 0) :: (Value.int .i64 0) :: (Value.int .i64 0) :: (Value.int .i64 0) :: (Value.int .i64 0) :: (Value.int .i64 0) :: (Value.bool false) :: (Value.int .i64 0) :: (Value.int .i64 0) :: (Value.int .i64 0) :: (Value.int .i64 0) :: (Value.int .i64 0) :: (Value.int .i64 0) :: (Value.slice none 0 0) :: (Value.slice none 0 0) :: [])) 54)
theorem lit5_bx (w7 : World) : BxA (lit5 w7) (w7.heap.size + 1 + 1 + 1 + 1) 54 (List.toArray ((Value.int .i64 0) :: (Value.int .i64 0) :: (Value.int .i64 0) :: (Value.int .u64 0) :: (Value.int .u64 0) :: (Value.int .u64 0) :: (Value.int .i64 0) :: (Value.int .u64 0) :: (Value.int .i64 0) :: (Value.int .i64 0) :: (Value.slice none 0 0) :: (Value.slice none 0 0) :: (Value.int .i64 0) :: (Value.int .i64 0) :: (Value.int .i64 0) :: (Value.int .i64 0) :: (Value.slice none 0 0) :: (Value.int .i64 0) :: (Value.int .i64 0) :: (Value.slice none 0 0) :: (Value.int .i64 0) :: (Value.slice none 0 0) :: (Value.slice none 0 0) :: (Value.int .i64 0) :: (Value.int .i64 0) :: (Value.int .i64 0) :: (Value.int .i64 0) :: (Value.int .i64 0) :: (Value.int .i64 0) :: (Value.int .i64 0) :: (Value.int .i64 0) :: (Value.int .i64 0) :: (Value.bool false) :: (Value.int .i64 0) :: (Value.int .i64 0) :: (Value.int .i64 0) :: (Value.int .i64 0) :: (Value.int .i64 0) :: (Value.int .i64 0) :: (Value.slice none 0 0) :: (Value.slice none 0 0) :: [])) := by
  have := BxA.new (lit4 w7) 54 (List.toArray ((Value.int .i64 0) :: (Value.int .i64 0) :: (Value.int .i64 0) :: (Value.int .u64 0) :: (Value.int .u64 0) :: (Value.int .u64 0) :: (Value.int .i64 0) :: (Value.int .u64 0) :: (Value.int .i64 0) :: (Value.int .i64 0) :: (Value.slice none 0 0) :: (Value.slice none 0 0) :: (Value.int .i64 0) :: (Value.int .i64 0) :: (Value.int .i64 0) :: (Value.int .i64 0) :: (Value.slice none 0 0) :: (Value.int .i64 0) :: (Value.int .i64 0) :: (Value.slice none 0 0) :: (Value.int .i64 0) :: (Value.slice none 0 0) :: (Value.slice none 0 0) :: (Value.int .i64 0) :: (Value.int .i64 0) :: (Value.int .i64 0) :: (Value.int .i64 0) :: (Value.int .i64 0) :: (Value.int .i64 0) :: (Value.int .i64 0) :: (Value.int .i64 0) :: (Value.int .i64 0) :: (Value.bool false) :: (Value.int .i64 0) :: (Value.int .i64 0) :: (Value.int .i64 0) :: (Value.int .i64 0) :: (Value.int .i64 0) :: (Value.int .i64 0) :: (Value.slice none 0 0) :: (Value.slice none 0 0) :: []))
  rw [show (lit4 w7).heap.size = w7.heap.size + 1 + 1 + 1 + 1 by simp] at this
  exact this
theorem lit_ows (w7 W8 : World) (M0 : Array Value) (hM : M0 = MO (.slice (some ⟨w7.heap.size + 1, 0, none⟩) 1 1) (.slice (some ⟨w7.heap.size + 1 + 1 + 1, 0, none⟩) 1 1) (.slice (some ⟨w7.heap.size, 0, none⟩) 1 1)) (hW : W8 = (lit5 w7).setRow (w7.heap.size + 1 + 1 + 1 + 1) M0) :
    BxA W8 (w7.heap.size + 1 + 1 + 1 + 1) 54 M0 ∧ Cn W8 w7.heap.size M0 [97] 1 1 ∧ Below w7.heap.size w7 W8 ∧ BxA W8 w7.heap.size 46 #[.int .i64 0, .int .i64 0, .int .i64 1, .int .i64 0, .int .i64 0] ∧ BxA W8 (w7.heap.size + 1) 9 #[.string { data := #[97] }] ∧ BxA W8 (w7.heap.size + 1 + 1) 3 #[.int .i64 1] ∧ BxA W8 (w7.heap.size + 1 + 1 + 1) 86 #[.slice (some ⟨w7.heap.size + 1 + 1, 0, none⟩) 1 1] := by
  have b5 : BxA W8 (w7.heap.size + 1 + 1 + 1 + 1) 54 M0 := by rw [hW]; exact setRow_heap _ _ _ M0 _ _ (lit5_bx w7)
  have b1 : BxA W8 w7.heap.size 46 #[.int .i64 0, .int .i64 0, .int .i64 1, .int .i64 0, .int .i64 0] := by
    rw [hW]
    exact BxA.setRow (bx_alloc2 (bx_alloc2 (bx_alloc2 (bx_alloc2 (BxA.new _ _ _) _) _) _) _) (by omega)
  have b2 : BxA W8 (w7.heap.size + 1) 9 #[.string { data := #[97] }] := by
    have h := BxA.new (w7.alloc (.cells #[.int .i64 0, .int .i64 0, .int .i64 1, .int .i64 0, .int .i64 0] 46)) 9 #[.string { data := #[97] }]
    rw [show (w7.alloc (.cells #[.int .i64 0, .int .i64 0, .int .i64 1, .int .i64 0, .int .i64 0] 46)).heap.size = w7.heap.size + 1 by simp] at h
    rw [hW]
    exact BxA.setRow (bx_alloc2 (bx_alloc2 (bx_alloc2 h _) _) _) (by omega)
  have b3 : BxA W8 (w7.heap.size + 1 + 1) 3 #[.int .i64 1] := by
    have h := BxA.new ((w7.alloc (.cells #[.int .i64 0, .int .i64 0, .int .i64 1, .int .i64 0, .int .i64 0] 46)).alloc (.cells #[.string { data := #[97] }] 9)) 3 #[.int .i64 1]
    rw [show ((w7.alloc (.cells #[.int .i64 0, .int .i64 0, .int .i64 1, .int .i64 0, .int .i64 0] 46)).alloc (.cells #[.string { data := #[97] }] 9)).heap.size = w7.heap.size + 1 + 1 by simp] at h
    rw [hW]
    exact BxA.setRow (bx_alloc2 (bx_alloc2 h _) _) (by omega)
  have b4 : BxA W8 (w7.heap.size + 1 + 1 + 1) 86 #[.slice (some ⟨w7.heap.size + 1 + 1, 0, none⟩) 1 1] := by
    have h := BxA.new (((w7.alloc (.cells #[.int .i64 0, .int .i64 0, .int .i64 1, .int .i64 0, .int .i64 0] 46)).alloc (.cells #[.string { data := #[97] }] 9)).alloc (.cells #[.int .i64 1] 3)) 86 #[.slice (some ⟨w7.heap.size + 1 + 1, 0, none⟩) 1 1]
    rw [show (((w7.alloc (.cells #[.int .i64 0, .int .i64 0, .int .i64 1, .int .i64 0, .int .i64 0] 46)).alloc (.cells #[.string { data := #[97] }] 9)).alloc (.cells #[.int .i64 1] 3)).heap.size = w7.heap.size + 1 + 1 + 1 by simp] at h
    rw [hW]
    exact BxA.setRow (bx_alloc2 h _) (by omega)
  refine ⟨b5, ⟨_, _, _, _, hM ▸ MO_po _ _ _ rfl rfl rfl, own_of_bx b2 (by omega) rfl, own_of_bx b4 (by omega) rfl, own_of_bx b3 (by omega) rfl, own_of_bx b1 (Nat.le_refl _) rfl⟩, ?_, b1, b2, b3, b4⟩
  rw [hW]
  have k1 : Below w7.heap.size w7 (lit5 w7) := (((((Below.refl _ _).alloc (Nat.le_refl _) _).alloc (by simp) _).alloc (by simp; omega) _).alloc (by simp; omega) _).alloc (by simp; omega) _
  exact ⟨k1.os, k1.tape, k1.output, by have := k1.size; simpa using this, fun i hi => by rw [setRow_other _ _ _ _ (by omega)]; exact k1.block i hi⟩
set_option maxRecDepth 20000 in
set_option maxHeartbeats 4000000 in
theorem own_walk (w : World) (i : Int) (hi : B64 i) (id : Int) (hid : 0 ≤ id ∧ id ≤ 18446744073709551615) :
    Calls Try.prog 7 #[.int .i64 i, .int .u64 id] w fun e w' => e = .returned (.bool true) ∧ Below w.heap.size w w' := by
  have HI : Hid ((Try.prog.info? 54).map (·.size) = some ZM.size) := hide (Try.info_msg)
  have H1 := hide ZM_pl.one
  have HSZ := hide ZM_pl.sz
  have hP := fun W => peek_nil W i
  have hD := fun W => deliver_nil W i
  generalize ZM = A at *
  go_enter Try.func7, Try.ntmps7
  go_upto_region 10 with (first
    | (go_at_call 8; refine (awake_any w).mono ?_; rintro e w1 ⟨he1, hb1⟩; subst he1; have HB1 := hide hb1; clear hb1)
    | (go_at_call 23; refine (hP _).mono ?_; rintro e w2 ⟨he2, hb2⟩; subst he2; have HB2 := hide hb2.below; clear hb2)
    | (go_at_call 19; refine (hD _).mono ?_; rintro e w3 ⟨he3, hb3⟩; subst he3; have HB3 := hide hb3.below; clear hb3)
    | (go_at_call 28; refine (set_nil _ _ _).mono ?_; rintro e w4 ⟨he4, hw4⟩; have hw4 := hw4.symm; subst he4; subst hw4)
    | (refine wpList_store_row rfl 54 (.tmp 9) (.tmp 26) rfl w2.heap.size A rfl rfl 54 _ (BxA.new _ _ _) HI.out (by rw [HSZ.out]; rfl) H1.out ?_)
    | (refine wpList_store_row rfl 54 (.tmp 11) (.tmp 32) rfl w3.heap.size A rfl rfl 54 _ (BxA.new _ _ _) HI.out (by rw [HSZ.out]; rfl) H1.out ?_))
  obtain ⟨W5, hW5⟩ : ∃ W, W = (w3.alloc (.cells (List.toArray ((Value.int .i64 0) :: (Value.int .i64 0) :: (Value.int .i64 0) :: (Value.int .u64 0) :: (Value.int .u64 0) :: (Value.int .u64 0) :: (Value.int .i64 0) :: (Value.int .u64 0) :: (Value.int .i64 0) :: (Value.int .i64 0) :: (Value.slice none 0 0) :: (Value.slice none 0 0) :: (Value.int .i64 0) :: (Value.int .i64 0) :: (Value.int .i64 0) :: (Value.int .i64 0) :: (Value.slice none 0 0) :: (Value.int .i64 0) :: (Value.int .i64 0) :: (Value.slice none 0 0) :: (Value.int .i64 0) :: (Value.slice none 0 0) :: (Value.slice none 0 0) :: (Value.int .i64 0) :: (Value.int .i64 0) :: (Value.int .i64 0) :: (Value.int .i64 0) :: (Value.int .i64 0) :: (Value.int .i64 0) :: (Value.int .i64 0) :: (Value.int .i64 0) :: (Value.int .i64 0) :: (Value.bool false) :: (Value.int .i64 0) :: (Value.int .i64 0) :: (Value.int .i64 0) :: (Value.int .i64 0) :: (Value.int .i64 0) :: (Value.int .i64 0) :: (Value.slice none 0 0) :: (Value.slice none 0 0) :: [])) 54)).setRow w3.heap.size A := ⟨_, rfl⟩
  have hb5 : Below w.heap.size w W5 := by
    have q1 := HB1.out.size
    have q2 := HB2.out.size
    have k2 : Below w1.heap.size w1 ((w2.alloc (.cells (List.toArray ((Value.int .i64 0) :: (Value.int .i64 0) :: (Value.int .i64 0) :: (Value.int .u64 0) :: (Value.int .u64 0) :: (Value.int .u64 0) :: (Value.int .i64 0) :: (Value.int .u64 0) :: (Value.int .i64 0) :: (Value.int .i64 0) :: (Value.slice none 0 0) :: (Value.slice none 0 0) :: (Value.int .i64 0) :: (Value.int .i64 0) :: (Value.int .i64 0) :: (Value.int .i64 0) :: (Value.slice none 0 0) :: (Value.int .i64 0) :: (Value.int .i64 0) :: (Value.slice none 0 0) :: (Value.int .i64 0) :: (Value.slice none 0 0) :: (Value.slice none 0 0) :: (Value.int .i64 0) :: (Value.int .i64 0) :: (Value.int .i64 0) :: (Value.int .i64 0) :: (Value.int .i64 0) :: (Value.int .i64 0) :: (Value.int .i64 0) :: (Value.int .i64 0) :: (Value.int .i64 0) :: (Value.bool false) :: (Value.int .i64 0) :: (Value.int .i64 0) :: (Value.int .i64 0) :: (Value.int .i64 0) :: (Value.int .i64 0) :: (Value.int .i64 0) :: (Value.slice none 0 0) :: (Value.slice none 0 0) :: [])) 54)).setRow w2.heap.size A) := HB2.out.trans ((((Grows.alloc _ _).setRow A (Nat.le_refl _)).below).mono q2)
    have k3 := HB3.out
    have q3 := k3.size
    have k4 : Below w3.heap.size w3 W5 := by rw [hW5]; exact ((Grows.alloc _ _).setRow A (Nat.le_refl _)).below
    have q5 := k2.size
    exact (HB1.out.trans (k2.mono q1)).trans ((k3.mono (by omega)).trans (k4.mono (by omega)))
  rw [← hW5]
  have HB5 := hide hb5
  clear hb5 hW5 HB1 HB2 HB3
  go_upto_region 12 with (first
    | (go_at_call 13; refine (send_nil _ _ rfl).mono ?_; rintro e w6 ⟨he6, hb6⟩; subst he6; have HB6 := hide hb6; clear hb6)
    | (go_at_call 22; refine (waiting_nil _).mono ?_; rintro e w4 ⟨he4, hw4⟩; have hw4 := hw4.symm; subst he4; subst hw4)
    | (go_at_call 15; refine (lose_nil _ _).mono ?_; rintro e w4 ⟨he4, hw4⟩; have hw4 := hw4.symm; subst he4; subst hw4)
    | (go_at_call 17; refine (twice_nil _ _).mono ?_; rintro e w4 ⟨he4, hw4⟩; have hw4 := hw4.symm; subst he4; subst hw4)
    | (go_at_call 25; refine (fresh_nil _ _ _).mono ?_; rintro e w4 ⟨he4, hw4⟩; have hw4 := hw4.symm; subst he4; subst hw4)
    | (go_at_call 30; refine (stop_nil _ _).mono ?_; rintro e w4 ⟨he4, hw4⟩; have hw4 := hw4.symm; subst he4; subst hw4)
    | (go_at_call 32; refine (due_nil _ _).mono ?_; rintro e w4 ⟨he4, hw4⟩; have hw4 := hw4.symm; subst he4; subst hw4))
  have hb6 : Below w.heap.size w w6 := HB5.out.trans (HB6.out.mono HB5.out.size)
  have HB7 := hide hb6
  clear hb6 HB5 HB6 hP hD
  go_upto_region 13 with (first
    | (go_at_call 9; refine (netNew_any w6).mono ?_; rintro e w7 ⟨he7, hn7, hb7⟩; subst he7; have HN7 := hide hn7; have HB8 := hide hb7; clear hn7 hb7))
  obtain ⟨M0, hM0⟩ : ∃ M0, M0 = MO (.slice (some ⟨w7.heap.size + 1, 0, none⟩) 1 1) (.slice (some ⟨w7.heap.size + 1 + 1 + 1, 0, none⟩) 1 1) (.slice (some ⟨w7.heap.size, 0, none⟩) 1 1) := ⟨_, rfl⟩
  have HM0 := hide hM0
  have HM1 : Hid (M0.all (·.oneCell') = true ∧ M0.size = 41) := by apply hide; rw [hM0]; exact ⟨(MO_po _ _ _ rfl rfl rfl).one, rfl⟩
  have HMI : Hid ((Try.prog.info? 54).map (·.size) = some M0.size) := by apply hide; rw [HM1.out.2]; exact Try.info_msg
  clear hM0
  go_upto_region 14 with (refine wpList_store_row rfl 54 (.tmp 14) (.tmp 89) rfl (w7.heap.size + 1 + 1 + 1 + 1) M0 rfl (by rw [HM0.out]; rfl) 54 _ (lit5_bx w7) HMI.out (by rw [HM1.out.2]; rfl) HM1.out.1 ?_)
  obtain ⟨W8, hW8⟩ : ∃ W8, W8 = (lit5 w7).setRow (w7.heap.size + 1 + 1 + 1 + 1) M0 := ⟨_, rfl⟩
  rw [← hW8]
  obtain ⟨hm, hc, hb8, p1, p2, p3, p4⟩ := lit_ows w7 W8 M0 HM0.out hW8
  have hnS : w6.heap.size < w7.heap.size := HN7.out.lt _ rfl
  have hN8 : BxA W8 w6.heap.size 89 #[.int .u64 0, nl] := BxA.up HN7.out.b hb8
  have hS8 : w7.heap.size + 5 ≤ W8.heap.size := by have := hm.lt; omega
  have HM8 := hide hm
  have HP := And.intro p1 (And.intro p2 (And.intro p3 p4))
  have HP := hide HP
  have HS8 := hide hS8
  have HB8' : Hid (Below w.heap.size w W8) := by
    apply hide
    have q := HB7.out.size
    have q2 := HB8.out.size
    exact (HB7.out.trans (HB8.out.mono q)).trans (hb8.mono (by omega))
  have kS := send_own W8 w6.heap.size w7.heap.size M0 [97] 1 1 hN8 hc hnS
  clear hm hc hb8 p1 p2 p3 p4 hN8 hW8 hS8
  go_upto_region 15 with (first
    | (refine wpList_load_row rfl 54 (.tmp 14) rfl (w7.heap.size + 1 + 1 + 1 + 1) rfl 54 M0 (0, 0) _ HM8.out Try.underlying54 rfl HMI.out ?_)
    | (go_at_call 13; refine kS.mono ?_; rintro e w9 ⟨he9, r, gb, cr, M1, hO, hC, hF, hr, hg⟩; subst he9))
  have hx : BxA w9 (w7.heap.size + 1 + 1 + 1 + 1) 54 M0 := HM8.out.frm hF (by omega)
  have p1 := HP.out.1.frm hF (by omega)
  have p2 := HP.out.2.1.frm hF (by omega)
  have p3 := HP.out.2.2.1.frm hF (by omega)
  have p4 := HP.out.2.2.2.frm hF (by omega)
  have x39 : w9.cell? ⟨w7.heap.size + 1 + 1 + 1 + 1, 39, none⟩ = some (.slice (some ⟨w7.heap.size, 0, none⟩) 1 1) := hx.cell 39 _ (by rw [HM0.out]; rfl)
  have x10 : w9.cell? ⟨w7.heap.size + 1 + 1 + 1 + 1, 10, none⟩ = some (.slice (some ⟨w7.heap.size + 1, 0, none⟩) 1 1) := hx.cell 10 _ (by rw [HM0.out]; rfl)
  have x21 : w9.cell? ⟨w7.heap.size + 1 + 1 + 1 + 1, 21, none⟩ = some (.slice (some ⟨w7.heap.size + 1 + 1 + 1, 0, none⟩) 1 1) := hx.cell 21 _ (by rw [HM0.out]; rfl)
  have y1 : w9.cell? ⟨w7.heap.size, 2, none⟩ = some (.int .i64 1) := p1.cell 2 _ rfl
  have y2 : w9.cell? ⟨w7.heap.size + 1, 0, none⟩ = some (.string { data := #[97] }) := p2.cell 0 _ rfl
  have y3 : w9.cell? ⟨w7.heap.size + 1 + 1, 0, none⟩ = some (.int .i64 1) := p3.cell 0 _ rfl
  have y4 : w9.cell? ⟨w7.heap.size + 1 + 1 + 1, 0, none⟩ = some (.slice (some ⟨w7.heap.size + 1 + 1, 0, none⟩) 1 1) := p4.cell 0 _ rfl
  have z1 := p1.free 2
  have z2 := p2.free 0
  have z3 := p3.free 0
  have HO9 := hide hO
  have HC9 := hide hC
  have HF9 := hide hF
  have HR9 := And.intro hr hg
  have HR9 := hide HR9
  clear hx p1 p2 p3 p4 hO hC hF hr hg kS
  go_upto_region 18 with fail
  obtain ⟨V, hV⟩ : ∃ V, V = ((w9.setCell ⟨w7.heap.size, 2, none⟩ (.int .i64 2)).setCell ⟨w7.heap.size + 1, 0, none⟩ (.string { data := #[98] })).setCell ⟨w7.heap.size + 1 + 1, 0, none⟩ (.int .i64 9) := ⟨_, rfl⟩
  rw [← hV]
  have hFV : Fr (fun j => w7.heap.size ≤ j ∧ j < w7.heap.size + 3) w9 V := by
    rw [hV]
    exact ((Fr.of_grown (F := fun j => w7.heap.size ≤ j ∧ j < w7.heap.size + 3) grown_setCell fun j hj => .inl (by injection hj with hj; omega)).trans (Fr.of_grown (F := fun j => w7.heap.size ≤ j ∧ j < w7.heap.size + 3) grown_setCell fun j hj => .inl (by injection hj with hj; omega)) fun _ _ h => h).trans (Fr.of_grown (F := fun j => w7.heap.size ≤ j ∧ j < w7.heap.size + 3) grown_setCell fun j hj => .inl (by injection hj with hj; omega)) fun _ _ h => h
  have hOV : NtO V w6.heap.size r gb cr M1 := HO9.out.fr hFV (by have := HR9.out; have := HS8.out; omega)
  have hCV : Cn V W8.heap.size M1 [97] 1 1 := HC9.out.fr (Nat.le_refl _) hFV fun j h1 h2 => by have := HS8.out; omega
  have HFV := hide hFV
  have HOV := hide hOV
  have HCV := hide hCV
  have kP := peek_own V w6.heap.size r gb cr W8.heap.size M1 [97] 1 1 hOV hCV
  clear hV hFV hOV hCV x39 x10 x21 y1 y2 y3 y4 z1 z2 z3
  go_upto_region 19 with (first
    | (go_at_call 23; refine kP.mono ?_; rintro e w10 ⟨M2, he10, hC10, hb10⟩; subst he10; have HC10 := hide hC10; have HB10 := hide hb10; have HI2 : Hid ((Try.prog.info? 54).map (·.size) = some M2.size) := (by apply hide; rw [hC10.sz.1]; exact Try.info_msg); have HZ2 := hide hC10.sz; clear hC10 hb10)
    | (refine wpList_store_row rfl 54 (.tmp 15) (.tmp 110) rfl w10.heap.size M2 rfl rfl 54 _ (BxA.new _ _ _) HI2.out (by rw [HZ2.out.1]; rfl) HZ2.out.2 ?_))
  obtain ⟨X, hX⟩ : ∃ X, X = (w10.alloc (.cells (List.toArray ((Value.int .i64 0) :: (Value.int .i64 0) :: (Value.int .i64 0) :: (Value.int .u64 0) :: (Value.int .u64 0) :: (Value.int .u64 0) :: (Value.int .i64 0) :: (Value.int .u64 0) :: (Value.int .i64 0) :: (Value.int .i64 0) :: (Value.slice none 0 0) :: (Value.slice none 0 0) :: (Value.int .i64 0) :: (Value.int .i64 0) :: (Value.int .i64 0) :: (Value.int .i64 0) :: (Value.slice none 0 0) :: (Value.int .i64 0) :: (Value.int .i64 0) :: (Value.slice none 0 0) :: (Value.int .i64 0) :: (Value.slice none 0 0) :: (Value.slice none 0 0) :: (Value.int .i64 0) :: (Value.int .i64 0) :: (Value.int .i64 0) :: (Value.int .i64 0) :: (Value.int .i64 0) :: (Value.int .i64 0) :: (Value.int .i64 0) :: (Value.int .i64 0) :: (Value.int .i64 0) :: (Value.bool false) :: (Value.int .i64 0) :: (Value.int .i64 0) :: (Value.int .i64 0) :: (Value.int .i64 0) :: (Value.int .i64 0) :: (Value.int .i64 0) :: (Value.slice none 0 0) :: (Value.slice none 0 0) :: [])) 54)).setRow w10.heap.size M2 := ⟨_, rfl⟩
  have hXB : BxA X w10.heap.size 54 M2 := by rw [hX]; exact setRow_heap _ _ _ M2 _ _ (BxA.new _ _ _)
  have hGX : Below w10.heap.size w10 X := by rw [hX]; exact ((Grows.alloc _ _).setRow M2 (Nat.le_refl _)).below
  rw [← hX]
  clear hX
  have hwx : Below V.heap.size V X := HB10.out.trans (hGX.mono HB10.out.size)
  obtain ⟨bg, cg, bs, cs, bi, ci, bd, cd, h39, h21, -, ⟨hg, hgf⟩, hs, ⟨hii, hif⟩, -, ⟨lo1, -, lo3, -⟩, ⟨ne1, ne2, ne3, ne4, ne5⟩, k1, k2, k3, k4, k5, k6, -, -⟩ := (HC10.out.up hGX).cells hXB
  unfold maxLen at k2 k4 k6
  have ne1' := Ne.symm ne1
  have ne2' := Ne.symm ne2
  have ne3' := Ne.symm ne3
  have ne4' := Ne.symm ne4
  have ne5' := Ne.symm ne5
  have HWX := hide hwx
  have HLO := And.intro lo1 lo3
  have HLO := hide HLO
  clear hXB hGX hwx kP lo1 lo3
  go_upto_region 21 with fail
  obtain ⟨T, hT⟩ : ∃ T, T = (X.setCell ⟨bg, 2, none⟩ (.int .i64 3)).setCell ⟨bi, 0, none⟩ (.int .i64 8) := ⟨_, rfl⟩
  rw [← hT]
  have hVT : Below V.heap.size V T := by
    have f : Fr (fun j => V.heap.size ≤ j) V T := by
      rw [hT]
      have q := HLO.out
      exact ((Fr.of_below (F := fun j => V.heap.size ≤ j) HWX.out).trans (Fr.of_grown (F := fun j => V.heap.size ≤ j) grown_setCell fun j hj => .inl (by injection hj with hj; omega)) fun _ _ h => h).trans (Fr.of_grown (F := fun j => V.heap.size ≤ j) grown_setCell fun j hj => .inl (by injection hj with hj; omega)) fun _ _ h => h
    exact f.below (Nat.le_refl _) fun j hj => hj
  have kD := deliver_own T w6.heap.size r gb cr W8.heap.size M1 [97] 1 1 (HOV.out.up hVT) (HCV.out.up hVT)
  have HVT := hide hVT
  have HRT : Hid (r < T.heap.size ∧ w6.heap.size < T.heap.size) := hide ⟨World.block_lt_of_cell? _ _ (HOV.out.up hVT).row.2.2.1, (HOV.out.up hVT).b.lt⟩
  clear hT hVT h39 h21 hg hgf hs hii hif ne1 ne2 ne3 ne4 ne5 ne1' ne2' ne3' ne4' ne5' k1 k2 k3 k4 k5 k6
  go_upto_region 22 with (first
    | (go_at_call 19; refine kD.mono ?_; rintro e w11 ⟨M3, he11, hC11, hf11⟩; subst he11; have HC11 := hide hC11; have HF11 := hide hf11; have HI3 : Hid ((Try.prog.info? 54).map (·.size) = some M3.size) := (by apply hide; rw [hC11.sz.1]; exact Try.info_msg); have HZ3 := hide hC11.sz; clear hC11 hf11)
    | (refine wpList_store_row rfl 54 (.tmp 17) (.tmp 125) rfl w11.heap.size M3 rfl rfl 54 _ (BxA.new _ _ _) HI3.out (by rw [HZ3.out.1]; rfl) HZ3.out.2 ?_))
  obtain ⟨Y, hY⟩ : ∃ Y, Y = (w11.alloc (.cells (List.toArray ((Value.int .i64 0) :: (Value.int .i64 0) :: (Value.int .i64 0) :: (Value.int .u64 0) :: (Value.int .u64 0) :: (Value.int .u64 0) :: (Value.int .i64 0) :: (Value.int .u64 0) :: (Value.int .i64 0) :: (Value.int .i64 0) :: (Value.slice none 0 0) :: (Value.slice none 0 0) :: (Value.int .i64 0) :: (Value.int .i64 0) :: (Value.int .i64 0) :: (Value.int .i64 0) :: (Value.slice none 0 0) :: (Value.int .i64 0) :: (Value.int .i64 0) :: (Value.slice none 0 0) :: (Value.int .i64 0) :: (Value.slice none 0 0) :: (Value.slice none 0 0) :: (Value.int .i64 0) :: (Value.int .i64 0) :: (Value.int .i64 0) :: (Value.int .i64 0) :: (Value.int .i64 0) :: (Value.int .i64 0) :: (Value.int .i64 0) :: (Value.int .i64 0) :: (Value.int .i64 0) :: (Value.bool false) :: (Value.int .i64 0) :: (Value.int .i64 0) :: (Value.int .i64 0) :: (Value.int .i64 0) :: (Value.int .i64 0) :: (Value.int .i64 0) :: (Value.slice none 0 0) :: (Value.slice none 0 0) :: [])) 54)).setRow w11.heap.size M3 := ⟨_, rfl⟩
  have hYB : BxA Y w11.heap.size 54 M3 := by rw [hY]; exact setRow_heap _ _ _ M3 _ _ (BxA.new _ _ _)
  have hGY : Below w11.heap.size w11 Y := by rw [hY]; exact ((Grows.alloc _ _).setRow M3 (Nat.le_refl _)).below
  rw [← hY]
  clear hY
  obtain ⟨bg', cg', bs', cs', bi', ci', bd', cd', h39, h21, h10, ⟨hg, -⟩, hs, ⟨hii, -⟩, hd, -, -, k1, k2, k3, k4, k5, k6, k7, k8⟩ := (HC11.out.up hGY).cells hYB
  unfold maxLen at k2 k4 k6 k8
  have hd' : Y.cell? ⟨bd', 0, none⟩ = some (.string { data := #[97] }) := hd
  have hbw : Below w.heap.size w Y := by
    have f0 : Fr (fun j => w.heap.size ≤ j) w W8 := Fr.of_below HB8'.out
    have f1 : Fr (fun j => w.heap.size ≤ j) W8 w9 := fr_mono HF9.out fun j hj => by have := HB7.out.size; omega
    have f2 : Fr (fun j => w.heap.size ≤ j) w9 V := fr_mono HFV.out fun j hj => by have := HB7.out.size; have := HB8.out.size; omega
    have f3 : Fr (fun j => w.heap.size ≤ j) V T := Fr.of_below HVT.out
    have q0 := HB8'.out.size
    have f4 : Fr (fun j => w.heap.size ≤ j) T w11 := fr_mono HF11.out fun j hj => by have := HB7.out.size; have := HR9.out; omega
    have f5 : Fr (fun j => w.heap.size ≤ j) w11 Y := Fr.of_below hGY
    exact (((((f0.trans f1 fun _ _ h => h).trans f2 fun _ _ h => h).trans f3 fun _ _ h => h).trans f4 fun _ _ h => h).trans f5 fun _ _ h => h).below (Nat.le_refl _) fun j hj => hj
  have HBW := hide hbw
  clear hbw hGY hYB kD hd
  go_wp2_with fail
  go_ret
  exact ⟨rfl, HBW.out⟩
end Go.Proofs.Ytnkllgpibmofiaa
