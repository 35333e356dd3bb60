/- The contract of the reference's Clean, where it is true. -/
import Derived.Test.YtlfkhinmncbkcaaRMade
import Derived.Test.YtlfkhinmncbkcaaRPart
namespace Go.Proofs.Ytlfkhinmncbkcaa
open Go.RowKit Go.Sort

/-- It has nothing that doesn't count, and no Not but above what is no Not, And, Or. -/
inductive Tr.Cl : Tr → Prop
  | mk {t : Tr} (d : t.own.d = t.d) (lo : t.own.lo = t.lo) (hi : t.own.hi = t.hi) (ts : t.own.ts.length = t.ts.length) (kl : t.kids.length = t.ks.length) (nk : t.k = 2 → ∀ c ∈ t.ks, c.k ≠ 2 ∧ c.k ≠ 3 ∧ c.k ≠ 4) (h : ∀ c ∈ t.ks, Tr.Cl c) : Tr.Cl t

set_option maxHeartbeats 8000000 in
theorem clean_any : ∀ (N : Nat) (t : Tr), SizeOf.sizeOf t < N → ∀ (w : World), t.Ok w → t.Cl →
    Calls Try.prog 21 #[.agg #[.int .i64 t.k, .int .i64 t.d, t.tv, .int .i64 t.lo, .int .i64 t.hi, t.kv]] w fun e w' => e = .returned (.bool true) ∧ Grows w w' := by
  intro N
  induction N with
  | zero => intro t ht; omega
  | succ N ih =>
    intro t ht w h cl
    obtain ⟨hcd, hclo, hchi, hcts, hckl, hcnk, hck⟩ := cl
    obtain ⟨at', nt, ct, ak, nk, ck, e1, e2, hnk, hc1, hc2, -⟩ := h.lens
    unfold maxLen at hc2
    obtain ⟨W, hW⟩ : ∃ W, W = w.alloc (.cells #[.int .i64 t.k, .int .i64 t.d, t.tv, .int .i64 t.lo, .int .i64 t.hi, t.kv] 27) := ⟨_, rfl⟩
    have gW : Grows w W := by rw [hW]; exact Grows.alloc _ _
    have cc : ∀ c u, (#[Value.int .i64 t.k, .int .i64 t.d, t.tv, .int .i64 t.lo, .int .i64 t.hi, t.kv])[c]? = some u → W.cell? ⟨w.heap.size, c, none⟩ = some u := fun c u hc => by rw [hW]; exact al_new _ _ _ rfl hc
    have okW := h.up gW.below
    have kO := leaf_any W t okW
    have hro := own_rt okW
    obtain ⟨ao, no, co, f1⟩ := hro.sl
    have hno : no = nt := by
      have k1 := okW.rt
      rw [e1] at k1
      rw [f1] at hro
      have a1 := (k1.cells).1
      have a2 := (hro.cells).1
      rw [sv_length] at a1 a2
      omega
    subst hno
    rw [hW, own_kv, f1, hcd, hclo, hchi, own_k, e1, e2] at kO
    have HC : Aside _ := cc
    have HG : Hid (Grows w W) := gW
    have HW : Hid _ := hW
    have HO : Hid (t.Ok W ∧ SizeOf.sizeOf t < N + 1) := ⟨okW, ht⟩
    have HE : Hid (t.tv = .slice at' no ct ∧ t.kv = .slice ak nk ck) := ⟨e1, e2⟩
    have HI : Aside _ := ih
    have HNK : Hid (nk = t.ks.length ∧ t.kids.length = t.ks.length) := ⟨hnk, hckl⟩
    have HN2 : Aside _ := hcnk
    have HCK : Aside _ := hck
    have mixed : Try.prog.follows .mixedOrders = true := by kernel_rfl
    rw [e1, e2] at HW ⊢
    clear h ht hcd hclo hchi hcts hckl hcnk hck e1 e2 hnk cc okW hro f1 gW hW ih
    go_enter Try.func21, Try.ntmps21
    go_wp2_with fail
    refine kO.mono ?_
    rintro e w5 ⟨rfl, g5⟩
    rw [← HW.out] at g5
    clear kO
    obtain ⟨V, hV⟩ : ∃ V, V = w5.alloc (.cells #[.int .i64 t.k, .int .i64 t.d, .slice ao no co, .int .i64 t.lo, .int .i64 t.hi, .slice none 0 0] 27) := ⟨_, rfl⟩
    have gV : Grows w5 V := by rw [hV]; exact Grows.alloc _ _
    have gWV : Grows W V := g5.trans gV
    have cv : ∀ c u, (#[Value.int .i64 t.k, .int .i64 t.d, .slice ao no co, .int .i64 t.lo, .int .i64 t.hi, .slice none 0 0])[c]? = some u → V.cell? ⟨w5.heap.size, c, none⟩ = some u := fun c u hc => by rw [hV]; exact al_new _ _ _ rfl hc
    have cw := fun c u hc => cell_up gWV.below (HC.out c u hc)
    have okV := HO.out.1.up gWV.below
    have kK : ∀ nq os, Calls Try.prog 30 #[.agg #[.int .i64 t.k, .int .i64 t.d, t.tv, .int .i64 t.lo, .int .i64 t.hi, t.kv]] (grow (V.drewN nq) os) fun e w' => e = .returned t.rkidv ∧ ∃ q os', w' = grow ((grow (V.drewN nq) os).drewN q) os' := fun nq os =>
      refkids_any _ t (okV.up (below_grown_sl _ V nq os (Nat.le_refl _)))
    have rk := okV.rkids
    obtain ⟨a6, n6, c6, e6⟩ := rk.sl
    rw [e6] at rk kK
    have hn6 := rk.len.1
    have hn6' : n6 = nk := by have := HNK.out; omega
    subst hn6'
    rw [HE.out.1, HE.out.2] at kK
    have y0 := fun nq os => cell_gr (cw 0 _ rfl) nq os
    have y1 := fun nq os => cell_gr (cw 1 _ rfl) nq os
    have y2 := fun nq os => cell_gr (cw 2 _ rfl) nq os
    have y3 := fun nq os => cell_gr (cw 3 _ rfl) nq os
    have y4 := fun nq os => cell_gr (cw 4 _ rfl) nq os
    have y5 := fun nq os => cell_gr (cw 5 _ rfl) nq os
    rw [HE.out.1] at y2
    rw [HE.out.2] at y5
    have z1 := fun nq os => cell_gr (cv 1 _ rfl) nq os
    have z2 := fun nq os => cell_gr (cv 2 _ rfl) nq os
    have z3 := fun nq os => cell_gr (cv 3 _ rfl) nq os
    have z4 := fun nq os => cell_gr (cv 4 _ rfl) nq os
    have HV : Hid _ := hV
    have HGV : Hid (Grows W V) := gWV
    clear cv cw okV rk e6 hn6 gV gWV g5 hV
    go_wp2_with fail
    rw [← HV.out]
    refine wp_region_quiet_grown (by assumption) (by kernel_rfl) ?_
    repeat (go_big_quiet_step (first | (go_at_call 30; with_reducible refine Calls.grown_of (kK _ _))))
    refine wpQuiet_nil ?_
    intro _ hw'
    obtain ⟨⟨nq, osq⟩, hw''⟩ := hw'
    subst hw''
    obtain ⟨U, hU⟩ : ∃ v, v = grow (V.drewN nq) osq := ⟨_, rfl⟩
    rw [← hU]
    have gU : Grows W U := HGV.out.trans ⟨nq, osq, hU⟩
    have HGU : Hid (Grows W U) := gU
    have hru := (HO.out.1.up gU.below).kids'
    rw [HE.out.2] at hru
    have HRU : Hid (RdsT U (.slice ak n6 ck) t.ks) := hru
    clear hU gU hru kK y0 y1 y2 y3 y4 y5 z1 z2 z3 z4
    go_wp2_with fail
    go_loopg [4] n6 (fun kx vi wr => ∃ i : Nat, vi = .int .i64 i ∧ i ≤ n6 ∧ n6 - i ≤ kx ∧ Hid (Grows U wr))
    case atStart => exact ⟨0, rfl, by omega, Nat.le_refl _, Grows.refl _⟩
    case round =>
      obtain ⟨i, rfl, hi, hkx, HGr⟩ := hrel
      have gr := HGU.out.trans HGr.out
      have cw := fun c u hc => cell_up gr.below (HC.out c u hc)
      have v0 := cw 0 _ rfl
      have v5 := cw 5 _ rfl
      rw [HE.out.2] at v5
      by_cases hlt : i < n6
      · have hltz : (i : Int) < (n6 : Int) := by omega
        have hil : i < t.ks.length := by have := HNK.out.1; omega
        have hr := RdsT.below HRU.out HGr.out.below
        obtain ⟨b, off, rfl, hcell⟩ := hr.at (by omega)
        obtain ⟨q0, q1, q2, q3, q4, q5⟩ := hcell i hil
        have hxm : t.ks[i] ∈ t.ks := List.getElem_mem hil
        have ok := hr.ok t.ks[i] hxm
        have hcx := HCK.out t.ks[i] hxm
        have hn2 := fun h => HN2.out h t.ks[i] hxm
        have hsz : SizeOf.sizeOf t.ks[i] < N := by have := ks_lt hxm; have := HO.out.2; omega
        generalize t.ks[i] = x at *
        have kR := HI.out x hsz wr ok hcx
        obtain ⟨at5, nt5, ct5, ak5, nk5, ck5, g1, g2, -, -, -, -⟩ := ok.lens
        rw [g1] at q2
        rw [g2] at q5
        rw [g1, g2] at kR
        generalize x.k = xk at *
        generalize x.d = xd at *
        generalize x.lo = xl at *
        generalize x.hi = xh at *
        clear hr hcell hxm ok hcx hsz g1 g2 cw gr
        by_cases h2 : t.k = 2
        · obtain ⟨n2, n3, n4⟩ := hn2 h2
          have c2 : (t.k == 2) = true := by simp [h2]
          have x2 : (xk == 2) = false := by simp [n2]
          have x3 : (xk == 3) = false := by simp [n3]
          have x4 : (xk == 4) = false := by simp [n4]
          clear hn2 h2 n2 n3 n4
          go_wp2_with fail
          refine kR.mono ?_
          rintro e w6 ⟨rfl, g6⟩
          go_wp2_with fail
          go_roundg (n6 - (i + 1))
          case measure => omega
          case rel => exact ⟨i + 1, by go_num, by omega, Nat.le_refl _, HGr.out.trans g6⟩
        · have c2 : (t.k == 2) = false := by simp [h2]
          clear hn2 h2
          go_wp2_with fail
          refine kR.mono ?_
          rintro e w6 ⟨rfl, g6⟩
          go_wp2_with fail
          go_roundg (n6 - (i + 1))
          case measure => omega
          case rel => exact ⟨i + 1, by go_num, by omega, Nat.le_refl _, HGr.out.trans g6⟩
      · have hltz : ¬ (i : Int) < (n6 : Int) := by omega
        clear cw gr
        go_wp2_with fail
        go_ret
        exact ⟨rfl, HG.out.trans (HGU.out.trans HGr.out)⟩
theorem own5 {t : Tr} (h : t.k = 5 ∨ t.k = 6 ∨ t.k = 7) : t.own.d = t.d ∧ t.own.lo = 0 ∧ t.own.hi = 0 ∧ t.own.ts = t.ts := by unfold Tr.own; rw [if_pos h]; exact ⟨rfl, rfl, rfl, rfl⟩
theorem own8 {t : Tr} (h : t.k = 8) : t.own.d = t.d ∧ t.own.lo = t.lo ∧ t.own.hi = t.hi ∧ t.own.ts = [] := by unfold Tr.own; rw [if_neg (by omega), if_pos h]; exact ⟨rfl, rfl, rfl, rfl⟩
theorem own0 {t : Tr} (h5 : ¬(t.k = 5 ∨ t.k = 6 ∨ t.k = 7)) (h8 : t.k ≠ 8) : t.own.d = 0 ∧ t.own.lo = 0 ∧ t.own.hi = 0 ∧ t.own.ts = [] := by unfold Tr.own; rw [if_neg h5, if_neg h8]; exact ⟨rfl, rfl, rfl, rfl⟩
/-- A leaf by itself is so. -/
theorem cl_own {t : Tr} (h2 : t.k ≠ 2) : t.own.er.Cl := by
  have hk : t.own.er.k = t.k := by rw [er_k, own_k]
  have ek := er_d t.own
  have el := er_lo t.own
  have eh := er_hi t.own
  have et := er_ts t.own
  have main : t.own.er.own.d = t.own.er.d ∧ t.own.er.own.lo = t.own.er.lo ∧ t.own.er.own.hi = t.own.er.hi ∧ t.own.er.own.ts = t.own.er.ts := by
    by_cases h5 : t.k = 5 ∨ t.k = 6 ∨ t.k = 7
    · obtain ⟨a1, a2, a3, a4⟩ := own5 (t := t.own.er) (by rw [hk]; exact h5)
      obtain ⟨b1, b2, b3, b4⟩ := own5 h5
      exact ⟨a1, by rw [a2, el, b2], by rw [a3, eh, b3], a4⟩
    · by_cases h8 : t.k = 8
      · obtain ⟨a1, a2, a3, a4⟩ := own8 (t := t.own.er) (by rw [hk]; exact h8)
        obtain ⟨b1, b2, b3, b4⟩ := own8 h8
        exact ⟨a1, a2, a3, by rw [a4, et, b4]⟩
      · obtain ⟨a1, a2, a3, a4⟩ := own0 (t := t.own.er) (by rw [hk]; exact h5) (by rw [hk]; exact h8)
        obtain ⟨b1, b2, b3, b4⟩ := own0 h5 h8
        exact ⟨by rw [a1, ek, b1], by rw [a2, el, b2], by rw [a3, eh, b3], by rw [a4, et, b4]⟩
  refine .mk main.1 main.2.1 main.2.2.1 (by rw [main.2.2.2]) ?_ (fun h => absurd (hk ▸ h) h2) fun c hc => ?_
  · rw [own_kids, er_ks, own_ks]; rfl
  · rw [er_ks, own_ks] at hc; cases hc
/-- A filter turned is so. -/
theorem cl_turn (D M : Int) (t : Tr) : t.fitA D M = true → ∀ b, (t.turn b).Cl := by
  refine turn_ind (P := fun t => t.fitA D M = true → ∀ b, (t.turn b).Cl) (fun t h ih hf b => ?_) (fun t c r h hks ih hf b => ?_) (fun t h3 h4 hk hf b => ?_) t
  · rw [t.fitA_eq, and_kids h, Bool.and_eq_true, fitL_mem] at hf
    rw [turn_and h]
    have hk := kind_of h b
    generalize (if b then 7 - t.k else t.k) = k at hk
    obtain ⟨a1, a2, a3, a4⟩ := own0 (t := .mk k 0 sn [] 0 0 sn (t.ks.map fun c => c.turn b)) (by show ¬(k = 5 ∨ k = 6 ∨ k = 7); omega) (by show k ≠ 8; omega)
    refine .mk a1 a2 a3 (by rw [a4]; rfl) (by rw [andT_kids hk]; rfl) (fun e => by have e' : k = 2 := e; omega) fun c hc => ?_
    obtain ⟨d, hd, rfl⟩ := List.mem_map.1 hc
    exact ih d hd (hf.2 d hd) b
  · rw [t.fitA_eq, not_kids h hks, Bool.and_eq_true, fitL_one] at hf
    rw [turn_not h hks]
    exact ih hf.2 (!b)
  · obtain ⟨h2, hfit⟩ := leaf_not2 h3 h4 hk hf
    rw [turn_leaf h3 h4 hk]
    cases b
    · exact cl_own h2
    · show (Tr.mk 2 0 sn [] 0 0 sn [t.own.er]).Cl
      obtain ⟨a1, a2, a3, a4⟩ := own0 (t := .mk 2 0 sn [] 0 0 sn [t.own.er]) (by show ¬((2 : Int) = 5 ∨ (2 : Int) = 6 ∨ (2 : Int) = 7); omega) (by show (2 : Int) ≠ 8; omega)
      refine .mk a1 a2 a3 (by rw [a4]; rfl) rfl (fun _ c hc => ?_) fun c hc => ?_
      · have : c = t.own.er := by simpa [Tr.ks] using hc
        rw [this, er_k, own_k]; exact ⟨h2, h3, h4⟩
      · have : c = t.own.er := by simpa [Tr.ks] using hc
        rw [this]; exact cl_own h2
theorem own_er (t : Tr) : t.er.own.d = t.own.d ∧ t.er.own.lo = t.own.lo ∧ t.er.own.hi = t.own.hi ∧ t.er.own.ts = t.own.ts := by
  by_cases h5 : t.k = 5 ∨ t.k = 6 ∨ t.k = 7
  · obtain ⟨a1, a2, a3, a4⟩ := own5 (t := t.er) (by rw [er_k]; exact h5)
    obtain ⟨b1, b2, b3, b4⟩ := own5 h5
    exact ⟨by rw [a1, er_d, b1], by rw [a2, b2], by rw [a3, b3], by rw [a4, er_ts, b4]⟩
  · by_cases h8 : t.k = 8
    · obtain ⟨a1, a2, a3, a4⟩ := own8 (t := t.er) (by rw [er_k]; exact h8)
      obtain ⟨b1, b2, b3, b4⟩ := own8 h8
      exact ⟨by rw [a1, er_d, b1], by rw [a2, er_lo, b2], by rw [a3, er_hi, b3], by rw [a4, b4]⟩
    · obtain ⟨a1, a2, a3, a4⟩ := own0 (t := t.er) (by rw [er_k]; exact h5) (by rw [er_k]; exact h8)
      obtain ⟨b1, b2, b3, b4⟩ := own0 h5 h8
      exact ⟨by rw [a1, b1], by rw [a2, b2], by rw [a3, b3], by rw [a4, b4]⟩
theorem cl_er (t : Tr) : t.er.Cl → t.Cl := by
  suffices k : ∀ N (t : Tr), SizeOf.sizeOf t < N → t.er.Cl → t.Cl from k _ t (Nat.lt_succ_self _)
  intro N
  induction N with
  | zero => intro t h; omega
  | succ N ih =>
    intro t ht h
    obtain ⟨o1, o2, o3, o4⟩ := own_er t
    obtain ⟨h1, h2, h3, h4, h5, h6, h7⟩ := h
    rw [o1, er_d] at h1
    rw [o2, er_lo] at h2
    rw [o3, er_hi] at h3
    rw [o4, er_ts] at h4
    rw [er_kids, er_ks, List.length_map, List.length_map] at h5
    rw [er_k, er_ks] at h6
    rw [er_ks] at h7
    refine .mk h1 h2 h3 h4 h5 (fun e c hc => ?_) fun c hc => ih c (by have := ks_lt hc; omega) (h7 c.er (List.mem_map_of_mem hc))
    have := h6 e c.er (List.mem_map_of_mem hc)
    rwa [er_k] at this
end Go.Proofs.Ytlfkhinmncbkcaa
