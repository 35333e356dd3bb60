/- Contracts of Count, behindAlike, copied. -/
import Derived.Test.YtgdeongeonhlpaaSortM
namespace Go.Proofs.Ytgdeongeonhlpaa
open Go.RowKit Go.Sort

/-- Where the cells of one row lie. -/
theorem RdsM.at {w : World} {ao : Option Addr} {n cap : Nat} {l : List En} (h : RdsM w (.slice ao n cap) l) (h0 : 0 < l.length) :
    n = l.length ∧ n ≤ cap ∧ cap ≤ maxLen ∧ ∃ b off, ao = some ⟨b, off, none⟩ ∧ ∀ i (hi : i < l.length),
      w.cell? ⟨b, off + i * 4, none⟩ = some (.int .i64 l[i].f.t) ∧ w.cell? ⟨b, off + i * 4 + 1, none⟩ = some l[i].f.dv ∧ w.cell? ⟨b, off + i * 4 + 2, none⟩ = some l[i].f.mv ∧ w.cell? ⟨b, off + i * 4 + 3, none⟩ = some (.int .u64 l[i].n) := by
  obtain ⟨rfl, k0, k1, k2, k3, k4⟩ := h.r.cells (by decide)
  obtain ⟨b, off, rfl, hc⟩ := k3 h0
  refine ⟨rfl, k1, k2, b, off, rfl, fun i hi => ?_⟩
  have g : ∀ c, c < 4 → (ev l)[i * 4 + c]? = (l[i].cells)[c]? := fun c hc => ev_get l i c hi hc
  refine ⟨?_, ?_, ?_, ?_⟩
  · exact hc (i * 4) _ (by have := g 0 (by omega); simpa [En.cells] using this)
  · rw [Nat.add_assoc]; exact hc (i * 4 + 1) _ (by have := g 1 (by omega); simpa [En.cells] using this)
  · rw [Nat.add_assoc]; exact hc (i * 4 + 2) _ (by have := g 2 (by omega); simpa [En.cells] using this)
  · rw [Nat.add_assoc]; exact hc (i * 4 + 3) _ (by have := g 3 (by omega); simpa [En.cells] using this)
theorem RdsM.len {w : World} {ao : Option Addr} {n cap : Nat} {l : List En} (h : RdsM w (.slice ao n cap) l) : n = l.length ∧ n ≤ cap ∧ cap ≤ maxLen := by
  obtain ⟨rfl, k0, k1, k2, k3, k4⟩ := h.r.cells (by decide)
  exact ⟨rfl, k1, k2⟩
theorem RdsM.sl {w : World} {v : Value} {l : List En} (h : RdsM w v l) : ∃ ao n cap, v = .slice ao n cap := by obtain ⟨ao, cap, rfl, _⟩ := h.r; exact ⟨_, _, _, rfl⟩
theorem tot_take (l : List En) (i : Nat) (hi : i < l.length) : totR (rows (l.take (i + 1))) = totR (rows (l.take i)) + l[i].n := by
  have e : rows (l.take (i + 1)) = rows (l.take i) ++ [l[i].row] := by
    unfold rows
    rw [List.take_succ_eq_append_getElem hi, List.map_append]
    rfl
  rw [e, totR_app]
  simp [totR, En.row]
theorem Rds.sl {w : World} {v : Value} {xs : List Value} (h : Rds w v xs) : ∃ a n c, v = .slice a n c := by obtain ⟨ao, cap, rfl, _⟩ := h; exact ⟨_, _, _, rfl⟩

/-- How many, turned round. -/
def totM (l : List Row) : Nat := totR l % two64
theorem totM_lt (l : List Row) : totM l < 18446744073709551616 := Nat.mod_lt _ (by decide)
theorem wrap_add (a b : Nat) : IntKind.u64.wrap ((a : Int) + (b : Int)) = (((a + b) % two64 : Nat) : Int) := by
  rw [IntKind.wrap_u64]
  unfold two64
  omega

set_option maxHeartbeats 1600000 in
theorem count_any (w : World) (v : Value) (l : List En) (h : RdsM w v l) :
    Calls Try.prog 25 #[v] w fun e w' => e = .returned (.int .u64 ((totM (rows l) : Nat) : Int)) ∧ Below w.heap.size w w' := by
  obtain ⟨ao, n, cap, rfl⟩ := h.sl
  obtain ⟨hn, hc1, hc2⟩ := h.len
  have HN : Hid (n = l.length) := hn
  have HH : Hid (RdsM w (.slice ao n cap) l) := h
  clear h hn
  unfold maxLen at hc2
  go_enter Try.func25, Try.ntmps25
  go_wp2
  go_loopw [3, 8] (fun vt vi wr => ∃ i T : Nat, vi = .int .i64 i ∧ vt = .int .u64 T ∧ i ≤ n ∧ T < 18446744073709551616 ∧ Hid (T = totR (rows (l.take i)) % two64) ∧ Below w.heap.size w wr) (fun _ vi _ => n - (intOf vi).toNat)
  case atStart => exact ⟨0, 0, rfl, rfl, by omega, by omega, rfl, Below.refl _ _⟩
  case round =>
    obtain ⟨i, T, rfl, rfl, hi, hT, HT, hb⟩ := hrel
    by_cases hlt : i < n
    · have hltz : (i : Int) < (n : Int) := by omega
      have hil : i < l.length := by have := HN.out; omega
      obtain ⟨-, -, -, b, off, rfl, hcell⟩ := (RdsM.below HH.out hb).at (by omega)
      obtain ⟨q0, q1, q2, q3⟩ := hcell i hil
      have hnn := (HH.out.ok l[i] (List.getElem_mem hil)).n
      have hst := tot_take l i hil
      obtain ⟨aD, nD, cD, hD⟩ := (HH.out.ok l[i] (List.getElem_mem hil)).f.rd.sl
      obtain ⟨aM, nM, cM, hM⟩ := (HH.out.ok l[i] (List.getElem_mem hil)).f.rm.sl
      rw [hD] at q1
      rw [hM] at q2
      clear hD hM
      generalize l[i].f.t = t0 at q0
      generalize l[i].n = N at q3 hnn hst
      unfold two64 at hnn
      have HS : Hid _ := hst
      clear hst hcell
      go_wp2
      go_roundw
      case rel =>
        refine ⟨i + 1, (T + N) % two64, by go_num, congrArg _ (wrap_add T N), by omega, Nat.mod_lt _ (by decide), ?_, hb.alloc hb.size _⟩
        show _ = _
        rw [HS.out, HT.out, Nat.mod_add_mod]
      case measure => simp [intOf]; omega
    · have hltz : ¬ (i : Int) < (n : Int) := by omega
      have hin : l.length ≤ i := by have := HN.out; omega
      go_wp2
      go_ret
      have := HT.out
      rw [List.take_of_length_le hin] at this
      exact ⟨ret_int (congrArg _ this), hb⟩

theorem cell_gr {w : World} {a : Addr} {v : Value} (h : w.cell? a = some v) (n : Nat) (os : Array Obj) : (grow (w.drewN n) os).cell? a = some v := cell_grown (World.block_lt_of_cell? _ _ h) h n os
theorem getD_en (l : List En) (i : Nat) (hi : i < l.length) : l.getD i en0 = l[i] := by simp [hi]
set_option maxHeartbeats 1600000 in
theorem alike_any (w : World) (v : Value) (l : List En) (h : RdsM w v l) (F : Nat) (hF : F < l.length) :
    Calls Try.prog 48 #[v, .int .i64 F] w fun e w' => ∃ T : Nat, e = .returned (.int .i64 T) ∧ F < T ∧ T ≤ l.length ∧ Hid ((∀ j, F ≤ j → j < T → (l.getD j en0).f.ft = (l.getD F en0).f.ft) ∧ (T < l.length → (l.getD T en0).f.ft ≠ (l.getD F en0).f.ft)) ∧ Below w.heap.size w w' := by
  have mixed := slay.mixed
  obtain ⟨ao, n, cap, rfl⟩ := h.sl
  obtain ⟨hn, hc1, hc2⟩ := h.len
  rw [← hn] at hF ⊢
  have HN : Hid (n = l.length) := hn
  have HH : Hid (RdsM w (.slice ao n cap) l) := h
  clear h hn
  unfold maxLen at hc2
  have hFz : (F : Int) < (n : Int) := by omega
  go_enter Try.func48, Try.ntmps48
  go_wp2
  go_loopg [5] n (fun kx vi wr => ∃ T : Nat, vi = .int .i64 T ∧ F < T ∧ T ≤ n ∧ n - T ≤ kx ∧ Hid (∀ j, F ≤ j → j < T → (l.getD j en0).f.ft = (l.getD F en0).f.ft) ∧ Below w.heap.size w wr)
  case atStart => exact ⟨F + 1, by go_num, by omega, by omega, by omega, fun j h1 h2 => by rw [show j = F by omega], Below.refl _ _⟩
  case round =>
    obtain ⟨T, rfl, hFT, hTn, hkx, HA, hb⟩ := hrel
    by_cases hlt : T < n
    · have hltz : (T : Int) < (n : Int) := by omega
      have hltd : decide ((T : Int) < (n : Int)) = true := decide_eq_true hltz
      have hFl : F < l.length := by have := HN.out; omega
      have hTl : T < l.length := by have := HN.out; omega
      have hr := RdsM.below HH.out hb
      obtain ⟨-, -, -, b, off, rfl, hcell⟩ := hr.at (by omega)
      obtain ⟨q0, q1, q2, q3⟩ := hcell F hFl
      obtain ⟨p0, p1, p2, p3⟩ := hcell T hTl
      have oF := hr.ok l[F] (List.getElem_mem hFl)
      have oT := hr.ok l[T] (List.getElem_mem hTl)
      have HX : Hid (l.getD F en0 = l[F] ∧ l.getD T en0 = l[T]) := ⟨getD_en l F hFl, getD_en l T hTl⟩
      generalize l[F] = x at *
      generalize l[T] = y at *
      have kc : ∀ nq os, Calls Try.prog 14 #[.agg #[.int .i64 x.f.t, x.f.dv, x.f.mv], .agg #[.int .i64 y.f.t, y.f.dv, y.f.mv]] (grow (wr.drewN nq) os) fun e w' => e = .returned (.int .i64 (cmpF x.f.ft y.f.ft)) ∧ ∃ q os', w' = grow ((grow (wr.drewN nq) os).drewN q) os' := fun nq os =>
        compare_any (grow (wr.drewN nq) os) x.f y.f (oF.f.below (below_grown_sl _ wr nq os (Nat.le_refl _))) (oT.f.below (below_grown_sl _ wr nq os (Nat.le_refl _)))
      obtain ⟨C, hC⟩ : ∃ C, C = cmpF x.f.ft y.f.ft := ⟨_, rfl⟩
      rw [← hC] at kc
      have HC : Hid (C = cmpF x.f.ft y.f.ft) := hC
      generalize x.f.t = tx at *
      generalize x.f.dv = dx at *
      generalize x.f.mv = mx at *
      generalize y.f.t = ty at *
      generalize y.f.dv = dy at *
      generalize y.f.mv = my at *
      have q0' := fun nq os => cell_gr q0 nq os
      have q1' := fun nq os => cell_gr q1 nq os
      have q2' := fun nq os => cell_gr q2 nq os
      have p0' := fun nq os => cell_gr p0 nq os
      have p1' := fun nq os => cell_gr p1 nq os
      have p2' := fun nq os => cell_gr p2 nq os
      clear hC oF oT hcell hr q3 p3 q0 q1 q2 p0 p1 p2
      by_cases hz : C = 0
      · have hz2 : (C == 0) = true := by simp [hz]
        have HZ : Hid (C = 0) := hz
        clear hz
        go_wp2_with fail
        go_quiet_grown (first | (go_at_call 14; refine Calls.grown_of (kc _ _)))
        go_wp2_with fail
        go_roundg (n - (T + 1))
        case rel =>
          refine ⟨T + 1, by go_num, by omega, by omega, Nat.le_refl _, fun j h1 h2 => ?_, hb.trans (below_grown_sl _ wr nq osq hb.size)⟩
          by_cases hj : j = T
          · subst hj
            rw [HX.out.1, HX.out.2]
            exact ((cmpF_ord.eq _ _).1 (HC.out.symm.trans HZ.out)).symm
          · exact HA.out j h1 (by omega)
        case measure => omega
      · have hz2 : (C == 0) = false := by simp [hz]
        have HZ : Hid (¬ C = 0) := hz
        clear hz
        go_wp2_with fail
        go_quiet_grown (first | (go_at_call 14; refine Calls.grown_of (kc _ _)))
        go_wp2_with fail
        go_ret
        refine ⟨T, rfl, hFT, hTn, ⟨HA.out, fun _ => ?_⟩, hb.trans (below_grown_sl _ wr nq osq hb.size)⟩
        rw [HX.out.1, HX.out.2]
        exact fun e => HZ.out (HC.out.trans ((cmpF_ord.eq _ _).2 e.symm))
    · have hltz : ¬ (T : Int) < (n : Int) := by omega
      have hltd : decide ((T : Int) < (n : Int)) = false := decide_eq_false hltz
      go_wp2_with fail
      go_quiet (fail)
      go_wp2_with fail
      go_ret
      exact ⟨T, rfl, hFT, hTn, ⟨HA.out, fun h => absurd h hlt⟩, below_dN hb nq⟩

theorem sv_k {w : World} {v : Value} {ts : List Str} (h : Rds w v (sv ts)) : RdsK 1 w v ts.length (sv ts) := by have := h.k; rwa [sv_length] at this
theorem iv_k {w : World} {v : Value} {zs : List Int} (h : Rds w v (iv zs)) : RdsK 1 w v zs.length (iv zs) := by have := h.k; rwa [iv_length] at this
theorem own1_rds {w : World} {base e : Nat} {v : Value} {xs : List Value} {n : Nat} (h : w.ownsRow base e 1 v n xs) : Rds w v xs := by
  have hl : xs.length = n := by simpa using h.1
  subst hl
  exact Own.rds (base := base) (e := e) h
theorem own_mono {w : World} {base base' e k n : Nat} {v : Value} {xs : List Value} (h : w.ownsRow base e k v n xs) (hb : base' ≤ base) : w.ownsRow base' e k v n xs := by
  refine ⟨h.1, ?_⟩
  rcases h.2 with h2 | ⟨g, cap, cur, h1, h2, h3⟩
  · exact .inl h2
  · exact .inr ⟨g, cap, cur, h1, by omega, h3⟩
theorem own_below {w w' : World} {base e k n : Nat} {v : Value} {xs : List Value} (h : w.ownsRow base e k v n xs) (hb : Below w.heap.size w w') : w'.ownsRow base e k v n xs := by
  refine ⟨h.1, ?_⟩
  rcases h.2 with h2 | ⟨g, cap, cur, h1, h2, h3, h4⟩
  · exact .inl h2
  · refine .inr ⟨g, cap, cur, h1, h2, ?_, h4⟩
    rw [hb.block g (Array.getElem?_eq_some_iff.1 h3).1]
    exact h3
/-- Rows of other types lie in other blocks. -/
theorem own_apart {w : World} {base base' e e' k k' n n' : Nat} {v v' : Value} {xs xs' : List Value} (h : w.ownsRow base e k v n xs) (h' : w.ownsRow base' e' k' v' n' xs') (hne : e ≠ e') : v.ownBlock = none ∨ v.ownBlock ≠ v'.ownBlock := by
  rcases h.2 with ⟨rfl, _⟩ | ⟨g, cap, cur, rfl, _, hg, _⟩
  · exact .inl rfl
  · refine .inr fun e1 => ?_
    rcases h'.2 with ⟨rfl, _⟩ | ⟨g', cap', cur', rfl, _, hg', _⟩
    · simp [Value.ownBlock] at e1
    · simp only [Value.ownBlock, Option.some.injEq] at e1
      subst e1
      rw [hg] at hg'
      simp only [Option.some.injEq, Obj.cells.injEq] at hg'
      exact hne hg'.2.1
theorem own_sl {w : World} {base e k n : Nat} {v : Value} {xs : List Value} (h : w.ownsRow base e k v n xs) : ∃ a n c, v = .slice a n c := by
  rcases h.2 with ⟨rfl, _⟩ | ⟨g, cap, cur, rfl, _⟩ <;> exact ⟨_, _, _, rfl⟩
/-- A fact whose slices are new memory. -/
structure Fc.Own (w : World) (base : Nat) (f : Fc) : Prop where
  od : w.ownsRow base 9 1 f.dv f.ds.length (sv f.ds)
  om : w.ownsRow base 2 1 f.mv f.ms.length (iv f.ms)
  bd : f.ds.length * 16 ≤ 160842843834660
  bm : f.ms.length * 8 ≤ 160842843834660
theorem Fc.Own.ok {w : World} {base : Nat} {f : Fc} (h : f.Own w base) : f.Ok w := ⟨own1_rds h.od, own1_rds h.om, h.bd, h.bm⟩
theorem Fc.Own.below {w w' : World} {base : Nat} {f : Fc} (h : f.Own w base) (hb : Below w.heap.size w w') : f.Own w' base := ⟨own_below h.od hb, own_below h.om hb, h.bd, h.bm⟩
theorem Fc.Own.mono {w : World} {base base' : Nat} {f : Fc} (h : f.Own w base) (hb : base' ≤ base) : f.Own w base' := ⟨own_mono h.od hb, own_mono h.om hb, h.bd, h.bm⟩

theorem set_kept {w : World} {base e k n : Nat} {v : Value} {xs : List Value} (h : w.ownsRow base e k v n xs) {B o : Nat} (hB : B < base) (u : Value) : (w.setCell ⟨B, o, none⟩ u).ownsRow base e k v n xs := by
  refine h.kept (row := some B) ⟨rfl, rfl, rfl, by simp, fun k _ hk => Below.heap_setCell w ⟨B, o, none⟩ u k (fun e => hk (by rw [e]))⟩ ?_
  right
  intro e
  have := (h.lt B e).1
  omega
/-- The two boxes that copied lays. -/
theorem boxes (w : World) (t : Int) (d m : Value) (w' : World) (hb : Below (w.heap.size + 2) ((w.alloc (.cells #[.int .i64 t, d, m] 27)).alloc (.cells #[.int .i64 0, .slice none 0 0, .slice none 0 0] 27)) w') :
    (w'.cell? ⟨w.heap.size, 0, none⟩ = some (.int .i64 t) ∧ w'.cell? ⟨w.heap.size, 1, none⟩ = some d ∧ w'.cell? ⟨w.heap.size, 2, none⟩ = some m) ∧
    (w'.cell? ⟨w.heap.size + 1, 0, none⟩ = some (.int .i64 0) ∧ w'.cell? ⟨w.heap.size + 1, 1, none⟩ = some (.slice none 0 0) ∧ w'.cell? ⟨w.heap.size + 1, 2, none⟩ = some (.slice none 0 0)) ∧
    (w'.frozen? ⟨w.heap.size + 1, 0, none⟩ = false ∧ w'.frozen? ⟨w.heap.size + 1, 1, none⟩ = false ∧ w'.frozen? ⟨w.heap.size + 1, 2, none⟩ = false) := by
  refine ⟨⟨?_, ?_, ?_⟩, ⟨?_, ?_, ?_⟩, ?_, ?_, ?_⟩
  all_goals first
    | (rw [hb.cell (by show w.heap.size < w.heap.size + 2; omega)]; simp; done)
    | (rw [hb.cell (by show w.heap.size + 1 < w.heap.size + 2; omega)]; simp; done)
    | (rw [hb.frozen (by show w.heap.size + 1 < w.heap.size + 2; omega)]; simp; done)

theorem read3 (w : World) (B : Nat) (x y z : Value) {a b c : Value} (h0 : w.cell? ⟨B, 0, none⟩ = some a) (h1 : w.cell? ⟨B, 1, none⟩ = some b) (h2 : w.cell? ⟨B, 2, none⟩ = some c) :
    (((w.setCell ⟨B, 0, none⟩ x).setCell ⟨B, 1, none⟩ y).setCell ⟨B, 2, none⟩ z).cell? ⟨B, 0, none⟩ = some x ∧ (((w.setCell ⟨B, 0, none⟩ x).setCell ⟨B, 1, none⟩ y).setCell ⟨B, 2, none⟩ z).cell? ⟨B, 1, none⟩ = some y ∧
    (((w.setCell ⟨B, 0, none⟩ x).setCell ⟨B, 1, none⟩ y).setCell ⟨B, 2, none⟩ z).cell? ⟨B, 2, none⟩ = some z := by
  refine ⟨?_, ?_, ?_⟩ <;> simp [go_sem, h0, h1, h2]

set_option maxHeartbeats 4000000 in
theorem copied_any (w : World) (f : Fc) (h : f.Ok w) :
    Calls Try.prog 49 #[f.val] w fun e w' => ∃ g : Fc, e = .returned g.val ∧ g.ft = f.ft ∧ g.Own w' w.heap.size ∧ Below w.heap.size w w' := by
  unfold Fc.val
  obtain ⟨W, hW⟩ : ∃ W, W = (w.alloc (.cells #[.int .i64 f.t, f.dv, f.mv] 27)).alloc (.cells #[.int .i64 0, .slice none 0 0, .slice none 0 0] 27) := ⟨_, rfl⟩
  have bW : Below w.heap.size w W := by rw [hW]; exact ((Below.refl _ _).alloc (Nat.le_refl _) _).alloc (by simp) _
  have zW : W.heap.size = w.heap.size + 2 := by rw [hW]; simp
  have ok := h.below bW
  have kd : ∀ w', Below (w.heap.size + 2) W w' → Calls Try.prog 54 #[f.dv] w' fun e w'' => ∃ v', e = .returned v' ∧ w''.ownsRow (w.heap.size + 2) 9 1 v' f.ds.length (sv f.ds) ∧ Below (w.heap.size + 2) W w'' ∧ Below w'.heap.size w' w'' := fun w' hb =>
    (clone_str w' f.dv _ (sv f.ds) (sv_k (ok.rd.below (by rw [zW]; exact hb))) (sv_one _) h.bd).mono fun e w'' ⟨v', he, ho, hb'⟩ => ⟨v', he, own_mono ho (by have := hb.size; omega), hb.trans (hb'.mono (by have := hb.size; omega)), hb'⟩
  have km : ∀ w', Below (w.heap.size + 2) W w' → Calls Try.prog 55 #[f.mv] w' fun e w'' => ∃ v', e = .returned v' ∧ w''.ownsRow (w.heap.size + 2) 2 1 v' f.ms.length (iv f.ms) ∧ Below (w.heap.size + 2) W w'' ∧ Below w'.heap.size w' w'' := fun w' hb =>
    (clone_i64 w' f.mv _ (iv f.ms) (iv_k (ok.rm.below (by rw [zW]; exact hb))) (iv_one _) h.bm).mono fun e w'' ⟨v', he, ho, hb'⟩ => ⟨v', he, own_mono ho (by have := hb.size; omega), hb.trans (hb'.mono (by have := hb.size; omega)), hb'⟩
  have bx : ∀ w', Below (w.heap.size + 2) W w' → _ := fun w' hb => boxes w f.t f.dv f.mv w' (by rw [← hW]; exact hb)
  have b0 : Below (w.heap.size + 2) W W.drew := (Below.refl _ _).drew
  have hbd := h.bd
  have hbm := h.bm
  have fin : ∀ (wz : World) (aD : Option Addr) (nD cD : Nat) (aM : Option Addr) (nM cM : Nat), Below (w.heap.size + 2) W wz → wz.ownsRow (w.heap.size + 2) 9 1 (.slice aD nD cD) f.ds.length (sv f.ds) → wz.ownsRow (w.heap.size + 2) 2 1 (.slice aM nM cM) f.ms.length (iv f.ms) →
      ∃ g : Fc, Ending.returned (.agg #[.int .i64 f.t, .slice aD nD cD, .slice aM nM cM]) = .returned (.agg #[.int .i64 g.t, g.dv, g.mv]) ∧ g.ft = f.ft ∧ g.Own (((wz.setCell ⟨w.heap.size + 1, 0, none⟩ (.int .i64 f.t)).setCell ⟨w.heap.size + 1, 1, none⟩ (.slice aD nD cD)).setCell ⟨w.heap.size + 1, 2, none⟩ (.slice aM nM cM)) w.heap.size ∧
        Below w.heap.size w (((wz.setCell ⟨w.heap.size + 1, 0, none⟩ (.int .i64 f.t)).setCell ⟨w.heap.size + 1, 1, none⟩ (.slice aD nD cD)).setCell ⟨w.heap.size + 1, 2, none⟩ (.slice aM nM cM)) := by
    intro wz aD nD cD aM nM cM hz oD oM
    refine ⟨⟨f.t, .slice aD nD cD, .slice aM nM cM, f.ds, f.ms⟩, rfl, rfl, ⟨?_, ?_, hbd, hbm⟩, ?_⟩
    · exact own_mono (set_kept (set_kept (set_kept oD (by omega) _) (by omega) _) (by omega) _) (by omega)
    · exact own_mono (set_kept (set_kept (set_kept oM (by omega) _) (by omega) _) (by omega) _) (by omega)
    · exact (((bW.trans (hz.mono (by omega))).setCell (by show w.heap.size ≤ w.heap.size + 1; omega) _).setCell (by show w.heap.size ≤ w.heap.size + 1; omega) _).setCell (by show w.heap.size ≤ w.heap.size + 1; omega) _
  have FIN : Aside _ := fin
  have HW : Hid _ := hW
  clear bW zW ok h hW fin hbd hbm
  go_enter Try.func49, Try.ntmps49
  go_wp2_with fail
  rw [← HW.out]
  obtain ⟨⟨x0, x1, x2⟩, ⟨y0, y1, y2⟩, z0, z1, z2⟩ := bx _ b0
  go_region_with (first
    | (go_at_call 54; with_reducible refine (kd _ (by assumption)).mono ?_; rintro e2 w2 ⟨vD, rfl, oD, c2, d2⟩; obtain ⟨aD, nD, cD, rfl⟩ := own_sl oD; obtain ⟨⟨p0, p1, p2⟩, ⟨q0, q1, q2⟩, r0, r1, r2⟩ := bx _ c2)
    | (go_at_call 55; with_reducible refine (km _ (by assumption)).mono ?_; rintro e3 w3 ⟨vM, rfl, oM, c3, d3⟩; obtain ⟨aM, nM, cM, rfl⟩ := own_sl oM; obtain ⟨⟨s0, s1, s2⟩, ⟨t0, t1, t2⟩, u0', u1', u2'⟩ := bx _ c3))
  all_goals
    go_wp2_with fail
    first
      | (obtain ⟨v0, v1, v2⟩ := read3 w3 (w.heap.size + 1) (.int .i64 f.t) (.slice aD nD cD) (.slice aM nM cM) t0 t1 t2
         have oF := FIN.out w3 aD nD cD aM nM cM c3 (own_below oD d3) oM
         generalize ((w3.setCell ⟨w.heap.size + 1, 0, none⟩ (.int .i64 f.t)).setCell ⟨w.heap.size + 1, 1, none⟩ (.slice aD nD cD)).setCell ⟨w.heap.size + 1, 2, none⟩ (.slice aM nM cM) = w4 at v0 v1 v2 oF ⊢
         exact bodyPost_ret (v := .agg #[.int .i64 f.t, .slice aD nD cD, .slice aM nM cM]) (by simp [results, Try.results49, go_sem, v0, v1, v2]) rfl oF)
      | (obtain ⟨v0, v1, v2⟩ := read3 w2 (w.heap.size + 1) (.int .i64 f.t) (.slice aD nD cD) (.slice aM nM cM) q0 q1 q2
         have oF := FIN.out w2 aD nD cD aM nM cM c2 oD (own_below oM d2)
         generalize ((w2.setCell ⟨w.heap.size + 1, 0, none⟩ (.int .i64 f.t)).setCell ⟨w.heap.size + 1, 1, none⟩ (.slice aD nD cD)).setCell ⟨w.heap.size + 1, 2, none⟩ (.slice aM nM cM) = w4 at v0 v1 v2 oF ⊢
         exact bodyPost_ret (v := .agg #[.int .i64 f.t, .slice aD nD cD, .slice aM nM cM]) (by simp [results, Try.results49, go_sem, v0, v1, v2]) rfl oF)
end Go.Proofs.Ytgdeongeonhlpaa
