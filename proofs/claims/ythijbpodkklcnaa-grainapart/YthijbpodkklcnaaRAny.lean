/- Contracts of the reference's Any, Edges and Same. -/
import Derived.Test.YthijbpodkklcnaaRPut
import Derived.Test.YthijbpodkklcnaaSpl
namespace Go.Proofs.Ythijbpodkklcnaa
open Go.RowKit Go.Sort

set_option maxHeartbeats 2000000 in
theorem refany_any (w : World) (v : Value) (l : List Sp) (t : Int) (h : RdP w v l) :
    Calls Try.prog 24 #[v, .int .i64 t] w fun e w' => e = .returned (.bool (any l t)) ∧ Grows w w' := by
  obtain ⟨ao, n, cap, rfl⟩ := h.sl
  obtain ⟨hn, c1, c2, -⟩ := h.at
  unfold maxLen at c2
  have HN : Hid (n = l.length) := hn
  have HH : Hid (RdP w (.slice ao n cap) l) := h
  clear h hn
  obtain ⟨Z, hZ⟩ : ∃ Z, any l t = Z := ⟨_, rfl⟩
  have HZ : Hid _ := hZ
  rw [hZ]
  clear hZ
  go_enter Try.func24, Try.ntmps24
  go_wp2_with fail
  go_loopg [5] n (fun kx vi wr => ∃ i : Nat, vi = .int .i64 i ∧ i ≤ n ∧ n - i ≤ kx ∧ Hid (any (l.take i) t = false) ∧ Hid (Grows w wr))
  case atStart => exact ⟨0, rfl, by omega, Nat.le_refl _, rfl, Grows.refl _⟩
  case round =>
    obtain ⟨i, rfl, hin, hkx, HA, HG⟩ := hrel
    by_cases hlt : i < n
    · have hltz : (i : Int) < (n : Int) := by omega
      have hil : i < l.length := by have := HN.out; omega
      have hr := HH.out.below HG.out.below
      obtain ⟨-, -, -, hk⟩ := hr.at
      obtain ⟨b, off, rfl, hcl⟩ := hk (by omega)
      obtain ⟨q0, q1⟩ := hcl i hil
      have htk : l.take (i + 1) = l.take i ++ [l[i]] := List.take_succ_eq_append_getElem hil
      have hmem : l[i] ∈ l := List.getElem_mem hil
      have kH := refholds_any wr l[i] t
      have HM : Hid (hol l[i] t = true → any l t = true) := fun hh => (any_iff _ _).2 ⟨_, hmem, (hol_iff _ _).1 hh⟩
      have HT : Hid (any (l.take (i + 1)) t = hol l[i] t) := by
        show _ = _
        rw [htk, any_app, HA.out, any_cons, any_nil]; simp
      generalize l[i] = x at *
      obtain ⟨F, T⟩ := x
      simp only at q0 q1 kH
      generalize hol (F, T) t = y at *
      clear hr hcl htk hk hmem
      cases y with
      | true =>
        go_wp2_with fail
        refine kH.mono ?_
        rintro e w5 ⟨rfl, g5⟩
        have HG5 : Hid _ := HG.out.trans g5
        clear kH g5
        go_wp2_with fail
        go_ret
        exact ⟨by rw [← HZ.out, HM.out (by trivial)]; rfl, HG5.out⟩
      | false =>
        go_wp2_with fail
        refine kH.mono ?_
        rintro e w5 ⟨rfl, g5⟩
        have HG5 : Hid _ := HG.out.trans g5
        clear kH g5
        go_wp2_with fail
        go_roundg (n - (i + 1))
        case measure => omega
        case rel => exact ⟨i + 1, by go_num, by omega, Nat.le_refl _, HT.out, HG5.out⟩
    · have hltz : ¬ (i : Int) < (n : Int) := by omega
      go_wp2_with fail
      go_ret
      refine ⟨?_, HG.out⟩
      have ha := HA.out
      rw [List.take_of_length_le (by have := HN.out; omega), HZ.out] at ha
      rw [ha]
      rfl

theorem ins_ne (l : List Int) (x : Int) : ins l x ≠ [] := by
  intro h
  have := (ins_mem l x x).2 (.inl rfl)
  rw [h] at this; cases this

set_option maxHeartbeats 2000000 in
theorem refedges_any (w : World) (v : Value) (l : List Sp) (h : RdP w v l) (hbig : l.length ≤ 450) :
    Calls Try.prog 25 #[v] w fun e w' => ∃ v', e = .returned v' ∧ Rds w' v' (iv (edges l)) ∧ Below w.heap.size w w' := by
  obtain ⟨ao, n, cap, rfl⟩ := h.sl
  obtain ⟨hn, c1, c2, -⟩ := h.at
  unfold maxLen at c2
  have HN : Hid (n = l.length) := hn
  have HH : Hid (RdP w (.slice ao n cap) l) := h
  have hbn : n ≤ 450 := by omega
  clear h hn
  go_enter Try.func25, Try.ntmps25
  go_wp2_with fail
  go_loopg [3, 4] n (fun kx v3 vi wr => ∃ (i : Nat) (E : List Int), vi = .int .i64 i ∧ i ≤ n ∧ n - i ≤ kx ∧ Hid (Rds wr v3 (iv E)) ∧ Hid (E = [] → v3 = .slice none 0 0) ∧ Hid (E = (l.take i).foldl edge []) ∧ Hid (Below w.heap.size w wr))
  case atStart => exact ⟨0, [], rfl, by omega, Nat.le_refl _, Rds.nil _, fun _ => rfl, rfl, Below.refl _ _⟩
  case round =>
    obtain ⟨i, E, rfl, hin, hkx, HR, HNl, HE, HB⟩ := hrel
    obtain ⟨a3, n3, c3, hv⟩ := HR.out.sl
    subst hv
    by_cases hlt : i < n
    · have hltz : (i : Int) < (n : Int) := by omega
      have hil : i < l.length := by have := HN.out; omega
      have hr := HH.out.below HB.out
      obtain ⟨-, -, -, hk⟩ := hr.at
      obtain ⟨b, off, rfl, hcl⟩ := hk (by omega)
      obtain ⟨q0, -⟩ := hcl i hil
      have htk : l.take (i + 1) = l.take i ++ [l[i]] := List.take_succ_eq_append_getElem hil
      have hEl : E.length ≤ 2 * i := by
        have := edges_length_aux (l.take i) []
        rw [← HE.out] at this
        simp at this; omega
      have kP := refput_any wr (.slice a3 n3 c3) E l[i].1 HR.out HNl.out (by omega)
      have hi1 := ins_length E l[i].1
      have hE2 : (l.take (i + 1)).foldl edge [] = ins (ins E l[i].1) l[i].2 := by rw [htk, List.foldl_append, ← HE.out]; rfl
      have HC : Hid (∀ w5, Below wr.heap.size wr w5 → w5.cell? ⟨b, off + i * 2 + 1, none⟩ = some (.int .i64 l[i].2)) := fun w5 b5 => by
        have := (hr.below b5).at.2.2.2 (by omega)
        obtain ⟨b', off', e', hcl'⟩ := this
        simp only [Option.some.injEq, Addr.mk.injEq, and_true] at e'
        obtain ⟨rfl, rfl⟩ := e'
        exact (hcl' i hil).2
      have HE2 : Hid _ := hE2
      generalize l[i] = x at *
      obtain ⟨F, T⟩ := x
      simp only at q0 kP hi1
      clear hr hcl htk hk hE2
      go_wp2_with fail
      refine kP.mono ?_
      rintro e w5 ⟨v5, rfl, r5, b5⟩
      have q1 := HC.out w5 b5
      have kP2 := refput_any w5 v5 (ins E F) T r5 (fun h => absurd h (ins_ne _ _)) (by omega)
      obtain ⟨a5, n5, c5, rfl⟩ := r5.sl
      have HB5 : Hid _ := HB.out.trans (b5.mono HB.out.size)
      try simp only at q1
      clear kP r5 b5 q0 HR HNl
      go_wp2_with fail
      refine kP2.mono ?_
      rintro e w6 ⟨v6, rfl, r6, b6⟩
      have HB6 : Hid _ := HB5.out.trans (b6.mono HB5.out.size)
      have HR6 : Hid _ := r6
      obtain ⟨a6, n6, c6, rfl⟩ := r6.sl
      clear kP2 r6 b6 q1
      go_wp2_with fail
      go_roundg (n - (i + 1))
      case measure => omega
      case rel => exact ⟨i + 1, ins (ins E F) T, by go_num, by omega, Nat.le_refl _, HR6.out, (fun h => absurd h (ins_ne _ _)), HE2.out.symm, HB6.out⟩
    · have hltz : ¬ (i : Int) < (n : Int) := by omega
      go_wp2_with fail
      go_ret
      refine ⟨_, rfl, ?_, HB.out⟩
      have hE := HE.out
      rw [List.take_of_length_le (by have := HN.out; omega)] at hE
      unfold edges
      rw [← hE]
      exact HR.out

set_option maxHeartbeats 2000000 in
theorem refsame_any (w : World) (v u : Value) (l m : List Sp) (h : RdP w v l) (k : RdP w u m) :
    Calls Try.prog 19 #[v, u] w fun e w' => e = .returned (.bool (decide (l = m))) ∧ Grows w w' := by
  obtain ⟨ao, n, cap, rfl⟩ := h.sl
  obtain ⟨hn, c1, c2, -⟩ := h.at
  obtain ⟨ao2, n2, cap2, rfl⟩ := k.sl
  obtain ⟨hn2, d1, d2, -⟩ := k.at
  unfold maxLen at c2 d2
  have HN : Hid (n = l.length ∧ n2 = m.length) := ⟨hn, hn2⟩
  have HH : Hid (RdP w (.slice ao n cap) l) := h
  have HK : Hid (RdP w (.slice ao2 n2 cap2) m) := k
  clear h k hn hn2
  by_cases hne : n = n2
  · subst hne
    obtain ⟨Z, hZ⟩ : ∃ Z, decide (l = m) = Z := ⟨_, rfl⟩
    have HZ : Hid _ := hZ
    rw [hZ]
    clear hZ
    go_enter Try.func19, Try.ntmps19
    go_wp2_with fail
    go_loopg [5] n (fun kx vi wr => ∃ i : Nat, vi = .int .i64 i ∧ i ≤ n ∧ n - i ≤ kx ∧ Hid (l.take i = m.take i) ∧ Hid (Grows w wr))
    case atStart => exact ⟨0, rfl, by omega, Nat.le_refl _, by simp [Hid], Grows.refl _⟩
    case round =>
      obtain ⟨i, rfl, hin, hkx, HA, HG⟩ := hrel
      by_cases hlt : i < n
      · have hltz : (i : Int) < (n : Int) := by omega
        have hil : i < l.length := by have := HN.out; omega
        have him : i < m.length := by have := HN.out; omega
        obtain ⟨-, -, -, hk⟩ := (HH.out.below HG.out.below).at
        obtain ⟨b, off, rfl, hcl⟩ := hk (by omega)
        obtain ⟨q0, q1⟩ := hcl i hil
        obtain ⟨-, -, -, hk2⟩ := (HK.out.below HG.out.below).at
        obtain ⟨b2, off2, rfl, hcl2⟩ := hk2 (by omega)
        obtain ⟨p0, p1⟩ := hcl2 i him
        have htk : l.take (i + 1) = l.take i ++ [l[i]] := List.take_succ_eq_append_getElem hil
        have htk2 : m.take (i + 1) = m.take i ++ [m[i]] := List.take_succ_eq_append_getElem him
        have HD : Hid (l[i] = m[i] → l.take (i + 1) = m.take (i + 1)) := fun e => by rw [htk, htk2, HA.out, e]
        have HD2 : Hid (l[i] ≠ m[i] → l ≠ m) := fun e e2 => e (by subst e2; rfl)
        generalize l[i] = x at *
        generalize m[i] = y at *
        obtain ⟨F, T⟩ := x
        obtain ⟨F2, T2⟩ := y
        simp only at q0 q1 p0 p1
        clear hcl hcl2 htk htk2 hk hk2
        by_cases hF : F = F2
        · by_cases hT : T = T2
          · subst hF hT
            go_wp2_with fail
            go_quiet (fail)
            go_wp2_with fail
            go_roundg (n - (i + 1))
            case measure => omega
            case rel => exact ⟨i + 1, by go_num, by omega, Nat.le_refl _, HD.out (by trivial), HG.out.trans (Grows.drewN _ _)⟩
          · subst hF
            have hTb : (T == T2) = false := by simp [hT]
            go_wp2_with fail
            go_quiet (fail)
            go_wp2_with fail
            go_ret
            exact ⟨by rw [← HZ.out, decide_eq_false (HD2.out (fun e => hT (Prod.mk.inj e).2))]; rfl, HG.out.trans (Grows.drewN _ _)⟩
        · have hFb : (F == F2) = false := by simp [hF]
          go_wp2_with fail
          go_quiet (fail)
          go_wp2_with fail
          go_ret
          exact ⟨by rw [← HZ.out, decide_eq_false (HD2.out (fun e => hF (Prod.mk.inj e).1))]; rfl, HG.out.trans (Grows.drewN _ _)⟩
      · have hltz : ¬ (i : Int) < (n : Int) := by omega
        go_wp2_with fail
        go_ret
        have ha := HA.out
        rw [List.take_of_length_le (by have := HN.out; omega), List.take_of_length_le (by have := HN.out; omega)] at ha
        exact ⟨by rw [← HZ.out, decide_eq_true ha]; rfl, HG.out⟩
  · have hnb : ((n : Int) == (n2 : Int)) = false := by simp; omega
    rw [decide_eq_false (fun e => hne (by have := HN.out; rw [this.1, this.2, e]))]
    clear hne
    go_enter Try.func19, Try.ntmps19
    go_wp2_with fail
    go_ret
    exact ⟨rfl, Grows.refl _⟩
end Go.Proofs.Ythijbpodkklcnaa
