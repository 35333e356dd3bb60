/- Contracts of the reference's From, begins, Begin and Bytes. -/
import Derived.Test.YtfhldldcfdimhaaByt
namespace Go.Proofs.Ytfhldldcfdimhaa
open Go.RowKit Go.Shelf Go.Sort

set_option maxHeartbeats 1600000 in
theorem reffrom_any (w : World) (v : Value) (l : List Str) (s : Str) (h : Rds w v (sv l)) (hr : Ris l) :
    Calls Try.prog 28 #[v, .string ⟨s.toArray⟩] w fun e w' => e = .returned (.int .i64 (frm l s : Nat)) ∧ w' = w := by
  obtain ⟨ao, n, cap, rfl⟩ : ∃ ao n cap, v = .slice ao n cap := by obtain ⟨ao, cap, rfl, _⟩ := h; exact ⟨_, _, _, rfl⟩
  obtain ⟨rfl, h1, h2, h3⟩ := h.cells
  simp only [sv_length] at *
  have h2' : cap ≤ 9223372036854775807 := by unfold maxLen at h2; omega
  go_enter Try.func28, Try.ntmps28
  go_wp2
  go_loopw [5] (fun vi wq => ∃ i : Nat, vi = .int .i64 i ∧ Hid (i ≤ l.length ∧ ∀ j, j < i → l.getD j [] < s) ∧ Hid (wq = w)) (fun vi _ => l.length - (intOf vi).toNat)
  case atStart => exact ⟨0, rfl, hide ⟨by omega, fun j hj => by omega⟩, hide rfl⟩
  case round =>
    obtain ⟨i, rfl, HI, hwq⟩ := hrel
    obtain rfl := unhide hwq
    have hi := (unhide HI).1
    by_cases hlt : i < l.length
    · have hlt' : (i : Int) < (l.length : Int) := by omega
      obtain ⟨b, off, rfl, hc⟩ := h3 (by omega)
      have hck := hc i _ (sv_get l i hlt)
      obtain ⟨t, ht⟩ : ∃ t, t = l.getD i [] := ⟨_, rfl⟩
      rw [← ht] at hck
      have HT := hide ht
      clear ht hc h
      by_cases hts : t < s
      · have hb : Op.bytesLess t s = true := by rw [bytesLess_eq]; exact decide_eq_true hts
        clear hts
        go_wp2
        go_roundw
        case rel =>
          refine ⟨i + 1, by go_num, hide ⟨by omega, fun j hj => ?_⟩, hide trivial⟩
          by_cases hji : j = i
          · subst hji
            rw [← unhide HT]
            rw [bytesLess_eq] at hb
            exact of_decide_eq_true hb
          · exact (unhide HI).2 j (by omega)
        case measure => simp [intOf]; omega
      · have hb : Op.bytesLess t s = false := by rw [bytesLess_eq]; exact decide_eq_false hts
        go_wp2
        go_ret
        refine ⟨ret_int (congrArg _ (frm_eq hr s i hi (fun j hj hji => ?_) (fun hi' => ?_))), rfl⟩
        · rw [← getD_at hj]; exact (unhide HI).2 j hji
        · rw [← getD_at hi', ← unhide HT]; exact hts
    · have hlt' : ¬ (i : Int) < (l.length : Int) := by omega
      go_wp2
      go_ret
      refine ⟨ret_int (congrArg _ (frm_eq hr s i hi (fun j hj hji => ?_) (fun hi' => absurd hi' hlt))), rfl⟩
      rw [← getD_at hj]; exact (unhide HI).2 j hji

theorem str_take (t : Str) (k : Nat) : (⟨t.toArray⟩ : ByteArray).extract 0 k = ⟨(t.take k).toArray⟩ := by
  apply ByteArray.ext
  apply Array.ext'
  rw [Lib.extract_data]
  simp
theorem pre_yes {s t : Str} (h : pre s t = true) : s.length ≤ t.length ∧ t.take s.length = s := by
  unfold pre at h
  rw [List.isPrefixOf_iff_prefix] at h
  exact ⟨h.length_le, (List.prefix_iff_eq_take.1 h).symm⟩
theorem pre_no {s t : Str} (h : ¬ pre s t = true) (_hl : s.length ≤ t.length) : t.take s.length ≠ s := fun e => h (by
  unfold pre
  rw [List.isPrefixOf_iff_prefix]
  exact List.prefix_iff_eq_take.2 e.symm)
set_option maxHeartbeats 800000 in
theorem refbegins_any (w : World) (t s : Str) :
    Calls Try.prog 53 #[.string ⟨t.toArray⟩, .string ⟨s.toArray⟩] w fun e w' => e = .returned (.bool (pre s t)) ∧ w' = w := by
  have hsz := str_size t
  have hss := str_size s
  by_cases hp : pre s t = true
  · rw [hp]
    obtain ⟨p1, p2⟩ := pre_yes hp
    have p1' : (s.length : Int) ≤ (t.length : Int) := by omega
    have st := str_take t s.length
    rw [p2] at st
    clear hp p2
    go_enter Try.func53, Try.ntmps53
    go_wp2
    go_ret
    exact ⟨rfl, rfl⟩
  · have hp' : pre s t = false := by simpa using hp
    rw [hp']
    by_cases hsl : s.length ≤ t.length
    · have hsl' : (s.length : Int) ≤ (t.length : Int) := by omega
      have hne := beq_str (pre_no hp hsl)
      have st := str_take t s.length
      generalize t.take s.length = t' at *
      clear hp hp'
      go_enter Try.func53, Try.ntmps53
      go_wp2
      go_ret
      exact ⟨by simp, rfl⟩
    · have hsl' : ¬ (s.length : Int) ≤ (t.length : Int) := by omega
      clear hp hp'
      go_enter Try.func53, Try.ntmps53
      go_wp2
      go_ret
      exact ⟨rfl, rfl⟩

set_option maxHeartbeats 1600000 in
theorem refbegin_any (w : World) (v : Value) (l : List Str) (s : Str) (h : Rds w v (sv l)) (hr : Ris l) :
    Calls Try.prog 30 #[v, .string ⟨s.toArray⟩] w fun e w' => e = .returned (.tuple #[.int .i64 (frm l s : Nat), .int .i64 (bgn l s : Nat)]) ∧ w' = w := by
  have kF := reffrom_any w v l s h hr
  have hfl := frm_le l s
  have hbe := fun n h1 h2 h3 h4 => bgn_eq hr s n h1 h2 h3 h4
  obtain ⟨ao, n, cap, rfl⟩ : ∃ ao n cap, v = .slice ao n cap := by obtain ⟨ao, cap, rfl, _⟩ := h; exact ⟨_, _, _, rfl⟩
  obtain ⟨rfl, h1, h2, h3⟩ := h.cells
  simp only [sv_length] at *
  have h2' : cap ≤ 9223372036854775807 := by unfold maxLen at h2; omega
  have HB := hide hbe
  clear hbe h
  generalize frm l s = lo at *
  go_enter Try.func30, Try.ntmps30
  go_wp2_with fail
  refine kF.mono ?_
  rintro e w1 ⟨rfl, rfl⟩
  go_wp2_with fail
  go_loopw [7] (fun vi wq => ∃ i : Nat, vi = .int .i64 i ∧ Hid (i ≤ l.length ∧ lo ≤ i ∧ ∀ j, lo ≤ j → j < i → pre s (l.getD j []) = true) ∧ Hid (wq = w1)) (fun vi _ => l.length - (intOf vi).toNat)
  case atStart => exact ⟨lo, rfl, hide ⟨by omega, by omega, fun j hj hj' => by omega⟩, hide rfl⟩
  case round =>
    obtain ⟨i, rfl, HI, hwq⟩ := hrel
    obtain rfl := unhide hwq
    have hi := (unhide HI).1
    by_cases hlt : i < l.length
    · have hlt' : (i : Int) < (l.length : Int) := by omega
      obtain ⟨b, off, rfl, hc⟩ := h3 (by omega)
      have hck := hc i _ (sv_get l i hlt)
      obtain ⟨t, ht⟩ : ∃ t, t = l.getD i [] := ⟨_, rfl⟩
      rw [← ht] at hck
      have HT := hide ht
      clear ht hc
      have kP := refbegins_any wr t s
      by_cases hp : pre s t = true
      · rw [hp] at kP
        have HP := hide hp
        clear hp
        go_wp2_with fail
        refine kP.mono ?_
        rintro e w2 ⟨rfl, rfl⟩
        go_wp2_with fail
        go_roundw
        case rel =>
          refine ⟨i + 1, by go_num, hide ⟨by omega, by have := (unhide HI).2.1; omega, fun j hj hj' => ?_⟩, hide trivial⟩
          by_cases hji : j = i
          · subst hji; rw [← unhide HT]; exact unhide HP
          · exact (unhide HI).2.2 j hj (by omega)
        case measure => simp [intOf]; omega
      · have hp' : pre s t = false := by simpa using hp
        rw [hp'] at kP
        have HP := hide hp
        clear hp hp'
        go_wp2_with fail
        refine kP.mono ?_
        rintro e w2 ⟨rfl, rfl⟩
        go_wp2_with fail
        go_ret2
        have e := unhide HB i hi (unhide HI).2.1 (fun j hj h5 h6 => by rw [← getD_at hj]; exact (unhide HI).2.2 j h5 h6) (fun hi' => by rw [← getD_at hi', ← unhide HT]; exact unhide HP)
        rw [← e]
        exact ⟨rfl, rfl⟩
    · have hlt' : ¬ (i : Int) < (l.length : Int) := by omega
      go_wp2
      go_ret2
      have e := unhide HB i hi (unhide HI).2.1 (fun j hj h5 h6 => by rw [← getD_at hj]; exact (unhide HI).2.2 j h5 h6) (fun hi' => absurd hi' hlt)
      rw [← e]
      exact ⟨rfl, rfl⟩

set_option maxRecDepth 100000 in
set_option maxHeartbeats 3200000 in
theorem refbytes_any (w : World) (v : Value) (ts : List Str) (h : Rds w v (sv ts)) (hle : ts.length ≤ 4096) (hlen : ∀ i, (ts.getD i []).length ≤ 64) :
    Calls Try.prog 29 #[v] w fun e w' => ∃ v', e = .returned v' ∧ Owns w' w.heap.size v' (byts ts) ∧ Below w.heap.size w w' := by
  have hpl := pcs_length ts hlen
  have hpr := prv_len ts hlen
  obtain ⟨ao, n, cap, rfl⟩ : ∃ ao n cap, v = .slice ao n cap := by obtain ⟨ao, cap, rfl, _⟩ := h; exact ⟨_, _, _, rfl⟩
  obtain ⟨rfl, h1, h2, h3⟩ := h.cells
  simp only [sv_length] at *
  have h2' : cap ≤ 9223372036854775807 := by unfold maxLen at h2; omega
  obtain ⟨n, hn⟩ : ∃ n, n = ts.length := ⟨_, rfl⟩
  unfold byts
  rw [← hn] at hle h1 h3 ⊢
  have HN := hide hn
  clear hn h
  go_enter Try.func29, Try.ntmps29
  go_wp2_with fail
  refine (refuint_lit w n _ (by first | rfl | omega) (by omega)).mono ?_
  rintro e w1 ⟨v1, rfl, o1, b1⟩
  have hu := Num.uv_length n
  obtain ⟨U, hU⟩ : ∃ U, Num.uv n = U := ⟨_, rfl⟩
  rw [hU] at hu o1
  have HU := hide hU
  clear hU
  go_wp2_with fail
  go_loopw [3, 4] (fun vo vi wr => ∃ i : Nat, vi = .int .i64 i ∧ Hid (i ≤ n) ∧ Owns wr w.heap.size vo (U ++ pcs ts i) ∧ Below w.heap.size w wr) (fun _ vi _ => n - (intOf vi).toNat)
  case atStart => exact ⟨0, rfl, hide (by omega), by simpa [pcs] using o1, b1⟩
  case round =>
    obtain ⟨i, rfl, hi, own, bel⟩ := hrel
    have hi := unhide hi
    by_cases hlt : i < n
    · have hlt' : (i : Int) < (n : Int) := by omega
      obtain ⟨b, off, rfl, hc⟩ := h3 (by omega)
      have hck := hc i _ (sv_get ts i (by rw [← unhide HN]; exact hlt))
      rw [← bel.cell (World.block_lt_of_cell? _ _ hck)] at hck
      have htl := hlen i
      have hal := hpr i
      have hpi := hpl i
      have hps := pcs_succ ts i
      have hpc : piece (prv ts i) (ts.getD i []) = Num.uv (cpl (prv ts i) (ts.getD i [])) ++ (Num.uv ((ts.getD i []).length - cpl (prv ts i) (ts.getD i [])) ++ (ts.getD i []).drop (cpl (prv ts i) (ts.getD i []))) := rfl
      rw [hpc] at hps
      have HPS := hide hps
      have hcp : 0 < i → wr.cell? ⟨b, off + (i - 1), none⟩ = some (.string ⟨(prv ts i).toArray⟩) := fun h0 => by
        have := hc (i - 1) _ (sv_get ts (i - 1) (by rw [← unhide HN]; omega))
        rw [← bel.cell (World.block_lt_of_cell? _ _ this)] at this
        rw [this]
        obtain ⟨j, rfl⟩ : ∃ j, i = j + 1 := ⟨i - 1, by omega⟩
        rfl
      have hpz : i = 0 → prv ts i = [] := fun h0 => by subst h0; rfl
      have hcB : ∀ w', Below w.heap.size w w' → w'.cell? ⟨b, off + i, none⟩ = some (.string ⟨(ts.getD i []).toArray⟩) := fun w' hb => by
        have := hc i _ (sv_get ts i (by rw [← unhide HN]; exact hlt))
        rw [hb.cell (World.block_lt_of_cell? _ _ this)]
        exact this
      clear hpc hps hc hlen hpr hpl h3
      generalize prv ts i = a at *
      generalize ts.getD i [] = t at *
      have hsz := str_size t
      have hsa := str_size a
      have HPZ := hide hpz
      have HCP := hide hcp
      have HCK := hide hcB
      clear hpz hcp hcB
      go_wp2_with fail
      go_loopw [5] (fun vn wq => ∃ k m : Nat, vn = .int .i64 k ∧ Hid (k ≤ a.length ∧ k ≤ t.length ∧ ∀ j, j < k → a.getD j 0 = t.getD j 0) ∧ wq = wr.drewN m) (fun vn _ => a.length - (intOf vn).toNat)
      case atStart => exact ⟨0, 0, rfl, hide ⟨by omega, by omega, fun j hj => by omega⟩, rfl⟩
      case round =>
        obtain ⟨k, m, rfl, HK, rfl⟩ := hrel
        have hK := unhide HK
        have hkl9 : k ≤ 64 := by omega
        by_cases hi0 : 0 < i
        · have hcp := unhide HCP hi0
          have hi0' : (0 : Int) < (i : Int) := by omega
          obtain ⟨m1, hm1⟩ : ∃ m1, i - 1 = m1 := ⟨_, rfl⟩
          have hm1' : (i : Int) - 1 = (m1 : Int) := by omega
          have hm1n : (m1 : Int) < (n : Int) := by omega
          rw [hm1] at hcp
          clear hm1
          by_cases hkt : k < t.length
          · have hkt' : (k : Int) < (t.length : Int) := by omega
            by_cases hka : k < a.length
            · have hka' : (k : Int) < (a.length : Int) := by omega
              go_wp2_with fail
              go_quiet (fail)
              go_wp2_with fail
              · rename_i hq
                have heq : t.getD k 0 = a.getD k 0 := by
                  rw [byte_at t k, byte_at a k] at hq
                  rw [beq_iff_eq] at hq
                  exact UInt8.toNat_inj.1 (by omega)
                go_roundw
                case rel =>
                  refine ⟨k + 1, m + nq, by go_num, hide ⟨by omega, by omega, fun j hj => ?_⟩, rfl⟩
                  by_cases hjk : j = k
                  · subst hjk; exact heq.symm
                  · exact hK.2.2 j (by omega)
                case measure => simp [intOf]; omega
              · have hq : ((((⟨t.toArray⟩ : ByteArray)[k]'(by rw [hsz]; exact hkt)).toNat : Int) == (((⟨a.toArray⟩ : ByteArray)[k]'(by rw [hsa]; exact hka)).toNat : Int)) = false := by assumption
                have heq : ¬ a.getD k 0 = t.getD k 0 := fun e => by
                  rw [byte_at t k, byte_at a k, e] at hq
                  simp at hq
                have hkc : k = cpl a t := cpl_eq a t k hK.1 hK.2.1 hK.2.2 (fun _ _ => heq)
                have HC := hide hkc
                clear hkc
                have b2 : Below w.heap.size w (wr.drewN (m + nq)) := below_dN bel _
                have own2 : Owns (wr.drewN (m + nq)) w.heap.size _ _ := own
                have hkt : (k : Int) ≤ (t.length : Int) := by have := (unhide HK).2.1; omega
                have hkl : k ≤ t.length := (unhide HK).2.1
                clear own bel
                refine (refuint_lit (wr.drewN (m + nq)) k _ (by first | rfl | omega) (by omega)).mono ?_
                rintro e w3 ⟨v3, rfl, o3, b3⟩
                have hb3 := b2.size
                have own3 := own2.below b3
                have hu3 := Num.uv_length k
                obtain ⟨U3, hU3⟩ : ∃ U3, Num.uv k = U3 := ⟨_, rfl⟩
                rw [hU3] at o3 hu3
                have HU3 := hide hU3
                clear hU3
                obtain ⟨a3, c3, rfl⟩ := o3.shape _ rfl
                obtain ⟨_, h3n, h3s⟩ := o3.reads.src (Below.refl _ _)
                have b3' : Below w.heap.size w w3 := b2.trans (b3.mono hb3)
                have hsz3 := b3'.size
                clear o3 own2
                obtain ⟨P, hP⟩ : ∃ P, U ++ pcs ts i = P := ⟨_, rfl⟩
                have hPl : P.length ≤ 10 + 84 * i := by rw [← hP]; simp; omega
                rw [hP] at own3
                have HP := hide hP
                clear hP
                go_wp2_with (first
                  | (at_builtin; refine wp_app rfl (.tmp 55) (.tmp 58) rfl w.heap.size _ P U3 rfl own3 a3 U3.length c3 rfl rfl h3n h3s (by omega) hsz3 ?_; intro v4 w4 o4 g4; have b4 := grown_below b3' hsz3 own3 g4; have hc4 := unhide HCK w4 b4))
                have hsz4 := b4.size
                clear own3 g4 h3s h3n
                have hdl : (t.drop k).length ≤ 64 := by simp; omega
                have hdl' : (t.drop k).length = t.length - k := List.length_drop
                go_wp2_with fail
                rw [str_drop]
                refine (reftext_any w4 ⟨(t.drop k).toArray⟩ (by rw [str_size]; omega)).mono ?_
                rintro e w5 ⟨v5, rfl, o5, b5⟩
                rw [str_size] at o5
                have own5 := o4.below b5
                have hu5 := Num.uv_length (t.drop k).length
                obtain ⟨T5, hT⟩ : ∃ T5, Num.uv (t.drop k).length ++ t.drop k = T5 := ⟨_, rfl⟩
                have o5 : Owns w5 w4.heap.size v5 T5 := by rw [← hT]; exact o5
                have hTl : T5.length ≤ 74 := by rw [← hT, List.length_append]; omega
                have HT := hide hT
                clear hT
                obtain ⟨a5, c5, rfl⟩ := o5.shape _ rfl
                obtain ⟨_, h5n, h5s⟩ := o5.reads.src (Below.refl _ _)
                have b5' : Below w.heap.size w w5 := b4.trans (b5.mono hsz4)
                have hsz5 := b5'.size
                clear o5 o4
                have hPl2 : (P ++ U3).length ≤ 20 + 84 * i := by simp; omega
                obtain ⟨Q, hQ⟩ : ∃ Q, P ++ U3 = Q := ⟨_, rfl⟩
                rw [hQ] at own5 hPl2
                have HQ := hide hQ
                clear hQ
                go_wp2_with (first
                  | (at_builtin; refine wp_app rfl (.tmp 60) (.tmp 67) rfl w.heap.size _ Q T5 rfl own5 a5 T5.length c5 rfl rfl h5n h5s (by omega) hsz5 ?_; intro v6 w6 o6 g6))
                have b6 := grown_below b5' hsz5 own5 g6
                clear own5 g6 h5s h5n
                go_wp2_with fail
                go_roundw
                case rel =>
                  refine ⟨i + 1, by go_num, hide (by omega), ?_, b6⟩
                  have e : U ++ pcs ts (i + 1) = Q ++ T5 := by
                    rw [← unhide HQ, ← unhide HP, ← unhide HT, ← unhide HU3, unhide HPS, ← unhide HC, hdl']
                    simp [List.append_assoc]
                  rw [e]
                  exact o6
                case measure => simp [intOf]; omega
            · have hka' : ¬ (k : Int) < (a.length : Int) := by omega
              go_wp2_with fail
              go_quiet (fail)
              go_wp2_with fail
              have hkc : k = cpl a t := cpl_eq a t k hK.1 hK.2.1 hK.2.2 (fun h _ => absurd h hka)
              have HC := hide hkc
              clear hkc
              have b2 : Below w.heap.size w (wr.drewN (m + nq)) := below_dN bel _
              have own2 : Owns (wr.drewN (m + nq)) w.heap.size _ _ := own
              have hkt : (k : Int) ≤ (t.length : Int) := by have := (unhide HK).2.1; omega
              have hkl : k ≤ t.length := (unhide HK).2.1
              clear own bel
              refine (refuint_lit (wr.drewN (m + nq)) k _ (by first | rfl | omega) (by omega)).mono ?_
              rintro e w3 ⟨v3, rfl, o3, b3⟩
              have hb3 := b2.size
              have own3 := own2.below b3
              have hu3 := Num.uv_length k
              obtain ⟨U3, hU3⟩ : ∃ U3, Num.uv k = U3 := ⟨_, rfl⟩
              rw [hU3] at o3 hu3
              have HU3 := hide hU3
              clear hU3
              obtain ⟨a3, c3, rfl⟩ := o3.shape _ rfl
              obtain ⟨_, h3n, h3s⟩ := o3.reads.src (Below.refl _ _)
              have b3' : Below w.heap.size w w3 := b2.trans (b3.mono hb3)
              have hsz3 := b3'.size
              clear o3 own2
              obtain ⟨P, hP⟩ : ∃ P, U ++ pcs ts i = P := ⟨_, rfl⟩
              have hPl : P.length ≤ 10 + 84 * i := by rw [← hP]; simp; omega
              rw [hP] at own3
              have HP := hide hP
              clear hP
              go_wp2_with (first
                | (at_builtin; refine wp_app rfl (.tmp 55) (.tmp 58) rfl w.heap.size _ P U3 rfl own3 a3 U3.length c3 rfl rfl h3n h3s (by omega) hsz3 ?_; intro v4 w4 o4 g4; have b4 := grown_below b3' hsz3 own3 g4; have hc4 := unhide HCK w4 b4))
              have hsz4 := b4.size
              clear own3 g4 h3s h3n
              have hdl : (t.drop k).length ≤ 64 := by simp; omega
              have hdl' : (t.drop k).length = t.length - k := List.length_drop
              go_wp2_with fail
              rw [str_drop]
              refine (reftext_any w4 ⟨(t.drop k).toArray⟩ (by rw [str_size]; omega)).mono ?_
              rintro e w5 ⟨v5, rfl, o5, b5⟩
              rw [str_size] at o5
              have own5 := o4.below b5
              have hu5 := Num.uv_length (t.drop k).length
              obtain ⟨T5, hT⟩ : ∃ T5, Num.uv (t.drop k).length ++ t.drop k = T5 := ⟨_, rfl⟩
              have o5 : Owns w5 w4.heap.size v5 T5 := by rw [← hT]; exact o5
              have hTl : T5.length ≤ 74 := by rw [← hT, List.length_append]; omega
              have HT := hide hT
              clear hT
              obtain ⟨a5, c5, rfl⟩ := o5.shape _ rfl
              obtain ⟨_, h5n, h5s⟩ := o5.reads.src (Below.refl _ _)
              have b5' : Below w.heap.size w w5 := b4.trans (b5.mono hsz4)
              have hsz5 := b5'.size
              clear o5 o4
              have hPl2 : (P ++ U3).length ≤ 20 + 84 * i := by simp; omega
              obtain ⟨Q, hQ⟩ : ∃ Q, P ++ U3 = Q := ⟨_, rfl⟩
              rw [hQ] at own5 hPl2
              have HQ := hide hQ
              clear hQ
              go_wp2_with (first
                | (at_builtin; refine wp_app rfl (.tmp 60) (.tmp 67) rfl w.heap.size _ Q T5 rfl own5 a5 T5.length c5 rfl rfl h5n h5s (by omega) hsz5 ?_; intro v6 w6 o6 g6))
              have b6 := grown_below b5' hsz5 own5 g6
              clear own5 g6 h5s h5n
              go_wp2_with fail
              go_roundw
              case rel =>
                refine ⟨i + 1, by go_num, hide (by omega), ?_, b6⟩
                have e : U ++ pcs ts (i + 1) = Q ++ T5 := by
                  rw [← unhide HQ, ← unhide HP, ← unhide HT, ← unhide HU3, unhide HPS, ← unhide HC, hdl']
                  simp [List.append_assoc]
                rw [e]
                exact o6
              case measure => simp [intOf]; omega
          · have hkt' : ¬ (k : Int) < (t.length : Int) := by omega
            go_wp2_with fail
            go_quiet (fail)
            go_wp2_with fail
            have hkc : k = cpl a t := cpl_eq a t k hK.1 hK.2.1 hK.2.2 (fun _ h => absurd h hkt)
            have HC := hide hkc
            clear hkc
            have b2 : Below w.heap.size w (wr.drewN (m + nq)) := below_dN bel _
            have own2 : Owns (wr.drewN (m + nq)) w.heap.size _ _ := own
            have hkt : (k : Int) ≤ (t.length : Int) := by have := (unhide HK).2.1; omega
            have hkl : k ≤ t.length := (unhide HK).2.1
            clear own bel
            refine (refuint_lit (wr.drewN (m + nq)) k _ (by first | rfl | omega) (by omega)).mono ?_
            rintro e w3 ⟨v3, rfl, o3, b3⟩
            have hb3 := b2.size
            have own3 := own2.below b3
            have hu3 := Num.uv_length k
            obtain ⟨U3, hU3⟩ : ∃ U3, Num.uv k = U3 := ⟨_, rfl⟩
            rw [hU3] at o3 hu3
            have HU3 := hide hU3
            clear hU3
            obtain ⟨a3, c3, rfl⟩ := o3.shape _ rfl
            obtain ⟨_, h3n, h3s⟩ := o3.reads.src (Below.refl _ _)
            have b3' : Below w.heap.size w w3 := b2.trans (b3.mono hb3)
            have hsz3 := b3'.size
            clear o3 own2
            obtain ⟨P, hP⟩ : ∃ P, U ++ pcs ts i = P := ⟨_, rfl⟩
            have hPl : P.length ≤ 10 + 84 * i := by rw [← hP]; simp; omega
            rw [hP] at own3
            have HP := hide hP
            clear hP
            go_wp2_with (first
              | (at_builtin; refine wp_app rfl (.tmp 55) (.tmp 58) rfl w.heap.size _ P U3 rfl own3 a3 U3.length c3 rfl rfl h3n h3s (by omega) hsz3 ?_; intro v4 w4 o4 g4; have b4 := grown_below b3' hsz3 own3 g4; have hc4 := unhide HCK w4 b4))
            have hsz4 := b4.size
            clear own3 g4 h3s h3n
            have hdl : (t.drop k).length ≤ 64 := by simp; omega
            have hdl' : (t.drop k).length = t.length - k := List.length_drop
            go_wp2_with fail
            rw [str_drop]
            refine (reftext_any w4 ⟨(t.drop k).toArray⟩ (by rw [str_size]; omega)).mono ?_
            rintro e w5 ⟨v5, rfl, o5, b5⟩
            rw [str_size] at o5
            have own5 := o4.below b5
            have hu5 := Num.uv_length (t.drop k).length
            obtain ⟨T5, hT⟩ : ∃ T5, Num.uv (t.drop k).length ++ t.drop k = T5 := ⟨_, rfl⟩
            have o5 : Owns w5 w4.heap.size v5 T5 := by rw [← hT]; exact o5
            have hTl : T5.length ≤ 74 := by rw [← hT, List.length_append]; omega
            have HT := hide hT
            clear hT
            obtain ⟨a5, c5, rfl⟩ := o5.shape _ rfl
            obtain ⟨_, h5n, h5s⟩ := o5.reads.src (Below.refl _ _)
            have b5' : Below w.heap.size w w5 := b4.trans (b5.mono hsz4)
            have hsz5 := b5'.size
            clear o5 o4
            have hPl2 : (P ++ U3).length ≤ 20 + 84 * i := by simp; omega
            obtain ⟨Q, hQ⟩ : ∃ Q, P ++ U3 = Q := ⟨_, rfl⟩
            rw [hQ] at own5 hPl2
            have HQ := hide hQ
            clear hQ
            go_wp2_with (first
              | (at_builtin; refine wp_app rfl (.tmp 60) (.tmp 67) rfl w.heap.size _ Q T5 rfl own5 a5 T5.length c5 rfl rfl h5n h5s (by omega) hsz5 ?_; intro v6 w6 o6 g6))
            have b6 := grown_below b5' hsz5 own5 g6
            clear own5 g6 h5s h5n
            go_wp2_with fail
            go_roundw
            case rel =>
              refine ⟨i + 1, by go_num, hide (by omega), ?_, b6⟩
              have e : U ++ pcs ts (i + 1) = Q ++ T5 := by
                rw [← unhide HQ, ← unhide HP, ← unhide HT, ← unhide HU3, unhide HPS, ← unhide HC, hdl']
                simp [List.append_assoc]
              rw [e]
              exact o6
            case measure => simp [intOf]; omega
        · have hi0' : ¬ (0 : Int) < (i : Int) := by omega
          have ha := unhide HPZ (by omega)
          go_wp2_with fail
          go_quiet (fail)
          go_wp2_with fail
          have hkc : k = cpl a t := cpl_eq a t k hK.1 hK.2.1 hK.2.2 (fun h _ => by rw [ha] at h; simp at h)
          have ha := hide ha
          have HC := hide hkc
          clear hkc
          have b2 : Below w.heap.size w (wr.drewN (m + nq)) := below_dN bel _
          have own2 : Owns (wr.drewN (m + nq)) w.heap.size _ _ := own
          have hkt : (k : Int) ≤ (t.length : Int) := by have := (unhide HK).2.1; omega
          have hkl : k ≤ t.length := (unhide HK).2.1
          clear own bel
          refine (refuint_lit (wr.drewN (m + nq)) k _ (by first | rfl | omega) (by omega)).mono ?_
          rintro e w3 ⟨v3, rfl, o3, b3⟩
          have hb3 := b2.size
          have own3 := own2.below b3
          have hu3 := Num.uv_length k
          obtain ⟨U3, hU3⟩ : ∃ U3, Num.uv k = U3 := ⟨_, rfl⟩
          rw [hU3] at o3 hu3
          have HU3 := hide hU3
          clear hU3
          obtain ⟨a3, c3, rfl⟩ := o3.shape _ rfl
          obtain ⟨_, h3n, h3s⟩ := o3.reads.src (Below.refl _ _)
          have b3' : Below w.heap.size w w3 := b2.trans (b3.mono hb3)
          have hsz3 := b3'.size
          clear o3 own2
          obtain ⟨P, hP⟩ : ∃ P, U ++ pcs ts i = P := ⟨_, rfl⟩
          have hPl : P.length ≤ 10 + 84 * i := by rw [← hP]; simp; omega
          rw [hP] at own3
          have HP := hide hP
          clear hP
          go_wp2_with (first
            | (at_builtin; refine wp_app rfl (.tmp 55) (.tmp 58) rfl w.heap.size _ P U3 rfl own3 a3 U3.length c3 rfl rfl h3n h3s (by omega) hsz3 ?_; intro v4 w4 o4 g4; have b4 := grown_below b3' hsz3 own3 g4; have hc4 := unhide HCK w4 b4))
          have hsz4 := b4.size
          clear own3 g4 h3s h3n
          have hdl : (t.drop k).length ≤ 64 := by simp; omega
          have hdl' : (t.drop k).length = t.length - k := List.length_drop
          go_wp2_with fail
          rw [str_drop]
          refine (reftext_any w4 ⟨(t.drop k).toArray⟩ (by rw [str_size]; omega)).mono ?_
          rintro e w5 ⟨v5, rfl, o5, b5⟩
          rw [str_size] at o5
          have own5 := o4.below b5
          have hu5 := Num.uv_length (t.drop k).length
          obtain ⟨T5, hT⟩ : ∃ T5, Num.uv (t.drop k).length ++ t.drop k = T5 := ⟨_, rfl⟩
          have o5 : Owns w5 w4.heap.size v5 T5 := by rw [← hT]; exact o5
          have hTl : T5.length ≤ 74 := by rw [← hT, List.length_append]; omega
          have HT := hide hT
          clear hT
          obtain ⟨a5, c5, rfl⟩ := o5.shape _ rfl
          obtain ⟨_, h5n, h5s⟩ := o5.reads.src (Below.refl _ _)
          have b5' : Below w.heap.size w w5 := b4.trans (b5.mono hsz4)
          have hsz5 := b5'.size
          clear o5 o4
          have hPl2 : (P ++ U3).length ≤ 20 + 84 * i := by simp; omega
          obtain ⟨Q, hQ⟩ : ∃ Q, P ++ U3 = Q := ⟨_, rfl⟩
          rw [hQ] at own5 hPl2
          have HQ := hide hQ
          clear hQ
          go_wp2_with (first
            | (at_builtin; refine wp_app rfl (.tmp 60) (.tmp 67) rfl w.heap.size _ Q T5 rfl own5 a5 T5.length c5 rfl rfl h5n h5s (by omega) hsz5 ?_; intro v6 w6 o6 g6))
          have b6 := grown_below b5' hsz5 own5 g6
          clear own5 g6 h5s h5n
          go_wp2_with fail
          go_roundw
          case rel =>
            refine ⟨i + 1, by go_num, hide (by omega), ?_, b6⟩
            have e : U ++ pcs ts (i + 1) = Q ++ T5 := by
              rw [← unhide HQ, ← unhide HP, ← unhide HT, ← unhide HU3, unhide HPS, ← unhide HC, hdl']
              simp [List.append_assoc]
            rw [e]
            exact o6
          case measure => simp [intOf]; omega
    · have hlt' : ¬ (i : Int) < (n : Int) := by omega
      have e : i = n := by omega
      subst e
      go_wp2
      go_ret
      rw [unhide HU]
      exact ⟨_, rfl, own, bel⟩
end Go.Proofs.Ytfhldldcfdimhaa
