/- The reference's disk: Append. -/
import Derived.Test.YthegdhbmfojdaaaRfa
namespace Go.Proofs.Ythegdhbmfojdaaa
open Go.RowKit Go.Maps Go.Sort
set_option linter.unusedVariables false

/-- Where the file to which is appended lies. -/
structure Ap0 (w0 w : World) (r N : Nat) (F : Nat → Prop) (s : RSt) (t : Str) (i g cap : Nat) (Z : List RE) : Prop where
  z : ∃ G : Nat → Prop, RZ w r G N s (.slice (some ⟨g, 0, none⟩) Z.length cap) Z ∧ (∀ j, G j → F j ∨ w0.heap.size ≤ j)
  i : ∃ hi : i < Z.length, Z[i].nm = t
  fr : Fr F w0 w
theorem fI_len {s : RSt} {t : Str} (h : hasF s.fs t = true) : 0 ≤ fI s.fs t := by
  obtain ⟨i, _, e, _⟩ := fI_has h
  rw [e]
  omega
theorem ap_ne {w : World} {r N g m cap i : Nat} {F : Nat → Prop} {s : RSt} {Z : List RE} {e : RE} (h : RZ w r F N s (.slice (some ⟨g, 0, none⟩) m cap) Z) (hi : i < Z.length) (he : ∀ h : i < Z.length, e = Z[i]'h) : e.v.ownBlock ≠ some g := fun q => by
  rw [he hi] at q
  exact h.lob (h.e _ (List.getElem_mem hi)).1 g q rfl
theorem ap_cell {w w9 : World} {r N g m cap i o : Nat} {F : Nat → Prop} {s : RSt} {Z : List RE} {e : RE} {u : Value} (h : RZ w r F N s (.slice (some ⟨g, 0, none⟩) m cap) Z) (hi : i < Z.length) (he : ∀ h : i < Z.length, e = Z[i]'h) (hg : w.drew.grownBy w9 e.v.ownBlock) (hx : w.cell? ⟨g, o, none⟩ = some u) : w9.cell? ⟨g, o, none⟩ = some u := by
  have hb := hg.block g (World.block_lt_of_cell? _ _ hx) fun q => ap_ne h hi he q.symm
  have hb2 : w9.heap[g]? = w.heap[g]? := hb
  rw [← hx]
  unfold World.cell?
  rw [hb2]
theorem ap_box {w w9 : World} {r N g m cap i o : Nat} {F : Nat → Prop} {s : RSt} {Z : List RE} {e : RE} {u : Value} (h : RZ w r F N s (.slice (some ⟨g, 0, none⟩) m cap) Z) (hi : i < Z.length) (he : ∀ h : i < Z.length, e = Z[i]'h) (hg : w.drew.grownBy w9 e.v.ownBlock) (hx : w.cell? ⟨r, o, none⟩ = some u) : w9.cell? ⟨r, o, none⟩ = some u := by
  have hb := hg.block r (World.block_lt_of_cell? _ _ hx) fun q => by
    rw [he hi] at q
    exact h.xr (h.e _ (List.getElem_mem hi)).1 q.symm
  have hb2 : w9.heap[r]? = w.heap[r]? := hb
  rw [← hx]
  unfold World.cell?
  rw [hb2]
theorem ap_froz {w w9 : World} {r N g m cap i o : Nat} {F : Nat → Prop} {s : RSt} {Z : List RE} {e : RE} {u : Value} (h : RZ w r F N s (.slice (some ⟨g, 0, none⟩) m cap) Z) (hi : i < Z.length) (he : ∀ h : i < Z.length, e = Z[i]'h) (hg : w.drew.grownBy w9 e.v.ownBlock) (hx : w.cell? ⟨g, o, none⟩ = some u) (hf : w.frozen? ⟨g, o, none⟩ = false) : w9.frozen? ⟨g, o, none⟩ = false := by
  have hb := hg.block g (World.block_lt_of_cell? _ _ hx) fun q => ap_ne h hi he q.symm
  have hb2 : w9.heap[g]? = w.heap[g]? := hb
  rw [← hf]
  unfold World.frozen?
  rw [hb2]
set_option maxRecDepth 100000 in
set_option maxHeartbeats 1600000 in
theorem refappend_any (w : World) (r N : Nat) (F : Nat → Prop) (s : RSt) (t : Str) (u : Value) (b : Str) (h : Rd w r F N s) (ht : t.length ≤ maxLen) (hr : ∀ w', Fr F w w' → Reads w' u b) (hl : N + b.length ≤ 140737488355328) (hop : s.n < 1000000) (hp : s.part ≤ 9223372036854775807) (hS : Srt s.fs) :
    Calls Try.prog 37 #[.pointer (some ⟨r, 0, none⟩), .string ⟨t.toArray⟩, u] w fun e w' => e = .returned (.int .i64 ((rapp s t b).1 : Nat)) ∧ Rm w w' r F (N + b.length) (rapp s t b).2 := by
  have mixed : Try.prog.follows .mixedOrders = true := by kernel_rfl
  obtain ⟨i0, hi0, hz0, hz1, hz2⟩ := info_parts Try.info5
  have kA := refname_any w t ht
  have kF := reffind_any w r N F s t h
  have HR : Hid (∀ w', Fr F w w' → Reads w' u b) := hr
  have HS : Hid (Srt s.fs) := hS
  have HH : Hid (Rd w r F N s) := h
  have HSame : Hid (Rm w w r F (N + b.length) s) := by
    apply hide
    obtain ⟨Lv, Z, hz⟩ := h
    exact Rm.same ⟨Lv, Z, hz.more (Nat.le_add_right _ _)⟩ (Fr.refl _ _)
  obtain ⟨ua, uc, rfl⟩ : ∃ a c, u = .slice a b.length c := by obtain ⟨a, c, e, _⟩ := hr w (Fr.refl _ _); exact ⟨_, _, e⟩
  obtain ⟨Lv, Z, hz⟩ := h
  obtain ⟨la, lc, rfl, hc1, hc2, -⟩ := hz.cells
  have c0 : w.cell? ⟨r, 0, none⟩ = some (.slice la Z.length lc) := BxA.cell hz.b 0 _ rfl
  have c1 : w.cell? ⟨r, 1, none⟩ = some (.bool s.off) := BxA.cell hz.b 1 _ rfl
  have HZ : Hid (RZ w r F N s (.slice la Z.length lc) Z) := hz
  have HZL : Hid (Z.length = s.fs.length) := by apply hide; rw [← hz.fs, List.length_map]
  obtain ⟨n, hn⟩ : ∃ n, n = Z.length := ⟨_, rfl⟩
  rw [← hn] at c0 hc1
  have HN : Hid (n = Z.length) := hn
  unfold maxLen at hc2
  clear hr hS hn hz
  cases ho : s.off with
  | true =>
    rw [ho] at c1
    have HE : Hid (rapp s t b = (122, s)) := by apply hide; unfold rapp; rw [ho]; rfl
    go_enter Try.func37, Try.ntmps37
    go_wp2_with fail
    go_ret
    rw [HE.out]
    exact ⟨rfl, HSame.out⟩
  | false =>
    rw [ho] at c1
    cases hm : isNm t with
    | false =>
      rw [hm] at kA
      have HE : Hid (rapp s t b = (1, s)) := by apply hide; unfold rapp; rw [ho, hm]; rfl
      go_enter Try.func37, Try.ntmps37
      go_wp2_with fail
      refine kA.mono ?_
      rintro e wq ⟨rfl, rfl⟩
      clear kA
      go_wp2_with fail
      refine kF.mono ?_
      rintro e wq ⟨rfl, rfl⟩
      clear kF
      go_wp2_with fail
      go_ret
      rw [HE.out]
      exact ⟨rfl, HSame.out⟩
    | true =>
      rw [hm] at kA
      by_cases hx : hasF s.fs t = false ∧ 1000 ≤ s.fs.length
      · have HE : Hid (rapp s t b = (1, s)) := by apply hide; unfold rapp; rw [ho, hm, if_pos hx]; rfl
        rw [fI_none hx.1] at kF
        have hnz : (1000 : Int) ≤ (n : Int) := by have := hx.2; have := HZL.out; have := HN.out; omega
        clear hx
        go_enter Try.func37, Try.ntmps37
        go_wp2_with fail
        refine kA.mono ?_
        rintro e wq ⟨rfl, rfl⟩
        clear kA
        go_wp2_with fail
        refine kF.mono ?_
        rintro e wq ⟨rfl, rfl⟩
        clear kF
        go_wp2_with fail
        go_ret
        rw [HE.out]
        exact ⟨rfl, HSame.out⟩
      · have HE : Hid (rapp s t b = (if (rcnt { s with fs := srtF (addF (opnF s.fs t) t b) }).1 then 122 else 0, (rcnt { s with fs := srtF (addF (opnF s.fs t) t b) }).2)) := by apply hide; unfold rapp; rw [ho, hm, if_neg hx]; rfl
        have HX : Hid (¬ (hasF s.fs t = false ∧ 1000 ≤ s.fs.length)) := hx
        obtain ⟨z, hzz⟩ : ∃ z, z = fI s.fs t := ⟨_, rfl⟩
        rw [← hzz] at kF
        have HZZ : Hid (z = fI s.fs t) := hzz
        have hgu : 0 ≤ z ∨ (z = -1 ∧ (n : Int) < 1000) := by
          cases hh : hasF s.fs t with
          | true => left; rw [hzz]; exact fI_len hh
          | false =>
            right
            rw [hzz]
            refine ⟨fI_none hh, ?_⟩
            have : ¬ 1000 ≤ s.fs.length := fun q => hx ⟨hh, q⟩
            have := HZL.out
            have := HN.out
            omega
        clear hx hzz
        go_enter Try.func37, Try.ntmps37
        go_wp2_with fail
        refine kA.mono ?_
        rintro e wq ⟨rfl, rfl⟩
        clear kA
        go_wp2_with fail
        refine kF.mono ?_
        rintro e wq ⟨rfl, rfl⟩
        clear kF
        go_upto_region 5 with fail
        go_cut [32] (fun v32 wA => v32 = .bool false ∧ wA = wq)
        case first =>
          rcases hgu with h5 | ⟨rfl, h5⟩
          · have h5n : ¬ z < 0 := by omega
            go_wp2_with fail
            go_meet
            case rel => exact ⟨rfl, rfl⟩
          · have h5n : ¬ (1000 : Int) ≤ (n : Int) := by omega
            go_wp2_with fail
            go_meet
            case rel => exact ⟨rfl, rfl⟩
        case rest =>
          obtain ⟨rfl, rfl⟩ := hcut
          rename World => w4
          go_upto_if 34 with fail
          go_cut [8] (fun v8 wA => ∃ (i g cap : Nat) (Z1 : List RE), v8 = .int .i64 (i : Int) ∧ Hid (Ap0 w4 wA r N F { s with fs := srtF (opnF s.fs t) } t i g cap Z1))
          case first =>
            cases hh : hasF s.fs t with
            | true =>
              obtain ⟨i, hi, e1, e2, -, -⟩ := HZ.out.find hh
              rw [e1] at HZZ
              have hzz := HZZ.out
              subst hzz
              have HA : Hid (∃ (g cap : Nat) (Z1 : List RE), Ap0 w4 w4 r N F { s with fs := srtF (opnF s.fs t) } t i g cap Z1) := by
                apply hide
                rw [← opn_same HS.out hh]
                obtain ⟨a', c', hLe, -, -, hcs⟩ := HZ.out.cells
                obtain ⟨g, rfl, -⟩ := hcs (by omega)
                have hz := HZ.out
                rw [hLe] at hz
                exact ⟨g, c', Z, ⟨F, hz, fun _ h => .inl h⟩, ⟨hi, e2⟩, Fr.refl _ _⟩
              have hiz : ¬ (i : Int) < 0 := by omega
              clear e1 e2 hh hgu
              go_wp2_with fail
              go_meet
              case rel =>
                obtain ⟨g, cap, Z1, hA⟩ := HA.out
                exact ⟨i, g, cap, Z1, rfl, hA⟩
            | false =>
              rw [fI_none hh] at HZZ
              have hzz := HZZ.out
              subst hzz
              have hfew : Z.length < 1000 := by
                have : ¬ 1000 ≤ s.fs.length := fun q => HX.out ⟨hh, q⟩
                have := HZL.out
                omega
              have kP := refput_any w4 r N F s (.slice la Z.length lc) Z ⟨t, .slice none 0 0, [], 0⟩ HZ.out ⟨rfl, .inl ⟨rfl, rfl⟩⟩ (Nat.zero_le _) (Nat.zero_le _) (fun y hy c hc q => by cases q) hfew
              have HHH : Hid (hasF s.fs t = false) := hh
              clear hh hgu hfew
              go_wp2_with fail
              refine kP.mono ?_
              rintro e w9 ⟨rfl, Lv9, A, B, p1, p2, p3, p4, p5, p6⟩
              have e9 : (A ++ ⟨t, .slice none 0 0, [], 0⟩ :: B).map RE.fl = srtF (opnF s.fs t) := by
                rw [List.map_append, List.map_cons]
                exact put_opn HS.out HHH.out (A := A.map RE.fl) (B := B.map RE.fl) (by rw [← HZ.out.fs, p1, List.map_append]) (fun q hq => by
                  obtain ⟨y, hy, rfl⟩ := List.mem_map.1 hq
                  exact p2 y hy) (getLast_map p3)
              rw [e9] at p4
              have hh9 : hasF (srtF (opnF s.fs t)) t = true := by
                rw [← e9]
                unfold hasF
                rw [List.any_eq_true]
                exact ⟨⟨t, [], 0⟩, by simp [RE.fl], by simp⟩
              have kF := reffind_any w9 r N _ { s with fs := srtF (opnF s.fs t) } t ⟨_, _, p4⟩
              obtain ⟨i, hi, f1, f2, -, -⟩ := p4.find hh9
              rw [f1] at kF
              have HA : Hid (∃ (g cap : Nat) (Z1 : List RE), Ap0 w4 w9 r N F { s with fs := srtF (opnF s.fs t) } t i g cap Z1) := by
                apply hide
                obtain ⟨a', c', hLe, -, -, hcs⟩ := p4.cells
                obtain ⟨g, rfl, -⟩ := hcs (by omega)
                rw [hLe] at p4 p5
                refine ⟨g, c', _, ⟨_, p4, fun j hj => ?_⟩, ⟨hi, f2⟩, p6⟩
                rcases hj with (hj | hj) | hj
                · exact .inl hj
                · cases hj
                · exact p5 j hj
              clear kP p1 p2 p3 p4 p5 p6 e9 hh9 f1 f2 hi
              go_wp2_with fail
              refine kF.mono ?_
              rintro e wz ⟨rfl, rfl⟩
              clear kF
              go_wp2_with fail
              go_meet
              case rel =>
                obtain ⟨g, cap, Z1, hA⟩ := HA.out
                exact ⟨i, g, cap, Z1, rfl, hA⟩
          case rest =>
            rename World => w5
            obtain ⟨i, g, cap, Z1, rfl, HA⟩ := hcut
            obtain ⟨G, hz, hG1⟩ := HA.out.z
            obtain ⟨hi, hin⟩ := HA.out.i
            obtain ⟨a', c', hLe, hd1, hd2, hcs⟩ := hz.cells
            simp only [Value.slice.injEq, true_and] at hLe
            obtain ⟨rfl, rfl⟩ := hLe
            have b0 : w5.cell? ⟨r, 0, none⟩ = some (.slice (some ⟨g, 0, none⟩) Z1.length cap) := BxA.cell hz.b 0 _ rfl
            obtain ⟨g', hge, hx⟩ := hcs (by omega)
            simp only [Option.some.injEq, Addr.mk.injEq, and_true] at hge
            subst hge
            obtain ⟨-, x1, -, xf⟩ := hx i hi
            have xf1 := xf 1
            have q1 := (hz.e _ (List.getElem_mem hi)).1
            have q4 := hz.nb _ (List.getElem_mem hi)
            have HZ1 : Hid (RZ w5 r G N { s with fs := srtF (opnF s.fs t) } (.slice (some ⟨g, 0, none⟩) Z1.length cap) Z1) := hz
            have HG1 : Hid (∀ j, G j → F j ∨ w4.heap.size ≤ j) := hG1
            have HI : Hid (i < Z1.length) := hi
            obtain ⟨e, he⟩ : ∃ e, e = Z1[i]'hi := ⟨_, rfl⟩
            rw [← he] at x1 q1 q4 hin
            have HEZ : Hid (∀ h : i < Z1.length, e = Z1[i]'h) := fun _ => he
            obtain ⟨enm, ev, ebs, esy⟩ := e
            simp only at x1 q1 q4 hin
            obtain ⟨va, vc, rfl⟩ : ∃ a c, ev = .slice a ebs.length c := by obtain ⟨a, c, e, _⟩ := q1.reads; exact ⟨_, _, e⟩
            obtain ⟨m, hm1⟩ : ∃ n, n = Z1.length := ⟨_, rfl⟩
            have HM : Hid (m = Z1.length) := hm1
            have hfew := hz.few
            rw [← hm1] at b0 hd1 hi hfew
            have hiz : (i : Int) < (m : Int) := by omega
            have hi0z : (0 : Int) ≤ (i : Int) := by omega
            have HEN : Hid (enm = t) := hin
            have HRU : Hid (RdsK 1 w5.drew (.slice ua b.length uc) b.length (bv b)) := by
              apply hide
              have := HR.out w5.drew (HA.out.fr.trans (Fr.of_below ((RowKit.Below.refl _ _).drew)) fun _ _ h => h)
              exact this.k
            have HOE : Hid (w5.drew.ownsRow 0 5 1 (.slice va ebs.length vc) ebs.length (bv ebs)) := q1
            have HQ : Hid (ebs.length + b.length ≤ maxLen ∧ ((ebs.length + b.length) + (ebs.length + b.length) / 4 + 192) * 1 ≤ 281474976710656) := by apply hide; unfold maxLen; omega
            have HLE : Hid (ebs.length ≤ N) := q4
            unfold maxLen at hd2
            clear hz hG1 hcs hx he hm1 q1 xf hin c0 c1 hc1 hc2 hgu
            go_upto_region 10 with fail
            go_cut [] (fun wA => Hid (Rm w4 wA r F (N + b.length) { s with fs := srtF (addF (opnF s.fs t) t b) }))
            case first =>
              go_region_law (refine step_appN rfl (.tmp 54) (.tmp 55) 33 rfl 0 5 i0 (.int .u8 0) 1 1 Try.underlying33 hi0 hz0 hz1 hz2 rfl (by decide) (.slice va ebs.length vc) ebs.length (bv ebs) rfl HOE.out (.slice ua b.length uc) b.length (bv b) rfl HRU.out (bv_one _) HQ.out.1 HQ.out.2 (Nat.zero_le _) ?_; intro v9 w9 o9 g9 p9; have HO9 : Hid (Owns w9 0 v9 (ebs ++ b)) := app_owns o9; have HG9 : Hid (w5.drew.grownBy w9 (Value.ownBlock (.slice va ebs.length vc))) := g9; have HP9 : Hid (v9.ownBlock = Value.ownBlock (.slice va ebs.length vc) ∨ ∃ g, v9.ownBlock = some g ∧ w5.drew.heap.size ≤ g) := p9; have k0 : w9.cell? ⟨r, 0, none⟩ = some (.slice (some ⟨g, 0, none⟩) m cap) := (ap_box HZ1.out HI.out HEZ.out g9 b0); have k1 : w9.cell? ⟨g, i * 3 + 1, none⟩ = some (.slice va ebs.length vc) := (ap_cell HZ1.out HI.out HEZ.out g9 x1); have kf1 : w9.frozen? ⟨g, i * 3 + 1, none⟩ = false := (ap_froz HZ1.out HI.out HEZ.out g9 x1 xf1); obtain ⟨a9, c9, hx9⟩ := own_sl o9; subst hx9; clear o9 g9 p9)
              all_goals
                go_wp2_with fail
                go_meet
                case rel =>
                  have hzD : RZ w5.drew r G N { s with fs := srtF (opnF s.fs t) } (.slice (some ⟨g, 0, none⟩) Z1.length cap) Z1 := HZ1.out.frame (Nat.le_refl _) fun j hj => rfl
                  have hE := HEZ.out HI.out
                  have hf := hzD.grow (M := N + b.length) i HI.out (.slice a9 (ebs.length + b.length) c9) (ebs ++ b) (by rw [← hE]; exact HG9.out) HO9.out (by rw [← hE]; exact HP9.out) (by have := (HZ1.out.e _ (List.getElem_mem HI.out)).2.2; rw [← hE] at this ⊢; rw [List.length_append]; exact Nat.le_trans this (Nat.le_add_right _ _)) (by rw [List.length_append]; have := HLE.out; omega) (Nat.le_add_right _ _)
                  rw [← hE] at hf
                  have hfi : (srtF (opnF s.fs t))[i]? = some ⟨enm, ebs, esy⟩ := by
                    have := HZ1.out.fs
                    have h2 : (Z1.map RE.fl)[i]? = (srtF (opnF s.fs t))[i]? := by rw [this]
                    rw [← h2, List.getElem?_map, List.getElem?_eq_getElem HI.out, ← hE]
                    rfl
                  have hset := add_srt (b := b) HS.out.nd hfi HEN.out
                  have hfs : ({ s with fs := (srtF (opnF s.fs t)).set i ⟨enm, ebs ++ b, esy⟩ } : RSt) = { s with fs := srtF (addF (opnF s.fs t) t b) } := by
                    have e : (⟨enm, ebs ++ b, esy⟩ : Fl) = ⟨(⟨enm, ebs, esy⟩ : Fl).nm, (⟨enm, ebs, esy⟩ : Fl).bs ++ b, (⟨enm, ebs, esy⟩ : Fl).sy⟩ := rfl
                    rw [e, hset]
                  have hq : RZ _ r _ (N + b.length) ({ s with fs := (srtF (opnF s.fs t)).set i ⟨enm, ebs ++ b, esy⟩ } : RSt) _ _ := hf
                  rw [hfs] at hq
                  have hFg : F g ∨ w4.heap.size ≤ g := HG1.out g (HZ1.out.fl g rfl)
                  have hs5 := HA.out.fr.size
                  have hev : ∀ j, Value.ownBlock (.slice va ebs.length vc) = some j → F j ∨ w4.heap.size ≤ j := fun j hj => HG1.out j ((HZ1.out.e _ (List.getElem_mem HI.out)).2.1 j (by rw [← hE]; exact hj))
                  apply hide
                  refine ⟨⟨_, ⟨_, _, hq⟩, fun j hj => ?_⟩, ?_⟩
                  · rcases hj with hj | hj
                    · exact HG1.out j hj
                    · rcases HP9.out with q | ⟨g2, q, hg2⟩
                      · rw [q] at hj
                        exact hev j hj
                      · rw [q] at hj
                        injection hj with hj
                        subst hj
                        right
                        exact Nat.le_trans hs5 hg2
                  · refine ((HA.out.fr.trans (Fr.of_below (F := F) ((RowKit.Below.refl _ _).drew)) fun _ _ h => h).trans (Fr.of_grown (F := fun j => F j ∨ w4.heap.size ≤ j) HG9.out fun j hj => .inl (hev j hj)) fun j hj h => ?_).trans (Fr.of_grown (F := fun j => F j ∨ w4.heap.size ≤ j) grown_setCell fun j hj => .inl (by cases hj; exact hFg)) fun j hj h => ?_
                    · rcases h with h | h
                      · exact h
                      · omega
                    · rcases h with h | h
                      · exact h
                      · omega
            case rest =>
              rename World => w6
              have kC := fun (F6 : Nat → Prop) h6 => refcounts_any w6 r (N + b.length) F6 { s with fs := srtF (addF (opnF s.fs t) t b) } h6 hl hop hp
              obtain ⟨⟨F6, d6, hF6⟩, f6⟩ := hcut.out
              have kC := kC F6 d6
              have H6 : Hid ((∀ j, F6 j → F j ∨ w4.heap.size ≤ j) ∧ Fr F w4 w6) := ⟨hF6, f6⟩
              have HEE := HE
              obtain ⟨cu, hcu⟩ : ∃ c, c = (rcnt { s with fs := srtF (addF (opnF s.fs t) t b) }).1 := ⟨_, rfl⟩
              rw [← hcu] at kC HEE
              clear hcut d6 hF6 f6 hcu
              go_wp2_with fail
              refine kC.mono ?_
              rintro e w7 ⟨rfl, ⟨F7, d7, hF7⟩, f7⟩
              have HM7 : Hid (Rm w4 w7 r F (N + b.length) (rcnt { s with fs := srtF (addF (opnF s.fs t) t b) }).2) := by
                apply hide
                have hs := H6.out.2.size
                refine ⟨⟨F7, d7, fun j hj => ?_⟩, H6.out.2.trans f7 fun j hj q => ?_⟩
                · rcases hF7 j hj with q | q
                  · exact H6.out.1 j q
                  · right; omega
                · rcases H6.out.1 j q with q | q
                  · exact q
                  · omega
              clear kC d7 hF7 f7
              cases cu
              · go_wp2_with fail
                go_ret
                rw [HEE.out]
                exact ⟨rfl, HM7.out⟩
              · go_wp2_with fail
                go_ret
                rw [HEE.out]
                exact ⟨rfl, HM7.out⟩
end Go.Proofs.Ythegdhbmfojdaaa
