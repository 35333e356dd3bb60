/- Contracts: what is refused. -/
import Derived.Test.YtdcoeebpknipdaaFn2
namespace Go.Proofs.Ytdcoeebpknipdaa
open Go.RowKit Go.Maps

theorem all_no {ns : List Str} {i : Nat} (hi : i < ns.length) (h : isNm (ns.getD i []) = false) : ns.all isNm = false := by
  rw [List.all_eq_false]
  refine ⟨ns[i], List.getElem_mem hi, ?_⟩
  rw [show ns[i] = ns.getD i [] by simp [hi], h]
  simp
theorem all_yes {ns : List Str} (h : ∀ i, i < ns.length → isNm (ns.getD i []) = true) : ns.all isNm = true := by
  rw [List.all_eq_true]
  intro c hc
  obtain ⟨i, hi, rfl⟩ := List.getElem_of_mem hc
  have := h i hi
  rwa [show ns.getD i [] = ns[i] by simp [hi]] at this
set_option maxHeartbeats 800000 in
theorem refuses_any (w : World) (d N : Nat) (F : Nat → Prop) (s : St) (v : Value) (ns : List Str) (h : Dk w d F N s) (hv : Rds w v (sv ns)) (hl : ∀ t ∈ ns, t.length ≤ maxLen) :
    Calls Try.prog 46 #[.pointer (some ⟨d, 0, none⟩), v] w fun e w' => e = .returned (.int .i64 (rfC s ns : Nat)) ∧ Below w.heap.size w w' := by
  obtain ⟨mo, Z, hz⟩ := h
  have c2 := hz.b.cell 2 _ rfl
  have HR : Hid (Rds w v (sv ns)) := hv
  obtain ⟨ao, n, cap, rfl⟩ : ∃ ao n cap, v = .slice ao n cap := by obtain ⟨ao, cap, rfl, _⟩ := hv; exact ⟨_, _, _, rfl⟩
  obtain ⟨rfl, h1, h2, h3⟩ := hv.cells
  simp only [sv_length] at *
  have HL : Hid _ := hl
  obtain ⟨mo, ho⟩ : ∃ o, o = s.off := ⟨_, rfl⟩
  rw [← ho] at c2
  have HO : Hid (mo = s.off) := ho
  clear hz hv ho hl
  cases mo
  case true =>
    go_enter Try.func46, Try.ntmps46
    go_wp2_with fail
    go_ret
    exact ⟨by unfold rfC; rw [← HO.out]; rfl, Below.refl _ _⟩
  case false =>
    have HC : Hid (rfC s ns = if ns.all isNm then 0 else 1) := by apply hide; unfold rfC; rw [← HO.out]; simp
    have hnz : ns.length ≤ 2 ^ 63 - 1 := Nat.le_trans h1 (by unfold maxLen at h2; exact h2)
    go_enter Try.func46, Try.ntmps46
    go_wp2_with fail
    go_loopg [15] ns.length (fun kx v15 wr => ∃ i : Nat, v15 = .int .i64 (i : Int) ∧ i ≤ ns.length ∧ ns.length - i ≤ kx ∧ Hid (Below w.heap.size w wr) ∧ Hid (∀ j, j < i → isNm (ns.getD j []) = true))
    case atStart => exact ⟨0, rfl, by omega, Nat.le_refl _, Below.refl _ _, fun j hj => by omega⟩
    case round =>
      obtain ⟨i, rfl, hi, hkx, HB, HA⟩ := hrel
      by_cases hlt : i < ns.length
      · have hltz : (i : Int) < (ns.length : Int) := by omega
        obtain ⟨b, off, rfl, hc⟩ := h3 (by omega)
        have hci : wr.cell? ⟨b, off + i, none⟩ = some (.string ⟨(ns.getD i []).toArray⟩) := by
          have := hc i _ (sv_get ns i hlt)
          rw [HB.out.cell (World.block_lt_of_cell? _ _ this)]
          exact this
        have kN := isName_any wr (ns.getD i []) (HL.out _ (by rw [show ns.getD i [] = ns[i] by simp [hlt]]; exact List.getElem_mem hlt))
        obtain ⟨t, ht⟩ : ∃ t, t = ns.getD i [] := ⟨_, rfl⟩
        rw [← ht] at hci kN
        have HT : Hid (t = ns.getD i []) := ht
        clear hc ht
        go_wp2_with fail
        refine kN.mono ?_
        rintro e w1 ⟨rfl, b1⟩
        have HB1 : Hid (Below w.heap.size w w1) := HB.out.trans (b1.mono HB.out.size)
        obtain ⟨q, hq⟩ : ∃ q, q = isNm t := ⟨_, rfl⟩
        rw [← hq]
        have HQ : Hid (q = isNm t) := hq
        clear b1 kN hci hq
        cases q
        case false =>
          go_wp2_with fail
          go_ret
          exact ⟨by rw [HC.out, all_no hlt (by rw [← HT.out, ← HQ.out])]; rfl, HB1.out⟩
        case true =>
          go_wp2_with fail
          go_roundg (ns.length - (i + 1))
          case measure => omega
          case rel =>
            refine ⟨i + 1, by go_num, by omega, Nat.le_refl _, HB1, fun j hj => ?_⟩
            by_cases hji : j = i
            · subst hji; rw [← HT.out, ← HQ.out]
            · exact HA.out j (by omega)
      · have hltz : ¬ (i : Int) < (ns.length : Int) := by omega
        obtain rfl : i = ns.length := by omega
        go_wp2_with fail
        go_ret
        exact ⟨by rw [HC.out, all_yes HA.out]; rfl, HB.out⟩
theorem own_rds {base : Nat} {w : World} {v : Value} {ns : List Str} (h : w.ownsRow base 9 1 v ns.length (sv ns)) : Rds w v (sv ns) := by
  have : Own w base 9 v (sv ns) := by unfold Own; rw [sv_length]; exact h
  exact this.rds
set_option maxHeartbeats 800000 in
theorem refusesFile_any (w : World) (d N base : Nat) (F : Nat → Prop) (s : St) (t : Str) (v : Value) (ns : List Str) (h : Dk w d F N s) (hv : w.ownsRow base 9 1 v ns.length (sv ns)) (hb : base ≤ w.heap.size) (hF : ∀ r, v.ownBlock = some r → ¬ F r) (hn : ns.length ≤ 10) (hl : ∀ t ∈ ns, t.length ≤ maxLen) (ht : t.length ≤ maxLen) :
    Calls Try.prog 44 #[.pointer (some ⟨d, 0, none⟩), .string ⟨t.toArray⟩, v] w fun e w' => e = .returned (.int .i64 (rfF s t ns : Nat)) ∧ w.grownBy w' v.ownBlock := by
  obtain ⟨i0, hi0, hz0, hz1, hz2⟩ := info_parts Try.info_str
  have HV : Hid _ := hv
  have HD : Hid _ := h
  have HFF : Hid _ := hF
  have HL : Hid (∀ x ∈ ns ++ [t], x.length ≤ maxLen) := fun x hx => by
    rcases List.mem_append.1 hx with hx | hx
    · exact hl x hx
    · simp at hx; subst hx; exact ht
  have lo := lit_own w [.string ⟨t.toArray⟩] 9 (by simp [maxLen])
  have HLO : Hid (RdsK 1 (w.alloc (.cells #[.string ⟨t.toArray⟩] 9)) (.slice (some ⟨w.heap.size, 0, none⟩) 1 1) 1 [.string ⟨t.toArray⟩]) := RdsK.of_own lo
  have HVO : Hid ((w.alloc (.cells #[.string ⟨t.toArray⟩] 9)).ownsRow base 9 1 v ns.length (sv ns)) := World.ownsRow.alloc hv _
  have HHT : Hid _ := ht
  clear h hv hF lo hl ht
  go_enter Try.func44, Try.ntmps44
  go_wp2_with (first | (at_builtin; refine wpList_appF rfl _ _ 38 rfl base 9 i0 (.string ⟨#[]⟩) 1 16 Try.underlying38 hi0 hz0 hz1 hz2 rfl (by decide) v ns.length (sv ns) rfl HVO.out (.slice (some ⟨w.heap.size, 0, none⟩) 1 1) 1 [.string ⟨t.toArray⟩] rfl HLO.out (fun u hu => by simp at hu; subst hu; rfl) (by unfold maxLen; omega) (by omega) (Nat.le_trans hb (by simp)) ?_; intro v1 w1 o1 g1 _; have HO1 : Hid (w1.ownsRow base 9 1 v1 (ns.length + 1) (sv ns ++ [.string ⟨t.toArray⟩])) := o1; have HG1 : Hid (w.grownBy w1 v.ownBlock) := grown_trans (grown_alloc _ _ _) g1; clear o1 g1))
  have hd1 : Dk w1 d F N s := by
    obtain ⟨mo, Z, hz⟩ := HD.out
    exact ⟨mo, Z, hz.frame HG1.out.size fun i hi => HG1.out.block i (hz.lt i hi) fun e => HFF.out i e.symm hi⟩
  have hr1 : Rds w1 v1 (sv (ns ++ [t])) := own_rds (base := base) (by have := HO1.out; rw [sv_append, List.length_append]; exact this)
  have kR := refuses_any w1 d N F s v1 (ns ++ [t]) hd1 hr1 HL.out
  have HD1 : Hid _ := hd1
  obtain ⟨va, vc, rfl⟩ := own_sl HO1.out
  clear hd1 hr1
  go_wp2_with fail
  refine kR.mono ?_
  rintro e w2 ⟨rfl, b2⟩
  have HG2 : Hid (w.grownBy w2 v.ownBlock) := grown_trans HG1.out ⟨b2.os, b2.tape, b2.output, b2.size, fun i hi _ => b2.block i hi⟩
  have kH := has_any w2 d N F s t (HD1.out.below b2) HHT.out
  obtain ⟨c, hc⟩ : ∃ c, c = rfC s (ns ++ [t]) := ⟨_, rfl⟩
  rw [← hc]
  have HC : Hid (c = rfC s (ns ++ [t])) := hc
  clear b2 kR hc
  by_cases h0 : c = 0
  · subst h0
    go_wp2_with fail
    refine kH.mono ?_
    rintro e w3 ⟨rfl, rfl⟩
    obtain ⟨q, hq⟩ : ∃ q, q = hasF s.fs t := ⟨_, rfl⟩
    rw [← hq]
    have HQ : Hid (q = hasF s.fs t) := hq
    clear kH hq
    cases q
    case false =>
      go_wp2_with fail
      go_ret
      exact ⟨by unfold rfF; rw [← HC.out, ← HQ.out]; rfl, HG2.out⟩
    case true =>
      go_wp2_with fail
      go_ret
      exact ⟨by unfold rfF; rw [← HC.out, ← HQ.out]; rfl, HG2.out⟩
  · have h0z : ¬ (c : Int) = 0 := by omega
    have hE2 : ((c : Int) == 0) = false := by simpa using h0
    have hE3 : ((c : Int) != 0) = true := by simp [bne, hE2]
    go_wp2_with fail
    go_ret
    exact ⟨by unfold rfF; rw [← HC.out, if_pos h0]; rfl, HG2.out⟩
end Go.Proofs.Ytdcoeebpknipdaa
