/- The reference's Fresh. -/
import Derived.Test.YtnkllgpibmofiaaRs0
namespace Go.Proofs.Ytnkllgpibmofiaa
open Go.RowKit Go.Maps Go.Sort
set_option linter.unusedVariables false

def NoM (L : List On) (f : Int) (id : Nat) : Prop := ∀ k (h : k < L.length), L[k].1 = f → L[k].2 ≠ id
def Lst (L : List On) (f : Int) (k : Nat) (h : k < L.length) : Prop := L[k].1 = f ∧ ∀ j (hj : j < L.length), L[j].1 = f → L[k].2 ≤ L[j].2
def cntF (L : List On) (f : Int) : Nat := (L.filter fun p => p.1 == f).length
def RChg (most : Int) (L : List On) (f : Int) (id : Nat) (b : Bool) (L' : List On) : Prop :=
  (b = false ∧ L' = L ∧ ((∃ k, ∃ h : k < L.length, L[k] = (f, id)) ∨ ((cntF L f : Int) = max most 1 ∧ ∃ k, ∃ h : k < L.length, Lst L f k h ∧ id < L[k].2))) ∨
  (b = true ∧ NoM L f id ∧ (cntF L f : Int) = max most 1 ∧ ∃ k, ∃ h : k < L.length, Lst L f k h ∧ ¬ id < L[k].2 ∧ L' = L.set k (f, id)) ∨
  (b = true ∧ NoM L f id ∧ (cntF L f : Int) ≠ max most 1 ∧ L' = L ++ [(f, id)])
structure RFr (w w' : World) (r : Nat) (most : Int) (v : Value) (L : List On) (f : Int) (id : Nat) (e : Ending) : Prop where
  ex : ∃ (b : Bool) (v' : Value) (L' : List On), e = .returned (.bool b) ∧ RS w' r most v' L' ∧ RChg most L f id b L' ∧ Fr (RBk r v) w w' ∧ (∀ i, v'.ownBlock = some i → v.ownBlock = some i ∨ w.heap.size ≤ i)
theorem lit2 (w : World) (f : Int) (id : Nat) : RdsK 2 (w.alloc (.cells #[.int .i64 f, .int .u64 (id : Int)] 108)) (.slice (some ⟨w.heap.size, 0, none⟩) 1 1) 1 (oc (f, id)) := by
  refine ⟨some ⟨w.heap.size, 0, none⟩, 1, rfl, by simp [oc], Nat.le_refl _, by decide, (fun h => by cases h), ?_⟩
  rintro ad ⟨rfl⟩
  intro j v hj
  have hb : BxA (w.alloc (.cells #[.int .i64 f, .int .u64 (id : Int)] 108)) w.heap.size 108 #[.int .i64 f, .int .u64 (id : Int)] := BxA.new _ _ _
  rw [Addr.add_lit]
  simp only [Nat.zero_add]
  refine hb.cell j v ?_
  simpa [oc] using hj
theorem bx_grown' {w w' : World} {g : Nat} {t : TypeId} {cs : Array Value} {r : Option Nat} (h : BxA w g t cs) (hg : w.grownBy w' r) (hn : some g ≠ r) : BxA w' g t cs := by
  unfold BxA at h ⊢
  rw [hg.block g (Array.getElem?_eq_some_iff.1 h).1 hn]
  exact h
set_option maxRecDepth 20000 in
set_option maxHeartbeats 4000000 in
theorem rfresh_lo (w : World) (r : Nat) (most f : Int) (v : Value) (L : List On) (id : Nat) (h : RS w r most v L) (hL : L.length ≤ 1000000) (hf : B64' f) (hid : id < 18446744073709551616) (hmo : B64' most) (hm : most < 1) :
    Calls Try.prog 26 #[.pointer (some ⟨r, 0, none⟩), .int .i64 f, .int .u64 (id : Int)] w fun e w' => RFr w w' r most v L f id e := by
  have c0 : w.cell? ⟨r, 0, none⟩ = some (.int .i64 most) := h.b.cell 0 _ rfl
  obtain ⟨ao, c, hv, hc1, hc2, hat⟩ := h.sh
  obtain ⟨n, hn⟩ : ∃ n, n = L.length := ⟨_, rfl⟩
  have c1 : w.cell? ⟨r, 1, none⟩ = some v := h.b.cell 1 _ rfl
  rw [← hn] at hv hc1 hL
  have HAT : Hid (0 < L.length → ∃ b, ao = some ⟨b, 0, none⟩ ∧ ∀ i (hi : i < L.length), w.cell? ⟨b, i * 2, none⟩ = some (.int .i64 L[i].1) ∧ w.cell? ⟨b, i * 2 + 1, none⟩ = some (.int .u64 (L[i].2 : Int)) ∧ w.frozen? ⟨b, i * 2 + 1, none⟩ = false) := hat
  have H := hide h
  have HM : Hid (max most 1 = 1) := by apply hide; omega
  have HN := hide hn
  have HV := hide hv
  rw [hv] at c1
  unfold maxLen at hc2
  clear h hat hn hv
  go_enter Try.func26, Try.ntmps26
  go_wp2_with fail
  go_loopg [8, 9, 10] n (fun kx v8 v9 v10 wr => ∃ (i m : Nat) (z : Int), v8 = .int .i64 (m : Int) ∧ v9 = .int .i64 z ∧ v10 = .int .i64 (i : Int) ∧ i ≤ n ∧ n - i ≤ kx ∧ m ≤ i ∧ Hid (LI L f id i m z) ∧ Hid (∃ q, wr = w.drewN q))
  case atStart => exact ⟨0, 0, -1, rfl, rfl, rfl, Nat.zero_le _, Nat.le_refl _, Nat.le_refl _, LI.start L f id, 0, rfl⟩
  case round =>
    obtain ⟨i, m, z, rfl, rfl, rfl, hi, hkx, hmi, HI, HW⟩ := hrel
    obtain ⟨q, hq⟩ := HW.out
    have d0 : wr.cell? ⟨r, 0, none⟩ = some (.int .i64 most) := by rw [hq]; exact c0
    have d1 : wr.cell? ⟨r, 1, none⟩ = some (.slice ao n c) := by rw [hq]; exact c1
    by_cases hlt : i < n
    · have hltz : (i : Int) < (n : Int) := by omega
      have hil : i < L.length := by have := HN.out; omega
      obtain ⟨b, rfl, hat⟩ := HAT.out (by omega)
      obtain ⟨p0, p1, -⟩ := hat i hil
      have e0 : wr.cell? ⟨b, i * 2, none⟩ = some (.int .i64 L[i].1) := by rw [hq]; exact p0
      have e1 : wr.cell? ⟨b, i * 2 + 1, none⟩ = some (.int .u64 (L[i].2 : Int)) := by rw [hq]; exact p1
      have HAW : Hid (∀ k (hk : k < L.length), wr.cell? ⟨b, k * 2 + 1, none⟩ = some (.int .u64 (L[k].2 : Int))) := by apply hide; intro k hk; rw [hq]; exact (hat k hk).2.1
      obtain ⟨g, hg⟩ : ∃ g, g = L[i].1 := ⟨_, rfl⟩
      obtain ⟨t, ht⟩ : ∃ t, t = L[i].2 := ⟨_, rfl⟩
      rw [← hg] at e0
      rw [← ht] at e1
      have HG := hide hg
      have HT := hide ht
      have HIL := hide hil
      have HW1 : Hid (wrap64 ((i : Int) + 1) = (i : Int) + 1) := by apply hide; rw [← IntWalk.i64_left, IntKind.wrap_i64]; omega
      have HW2 : Hid (wrap64 ((m : Int) + 1) = (m : Int) + 1) := by apply hide; rw [← IntWalk.i64_left, IntKind.wrap_i64]; omega
      have HQ := hide hq
      clear hat p0 p1 hg ht hq c0 c1
      by_cases hgf : g = f
      · subst hgf
        by_cases hti : t = id
        · subst hti
          go_wp2_with fail
          go_ret
          refine ⟨false, v, L, rfl, H.out.frame fun _ _ => by rw [HQ.out]; rfl, .inl ⟨rfl, rfl, .inl ⟨i, HIL.out, ?_⟩⟩, by rw [HQ.out]; exact ⟨rfl, rfl, rfl, Nat.le_refl _, fun _ _ _ => rfl⟩, fun _ h => .inl h⟩
          rw [HG.out, HT.out]
        · have htz : ¬ (t : Int) = (id : Int) := by omega
          have HTI := hide hti
          clear hti
          by_cases hz : z = -1
          · have HLN := hide (HI.out.take HIL.out HG.out.symm (by rw [← HT.out]; exact HTI.out) (.inl hz))
            subst hz
            go_wp2_with fail
            go_quiet (fail)
            go_wp2_with fail
            go_roundg (n - (i + 1))
            case measure => omega
            case rel => exact ⟨i + 1, m + 1, (i : Int), by first | (rw [HW2.out]; rfl) | rfl, rfl, by first | (rw [HW1.out]; rfl) | rfl, hlt, Nat.le_refl _, by omega, HLN.out, q + nq, by rw [HQ.out]; exact World.drewN_drewN _ _ _⟩
          · obtain ⟨k, hk, hki, hzk⟩ : ∃ k, ∃ hk : k < L.length, k < i ∧ z = (k : Int) := by
              rcases HI.out.l with ⟨h1, _⟩ | ⟨k, hk, h1, h2, _⟩
              · exact absurd h1 hz
              · exact ⟨k, hk, h1, h2⟩
            subst hzk
            have e2 := HAW.out k hk
            obtain ⟨u, hu⟩ : ∃ u, u = L[k].2 := ⟨_, rfl⟩
            rw [← hu] at e2
            have HU := hide hu
            have HKL := hide hk
            have hkn : (k : Int) < (n : Int) := by omega
            clear hu hz
            by_cases hlu : t < u
            · have hluz : (t : Int) < (u : Int) := by omega
              have HLN := hide (HI.out.take HIL.out HG.out.symm (by rw [← HT.out]; exact HTI.out) (.inr fun k' hk' e => by
                have : k' = k := by omega
                subst this
                rw [← HT.out, ← HU.out]; exact hlu))
              clear hlu
              go_wp2_with fail
              go_quiet (fail)
              go_wp2_with fail
              go_roundg (n - (i + 1))
              case measure => omega
              case rel => exact ⟨i + 1, m + 1, (i : Int), by first | (rw [HW2.out]; rfl) | rfl, rfl, by first | (rw [HW1.out]; rfl) | rfl, hlt, Nat.le_refl _, by omega, HLN.out, q + nq, by rw [HQ.out]; exact World.drewN_drewN _ _ _⟩
            · have hluz : ¬ (t : Int) < (u : Int) := by omega
              have HLN := hide (HI.out.keep HIL.out HG.out.symm (by rw [← HT.out]; exact HTI.out) HKL.out (by rw [← HT.out, ← HU.out]; exact hlu))
              clear hlu
              go_wp2_with fail
              go_quiet (fail)
              go_wp2_with fail
              go_roundg (n - (i + 1))
              case measure => omega
              case rel => exact ⟨i + 1, m + 1, (k : Int), by first | (rw [HW2.out]; rfl) | rfl, rfl, by first | (rw [HW1.out]; rfl) | rfl, hlt, Nat.le_refl _, by omega, HLN.out, q + nq, by rw [HQ.out]; exact World.drewN_drewN _ _ _⟩
      · have HLN := hide (HI.out.skip HIL.out (by rw [← HG.out]; exact hgf))
        go_wp2_with fail
        go_roundg (n - (i + 1))
        case measure => omega
        case rel => exact ⟨i + 1, m, z, rfl, rfl, by first | (rw [HW1.out]; rfl) | rfl, hlt, Nat.le_refl _, by omega, HLN.out, q, HQ.out⟩
    · have hin : i = n := by omega
      subst hin
      have HNO : Hid (NoM L f id) := fun k hk => HI.out.no k hk (by have := HN.out; omega)
      have HCN : Hid (cntF L f = m) := by apply hide; rw [HI.out.cn, HN.out, List.take_length]; rfl
      have HLK : Hid (∀ k : Nat, z = (k : Int) → ∃ h : k < L.length, Lst L f k h) := by
        apply hide
        intro k e
        rcases HI.out.l with ⟨h1, _⟩ | ⟨k', hk', h1, h2, h3, h4⟩
        · omega
        · have : k' = k := by omega
          subst this
          exact ⟨hk', h3, fun j hj h5 => h4 j hj (by have := HN.out; omega) h5⟩
      have HRW : Hid (RS wr r most (.slice ao i c) L) := by apply hide; rw [← HV.out, hq]; exact H.out.frame fun _ _ => rfl
      have HFW : Hid (Fr (RBk r v) w wr) := by rw [hq]; exact ⟨rfl, rfl, rfl, Nat.le_refl _, fun _ _ _ => rfl⟩
      by_cases hmm : (m : Int) = 1
      · obtain ⟨k, hk, hzk⟩ : ∃ k, ∃ hk : k < L.length, z = (k : Int) := by
          rcases HI.out.l with ⟨_, h2⟩ | ⟨k, hk, h1, h2, _⟩
          · omega
          · exact ⟨k, hk, h2⟩
        subst hzk
        obtain ⟨b, rfl, hat⟩ := HAT.out (by omega)
        obtain ⟨p0, p1, p2⟩ := hat k hk
        have e1 : wr.cell? ⟨b, k * 2 + 1, none⟩ = some (.int .u64 (L[k].2 : Int)) := by rw [hq]; exact p1
        have ef : wr.frozen? ⟨b, k * 2 + 1, none⟩ = false := by rw [hq]; exact p2
        obtain ⟨t, ht⟩ : ∃ t, t = L[k].2 := ⟨_, rfl⟩
        rw [← ht] at e1
        have hki : (k : Int) < (i : Int) := by have := HN.out; omega
        have HT := hide ht
        have H1 := hide hmm
        obtain ⟨hk', HLS⟩ := HLK.out k rfl
        have HLS := hide HLS
        clear hat p0 p1 p2 ht hlt hq
        by_cases hid2 : id < t
        · have hidz : (id : Int) < (t : Int) := by omega
          go_wp2_with fail
          go_ret
          exact ⟨false, v, L, rfl, by rw [HV.out]; exact HRW.out, .inl ⟨rfl, rfl, .inr ⟨by rw [HCN.out, HM.out]; exact H1.out, k, hk, HLS.out, by rw [← HT.out]; exact hid2⟩⟩, HFW.out, fun _ h => .inl h⟩
        · have hidz : ¬ (id : Int) < (t : Int) := by omega
          have HID := hide hid2
          clear hid2
          go_wp2_with fail
          go_ret
          have ho := HRW.out.o
          rw [← HN.out] at ho
          have hst := World.ownsRow.stored ho (k * 2 + 1) (.int .u64 (id : Int))
          refine ⟨true, v, L.set k (f, id), rfl, ⟨?_, ?_⟩, .inr (.inl ⟨rfl, HNO.out, by rw [HCN.out, HM.out]; exact H1.out, k, hk, HLS.out, by rw [← HT.out]; exact HID.out, rfl⟩), ?_, fun _ h => .inl h⟩
          · have := HRW.out.b
            unfold BxA at this ⊢
            rw [hst.2.block r HRW.out.b.lt (fun e => HRW.out.ne b rfl (by injection e with e; exact e.symm)), HV.out]
            exact this
          · have e3 : (f, id) = (L[k].1, id) := by rw [HLS.out.1]
            rw [e3, HV.out, List.length_set, ← HN.out, ocs_set L k id hk]
            exact hst.1
          · exact HFW.out.trans (Fr.of_grown (F := RBk r v) hst.2 fun j hj => .inl (.inr (by rw [HV.out]; exact hj))) fun _ _ h => h
      · have hmm' := hmm
        have H1 := hide hmm
        obtain ⟨i0, hi0, hz0, hz1, hz2⟩ := info_parts Try.info_one
        have hB1 : Below wr.heap.size wr (wr.alloc (.cells #[.int .i64 f, .int .u64 (id : Int)] 108)) := (Below.refl _ _).alloc (Nat.le_refl _) _
        have hR1 := HRW.out.below hB1
        have HR1 := hide hR1
        have HO1 : Hid ((wr.alloc (.cells #[.int .i64 f, .int .u64 (id : Int)] 108)).ownsRow 0 108 2 (.slice ao i c) i (ocs L)) := by apply hide; have := hR1.o; rw [← HN.out] at this; exact this
        have HX1 : Hid (RdsK 2 (wr.alloc (.cells #[.int .i64 f, .int .u64 (id : Int)] 108)) (.slice (some ⟨wr.heap.size, 0, none⟩) 1 1) 1 (oc (f, id))) := lit2 wr f id
        have k1 : (wr.alloc (.cells #[.int .i64 f, .int .u64 (id : Int)] 108)).cell? ⟨r, 1, none⟩ = some (.slice ao i c) := hR1.b.cell 1 _ rfl
        have HQ : Hid (i + 1 ≤ maxLen ∧ ((i + 1) + (i + 1) / 4 + 192) * 16 ≤ 281474976710656) := by apply hide; unfold maxLen; omega
        have HB1 := hide hB1
        clear hR1 hB1 hmm hlt hq
        go_wp2_with (at_builtin; refine wpList_appF rfl _ _ 70 rfl 0 108 i0 _ 2 16 Try.underlying70 hi0 hz0 hz1 hz2 rfl (by decide) (.slice ao i c) i (ocs L) rfl HO1.out (.slice (some ⟨wr.heap.size, 0, none⟩) 1 1) 1 (oc (f, id)) rfl HX1.out (fun u hu => by simp only [oc, List.mem_cons, List.not_mem_nil, or_false] at hu; rcases hu with rfl | rfl <;> rfl) HQ.out.1 HQ.out.2 (Nat.zero_le _) ?_; intro v4 w4 o4 g4 p4; obtain ⟨a4, c4, hx4⟩ := own_sl o4; subst hx4; have HO4 := hide o4; have HG4 := hide g4; have HP4 := hide p4; have hb4 : BxA w4 r 72 #[.int .i64 most, .slice ao i c] := bx_grown' HR1.out.b g4 (fun e => HR1.out.ne r e.symm rfl); have HB4 := hide hb4; have m1 := hb4.cell 1 _ rfl; have mf := hb4.free 1; clear o4 g4 p4 hb4)
        go_ret
        have hne : (Value.ownBlock (.slice a4 (i + 1) c4)) ≠ some r := fun e => by
          have hd : w4.heap[r]? = _ := HB4.out
          rcases HO4.out.2 with ⟨h1, _⟩ | ⟨g', cap, cur, h1, _, h3, _⟩
          · rw [h1] at e; cases e
          · rw [h1] at e
            simp only [Value.ownBlock, Option.some.injEq] at e
            rw [e, hd] at h3
            simp only [Option.some.injEq, Obj.cells.injEq] at h3
            exact absurd h3.2.1 (by decide)
        refine ⟨true, .slice a4 (i + 1) c4, L ++ [(f, id)], rfl, ⟨HB4.out.set 1 _, ?_⟩, .inr (.inr ⟨rfl, HNO.out, by rw [HCN.out, HM.out]; exact H1.out, rfl⟩), ?_, ?_⟩
        · have := ownsRow_setCell_other HO4.out (a := ⟨r, 1, none⟩) hne (.slice a4 (i + 1) c4)
          rw [List.length_append, List.length_singleton, ← HN.out, ocs_append]
          have e : ocs [(f, id)] = oc (f, id) := by simp [ocs]
          rw [e]
          exact this
        · refine ((HFW.out.trans (Fr.of_below (F := RBk r v) HB1.out) fun _ _ h => h).trans (Fr.of_grown (F := RBk r v) HG4.out fun j hj => .inl (.inr (by rw [HV.out]; exact hj))) fun _ _ h => h).trans (Fr.of_grown (F := RBk r v) grown_setCell fun j hj => .inl (by cases hj; exact .inl rfl)) fun _ _ h => h
        · intro j hj
          rcases HP4.out with e | ⟨b, e, hb⟩
          · left; rw [HV.out, ← e]; exact hj
          · right
            rw [e] at hj
            injection hj with hj
            have := HFW.out.size
            have := HB1.out.size
            omega
set_option maxRecDepth 20000 in
set_option maxHeartbeats 4000000 in
theorem rfresh_hi (w : World) (r : Nat) (most f : Int) (v : Value) (L : List On) (id : Nat) (h : RS w r most v L) (hL : L.length ≤ 1000000) (hf : B64' f) (hid : id < 18446744073709551616) (hmo : B64' most) (hm : ¬ most < 1) :
    Calls Try.prog 26 #[.pointer (some ⟨r, 0, none⟩), .int .i64 f, .int .u64 (id : Int)] w fun e w' => RFr w w' r most v L f id e := by
  have c0 : w.cell? ⟨r, 0, none⟩ = some (.int .i64 most) := h.b.cell 0 _ rfl
  obtain ⟨ao, c, hv, hc1, hc2, hat⟩ := h.sh
  obtain ⟨n, hn⟩ : ∃ n, n = L.length := ⟨_, rfl⟩
  have c1 : w.cell? ⟨r, 1, none⟩ = some v := h.b.cell 1 _ rfl
  rw [← hn] at hv hc1 hL
  have HAT : Hid (0 < L.length → ∃ b, ao = some ⟨b, 0, none⟩ ∧ ∀ i (hi : i < L.length), w.cell? ⟨b, i * 2, none⟩ = some (.int .i64 L[i].1) ∧ w.cell? ⟨b, i * 2 + 1, none⟩ = some (.int .u64 (L[i].2 : Int)) ∧ w.frozen? ⟨b, i * 2 + 1, none⟩ = false) := hat
  have H := hide h
  have HM : Hid (max most 1 = most) := by apply hide; omega
  have HN := hide hn
  have HV := hide hv
  rw [hv] at c1
  unfold maxLen at hc2
  clear h hat hn hv
  go_enter Try.func26, Try.ntmps26
  go_wp2_with fail
  go_loopg [8, 9, 10] n (fun kx v8 v9 v10 wr => ∃ (i m : Nat) (z : Int), v8 = .int .i64 (m : Int) ∧ v9 = .int .i64 z ∧ v10 = .int .i64 (i : Int) ∧ i ≤ n ∧ n - i ≤ kx ∧ m ≤ i ∧ Hid (LI L f id i m z) ∧ Hid (∃ q, wr = w.drewN q))
  case atStart => exact ⟨0, 0, -1, rfl, rfl, rfl, Nat.zero_le _, Nat.le_refl _, Nat.le_refl _, LI.start L f id, 0, rfl⟩
  case round =>
    obtain ⟨i, m, z, rfl, rfl, rfl, hi, hkx, hmi, HI, HW⟩ := hrel
    obtain ⟨q, hq⟩ := HW.out
    have d0 : wr.cell? ⟨r, 0, none⟩ = some (.int .i64 most) := by rw [hq]; exact c0
    have d1 : wr.cell? ⟨r, 1, none⟩ = some (.slice ao n c) := by rw [hq]; exact c1
    by_cases hlt : i < n
    · have hltz : (i : Int) < (n : Int) := by omega
      have hil : i < L.length := by have := HN.out; omega
      obtain ⟨b, rfl, hat⟩ := HAT.out (by omega)
      obtain ⟨p0, p1, -⟩ := hat i hil
      have e0 : wr.cell? ⟨b, i * 2, none⟩ = some (.int .i64 L[i].1) := by rw [hq]; exact p0
      have e1 : wr.cell? ⟨b, i * 2 + 1, none⟩ = some (.int .u64 (L[i].2 : Int)) := by rw [hq]; exact p1
      have HAW : Hid (∀ k (hk : k < L.length), wr.cell? ⟨b, k * 2 + 1, none⟩ = some (.int .u64 (L[k].2 : Int))) := by apply hide; intro k hk; rw [hq]; exact (hat k hk).2.1
      obtain ⟨g, hg⟩ : ∃ g, g = L[i].1 := ⟨_, rfl⟩
      obtain ⟨t, ht⟩ : ∃ t, t = L[i].2 := ⟨_, rfl⟩
      rw [← hg] at e0
      rw [← ht] at e1
      have HG := hide hg
      have HT := hide ht
      have HIL := hide hil
      have HW1 : Hid (wrap64 ((i : Int) + 1) = (i : Int) + 1) := by apply hide; rw [← IntWalk.i64_left, IntKind.wrap_i64]; omega
      have HW2 : Hid (wrap64 ((m : Int) + 1) = (m : Int) + 1) := by apply hide; rw [← IntWalk.i64_left, IntKind.wrap_i64]; omega
      have HQ := hide hq
      clear hat p0 p1 hg ht hq c0 c1
      by_cases hgf : g = f
      · subst hgf
        by_cases hti : t = id
        · subst hti
          go_wp2_with fail
          go_ret
          refine ⟨false, v, L, rfl, H.out.frame fun _ _ => by rw [HQ.out]; rfl, .inl ⟨rfl, rfl, .inl ⟨i, HIL.out, ?_⟩⟩, by rw [HQ.out]; exact ⟨rfl, rfl, rfl, Nat.le_refl _, fun _ _ _ => rfl⟩, fun _ h => .inl h⟩
          rw [HG.out, HT.out]
        · have htz : ¬ (t : Int) = (id : Int) := by omega
          have HTI := hide hti
          clear hti
          by_cases hz : z = -1
          · have HLN := hide (HI.out.take HIL.out HG.out.symm (by rw [← HT.out]; exact HTI.out) (.inl hz))
            subst hz
            go_wp2_with fail
            go_quiet (fail)
            go_wp2_with fail
            go_roundg (n - (i + 1))
            case measure => omega
            case rel => exact ⟨i + 1, m + 1, (i : Int), by first | (rw [HW2.out]; rfl) | rfl, rfl, by first | (rw [HW1.out]; rfl) | rfl, hlt, Nat.le_refl _, by omega, HLN.out, q + nq, by rw [HQ.out]; exact World.drewN_drewN _ _ _⟩
          · obtain ⟨k, hk, hki, hzk⟩ : ∃ k, ∃ hk : k < L.length, k < i ∧ z = (k : Int) := by
              rcases HI.out.l with ⟨h1, _⟩ | ⟨k, hk, h1, h2, _⟩
              · exact absurd h1 hz
              · exact ⟨k, hk, h1, h2⟩
            subst hzk
            have e2 := HAW.out k hk
            obtain ⟨u, hu⟩ : ∃ u, u = L[k].2 := ⟨_, rfl⟩
            rw [← hu] at e2
            have HU := hide hu
            have HKL := hide hk
            have hkn : (k : Int) < (n : Int) := by omega
            clear hu hz
            by_cases hlu : t < u
            · have hluz : (t : Int) < (u : Int) := by omega
              have HLN := hide (HI.out.take HIL.out HG.out.symm (by rw [← HT.out]; exact HTI.out) (.inr fun k' hk' e => by
                have : k' = k := by omega
                subst this
                rw [← HT.out, ← HU.out]; exact hlu))
              clear hlu
              go_wp2_with fail
              go_quiet (fail)
              go_wp2_with fail
              go_roundg (n - (i + 1))
              case measure => omega
              case rel => exact ⟨i + 1, m + 1, (i : Int), by first | (rw [HW2.out]; rfl) | rfl, rfl, by first | (rw [HW1.out]; rfl) | rfl, hlt, Nat.le_refl _, by omega, HLN.out, q + nq, by rw [HQ.out]; exact World.drewN_drewN _ _ _⟩
            · have hluz : ¬ (t : Int) < (u : Int) := by omega
              have HLN := hide (HI.out.keep HIL.out HG.out.symm (by rw [← HT.out]; exact HTI.out) HKL.out (by rw [← HT.out, ← HU.out]; exact hlu))
              clear hlu
              go_wp2_with fail
              go_quiet (fail)
              go_wp2_with fail
              go_roundg (n - (i + 1))
              case measure => omega
              case rel => exact ⟨i + 1, m + 1, (k : Int), by first | (rw [HW2.out]; rfl) | rfl, rfl, by first | (rw [HW1.out]; rfl) | rfl, hlt, Nat.le_refl _, by omega, HLN.out, q + nq, by rw [HQ.out]; exact World.drewN_drewN _ _ _⟩
      · have HLN := hide (HI.out.skip HIL.out (by rw [← HG.out]; exact hgf))
        go_wp2_with fail
        go_roundg (n - (i + 1))
        case measure => omega
        case rel => exact ⟨i + 1, m, z, rfl, rfl, by first | (rw [HW1.out]; rfl) | rfl, hlt, Nat.le_refl _, by omega, HLN.out, q, HQ.out⟩
    · have hin : i = n := by omega
      subst hin
      have HNO : Hid (NoM L f id) := fun k hk => HI.out.no k hk (by have := HN.out; omega)
      have HCN : Hid (cntF L f = m) := by apply hide; rw [HI.out.cn, HN.out, List.take_length]; rfl
      have HLK : Hid (∀ k : Nat, z = (k : Int) → ∃ h : k < L.length, Lst L f k h) := by
        apply hide
        intro k e
        rcases HI.out.l with ⟨h1, _⟩ | ⟨k', hk', h1, h2, h3, h4⟩
        · omega
        · have : k' = k := by omega
          subst this
          exact ⟨hk', h3, fun j hj h5 => h4 j hj (by have := HN.out; omega) h5⟩
      have HRW : Hid (RS wr r most (.slice ao i c) L) := by apply hide; rw [← HV.out, hq]; exact H.out.frame fun _ _ => rfl
      have HFW : Hid (Fr (RBk r v) w wr) := by rw [hq]; exact ⟨rfl, rfl, rfl, Nat.le_refl _, fun _ _ _ => rfl⟩
      by_cases hmm : (m : Int) = most
      · obtain ⟨k, hk, hzk⟩ : ∃ k, ∃ hk : k < L.length, z = (k : Int) := by
          rcases HI.out.l with ⟨_, h2⟩ | ⟨k, hk, h1, h2, _⟩
          · omega
          · exact ⟨k, hk, h2⟩
        subst hzk
        obtain ⟨b, rfl, hat⟩ := HAT.out (by omega)
        obtain ⟨p0, p1, p2⟩ := hat k hk
        have e1 : wr.cell? ⟨b, k * 2 + 1, none⟩ = some (.int .u64 (L[k].2 : Int)) := by rw [hq]; exact p1
        have ef : wr.frozen? ⟨b, k * 2 + 1, none⟩ = false := by rw [hq]; exact p2
        obtain ⟨t, ht⟩ : ∃ t, t = L[k].2 := ⟨_, rfl⟩
        rw [← ht] at e1
        have hki : (k : Int) < (i : Int) := by have := HN.out; omega
        have HT := hide ht
        have Hmost := hide hmm
        obtain ⟨hk', HLS⟩ := HLK.out k rfl
        have HLS := hide HLS
        clear hat p0 p1 p2 ht hlt hq
        by_cases hid2 : id < t
        · have hidz : (id : Int) < (t : Int) := by omega
          go_wp2_with fail
          go_ret
          exact ⟨false, v, L, rfl, by rw [HV.out]; exact HRW.out, .inl ⟨rfl, rfl, .inr ⟨by rw [HCN.out, HM.out]; exact Hmost.out, k, hk, HLS.out, by rw [← HT.out]; exact hid2⟩⟩, HFW.out, fun _ h => .inl h⟩
        · have hidz : ¬ (id : Int) < (t : Int) := by omega
          have HID := hide hid2
          clear hid2
          go_wp2_with fail
          go_ret
          have ho := HRW.out.o
          rw [← HN.out] at ho
          have hst := World.ownsRow.stored ho (k * 2 + 1) (.int .u64 (id : Int))
          refine ⟨true, v, L.set k (f, id), rfl, ⟨?_, ?_⟩, .inr (.inl ⟨rfl, HNO.out, by rw [HCN.out, HM.out]; exact Hmost.out, k, hk, HLS.out, by rw [← HT.out]; exact HID.out, rfl⟩), ?_, fun _ h => .inl h⟩
          · have := HRW.out.b
            unfold BxA at this ⊢
            rw [hst.2.block r HRW.out.b.lt (fun e => HRW.out.ne b rfl (by injection e with e; exact e.symm)), HV.out]
            exact this
          · have e3 : (f, id) = (L[k].1, id) := by rw [HLS.out.1]
            rw [e3, HV.out, List.length_set, ← HN.out, ocs_set L k id hk]
            exact hst.1
          · exact HFW.out.trans (Fr.of_grown (F := RBk r v) hst.2 fun j hj => .inl (.inr (by rw [HV.out]; exact hj))) fun _ _ h => h
      · have hmm' := hmm
        have Hmost := hide hmm
        obtain ⟨i0, hi0, hz0, hz1, hz2⟩ := info_parts Try.info_one
        have hB1 : Below wr.heap.size wr (wr.alloc (.cells #[.int .i64 f, .int .u64 (id : Int)] 108)) := (Below.refl _ _).alloc (Nat.le_refl _) _
        have hR1 := HRW.out.below hB1
        have HR1 := hide hR1
        have HO1 : Hid ((wr.alloc (.cells #[.int .i64 f, .int .u64 (id : Int)] 108)).ownsRow 0 108 2 (.slice ao i c) i (ocs L)) := by apply hide; have := hR1.o; rw [← HN.out] at this; exact this
        have HX1 : Hid (RdsK 2 (wr.alloc (.cells #[.int .i64 f, .int .u64 (id : Int)] 108)) (.slice (some ⟨wr.heap.size, 0, none⟩) 1 1) 1 (oc (f, id))) := lit2 wr f id
        have k1 : (wr.alloc (.cells #[.int .i64 f, .int .u64 (id : Int)] 108)).cell? ⟨r, 1, none⟩ = some (.slice ao i c) := hR1.b.cell 1 _ rfl
        have HQ : Hid (i + 1 ≤ maxLen ∧ ((i + 1) + (i + 1) / 4 + 192) * 16 ≤ 281474976710656) := by apply hide; unfold maxLen; omega
        have HB1 := hide hB1
        clear hR1 hB1 hmm hlt hq
        go_wp2_with (at_builtin; refine wpList_appF rfl _ _ 70 rfl 0 108 i0 _ 2 16 Try.underlying70 hi0 hz0 hz1 hz2 rfl (by decide) (.slice ao i c) i (ocs L) rfl HO1.out (.slice (some ⟨wr.heap.size, 0, none⟩) 1 1) 1 (oc (f, id)) rfl HX1.out (fun u hu => by simp only [oc, List.mem_cons, List.not_mem_nil, or_false] at hu; rcases hu with rfl | rfl <;> rfl) HQ.out.1 HQ.out.2 (Nat.zero_le _) ?_; intro v4 w4 o4 g4 p4; obtain ⟨a4, c4, hx4⟩ := own_sl o4; subst hx4; have HO4 := hide o4; have HG4 := hide g4; have HP4 := hide p4; have hb4 : BxA w4 r 72 #[.int .i64 most, .slice ao i c] := bx_grown' HR1.out.b g4 (fun e => HR1.out.ne r e.symm rfl); have HB4 := hide hb4; have m1 := hb4.cell 1 _ rfl; have mf := hb4.free 1; clear o4 g4 p4 hb4)
        go_ret
        have hne : (Value.ownBlock (.slice a4 (i + 1) c4)) ≠ some r := fun e => by
          have hd : w4.heap[r]? = _ := HB4.out
          rcases HO4.out.2 with ⟨h1, _⟩ | ⟨g', cap, cur, h1, _, h3, _⟩
          · rw [h1] at e; cases e
          · rw [h1] at e
            simp only [Value.ownBlock, Option.some.injEq] at e
            rw [e, hd] at h3
            simp only [Option.some.injEq, Obj.cells.injEq] at h3
            exact absurd h3.2.1 (by decide)
        refine ⟨true, .slice a4 (i + 1) c4, L ++ [(f, id)], rfl, ⟨HB4.out.set 1 _, ?_⟩, .inr (.inr ⟨rfl, HNO.out, by rw [HCN.out, HM.out]; exact Hmost.out, rfl⟩), ?_, ?_⟩
        · have := ownsRow_setCell_other HO4.out (a := ⟨r, 1, none⟩) hne (.slice a4 (i + 1) c4)
          rw [List.length_append, List.length_singleton, ← HN.out, ocs_append]
          have e : ocs [(f, id)] = oc (f, id) := by simp [ocs]
          rw [e]
          exact this
        · refine ((HFW.out.trans (Fr.of_below (F := RBk r v) HB1.out) fun _ _ h => h).trans (Fr.of_grown (F := RBk r v) HG4.out fun j hj => .inl (.inr (by rw [HV.out]; exact hj))) fun _ _ h => h).trans (Fr.of_grown (F := RBk r v) grown_setCell fun j hj => .inl (by cases hj; exact .inl rfl)) fun _ _ h => h
        · intro j hj
          rcases HP4.out with e | ⟨b, e, hb⟩
          · left; rw [HV.out, ← e]; exact hj
          · right
            rw [e] at hj
            injection hj with hj
            have := HFW.out.size
            have := HB1.out.size
            omega
theorem rfresh_any (w : World) (r : Nat) (most f : Int) (v : Value) (L : List On) (id : Nat) (h : RS w r most v L) (hL : L.length ≤ 1000000) (hf : B64' f) (hid : id < 18446744073709551616) (hmo : B64' most) :
    Calls Try.prog 26 #[.pointer (some ⟨r, 0, none⟩), .int .i64 f, .int .u64 (id : Int)] w fun e w' => RFr w w' r most v L f id e := by
  by_cases hm : most < 1
  · exact rfresh_lo w r most f v L id h hL hf hid hmo hm
  · exact rfresh_hi w r most f v L id h hL hf hid hmo hm
end Go.Proofs.Ytnkllgpibmofiaa
