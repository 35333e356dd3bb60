/- The reference's disk: Cut. -/
import Derived.Test.YtdcoeebpknipdaaRf1
import Derived.Deep.DeepCutAuto
namespace Go.Proofs.Ytdcoeebpknipdaa
open Go.RowKit Go.Maps Go.Sort
set_option linter.unusedVariables false

theorem rcs_set (Z : List RE) (i : Nat) (hi : i < Z.length) (v : Value) (bs : Str) (k : Nat) : rcs (Z.set i ⟨Z[i].nm, v, bs, k⟩) = ((rcs Z).set (i * 3 + 1) v).set (i * 3 + 2) (.int .i64 (k : Int)) := by
  induction Z generalizing i with
  | nil => simp at hi
  | cons e Z ih =>
    cases i with
    | zero => rfl
    | succ i =>
      have hi' : i < Z.length := by simpa using hi
      have h := ih i hi'
      show e.cs ++ rcs (Z.set i ⟨(Z[i]'hi').nm, v, bs, k⟩) = ((e.cs ++ rcs Z).set ((i + 1) * 3 + 1) v).set ((i + 1) * 3 + 2) (.int .i64 (k : Int))
      have hl : e.cs.length = 3 := rfl
      rw [h, List.set_append_right _ _ (by rw [hl]; omega), List.set_append_right _ _ (by rw [hl]; omega), hl, show (i + 1) * 3 + 1 - 3 = i * 3 + 1 by omega, show (i + 1) * 3 + 2 - 3 = i * 3 + 2 by omega]
theorem pair_set {Z : List RE} {R : RE → RE → Prop} (h : Z.Pairwise R) (i : Nat) (hi : i < Z.length) (e : RE) (h1 : ∀ x ∈ Z, R x e) (h2 : ∀ x ∈ Z, R e x) : (Z.set i e).Pairwise R := by
  rw [List.pairwise_iff_getElem] at h ⊢
  intro a b ha hb hab
  rw [List.length_set] at ha hb
  rw [List.getElem_set, List.getElem_set]
  split
  · split
    · omega
    · exact h2 _ (List.getElem_mem _)
  · split
    · exact h1 _ (List.getElem_mem _)
    · exact h a b ha hb hab
theorem RZ.rg {w : World} {r N g n cap : Nat} {F : Nat → Prop} {s : RSt} {Z : List RE} (h : RZ w r F N s (.slice (some ⟨g, 0, none⟩) n cap) Z) : r ≠ g := fun e => by
  have q1 := h.b
  rcases h.lo.2 with ⟨q, _⟩ | ⟨g', c', cur, q, q2, q3, _⟩
  · cases q
  · injection q with q _ _
    injection q with q
    injection q with q
    subst q
    subst e
    unfold BxA at q1
    rw [q3] at q1
    simp at q1
/-- A file's bytes lie in a new row. -/
theorem RZ.file {w w1 : World} {r N g cap : Nat} {F : Nat → Prop} {s : RSt} {Z : List RE} (h : RZ w r F N s (.slice (some ⟨g, 0, none⟩) Z.length cap) Z) (i : Nat) (hi : i < Z.length) (v1 : Value) (bs : Str) (k : Nat) (hg : w.grownBy w1 none) (ho : Owns w1 0 v1 bs) (hv : ∀ b, v1.ownBlock = some b → w.heap.size ≤ b) (hk : k ≤ bs.length) (hn : bs.length ≤ N) :
    RZ ((w1.setCell ⟨g, i * 3 + 1, none⟩ v1).setCell ⟨g, i * 3 + 2, none⟩ (.int .i64 (k : Int))) r (fun j => F j ∨ v1.ownBlock = some j) N { s with fs := s.fs.set i ⟨Z[i].nm, bs, k⟩ } (.slice (some ⟨g, 0, none⟩) Z.length cap) (Z.set i ⟨Z[i].nm, v1, bs, k⟩) := by
  have hF := h.fl g rfl
  have hgs := h.lt g hF
  have b1 : ∀ j, F j → w1.heap[j]? = w.heap[j]? := fun j hj => hg.block j (h.lt j hj) (by simp)
  have h1 := h.frame hg.size b1
  have hne : ∀ j, j ≠ g → ((w1.setCell ⟨g, i * 3 + 1, none⟩ v1).setCell ⟨g, i * 3 + 2, none⟩ (.int .i64 (k : Int))).heap[j]? = w1.heap[j]? := fun j hj => by
    rw [Below.heap_setCell _ _ _ _ hj, Below.heap_setCell _ _ _ _ hj]
  have hr : r ≠ g := h1.rg
  have hby : ∀ (x : Value) (l : Str), Owns w1 0 x l → ∀ b, x.ownBlock = some b → b ≠ g := fun x l hx b hb e => by
    subst e
    rcases h1.lo.2 with ⟨q, _⟩ | ⟨g', c', cur, q, q2, q3, _⟩
    · cases q
    · injection q with q _ _
      injection q with q
      injection q with q
      subst q
      rcases hx.2 with ⟨q', _⟩ | ⟨g2, c2, cur2, q', _, q4, _⟩
      · rw [q'] at hb; cases hb
      · rw [q'] at hb
        injection hb with hb
        have hb' : g2 = b := hb
        rw [hb', q3] at q4
        simp at q4
  refine ⟨?_, .inl h.f, ?_, fun b hb => .inl (h.fl b hb), fun x hx => ?_, ?_, ?_, fun x hx => ?_, by rw [List.length_set]; exact h.few, h.nn, fun j hj => ?_⟩
  · have := h1.b
    unfold BxA at this ⊢
    rw [hne r hr]
    exact this
  · rw [List.length_set, rcs_set Z i hi]
    exact (World.ownsRow.stored (World.ownsRow.stored h1.lo (i * 3 + 1) v1).1 (i * 3 + 2) (.int .i64 (k : Int))).1
  · rcases List.mem_or_eq_of_mem_set hx with hx | rfl
    · obtain ⟨q1, q2, q3⟩ := h1.e x hx
      exact ⟨owns_block q1 fun b hb => hne b (hby x.v x.bs q1 b hb), fun b hb => .inl (q2 b hb), q3⟩
    · exact ⟨owns_block ho fun b hb => hne b (hby v1 bs ho b hb), fun b hb => .inr hb, hk⟩
  · refine pair_set h.ap i hi _ (fun x hx c hc q => ?_) (fun x hx c hc q => ?_)
    · have := hv c q
      have := h.lt c ((h.e x hx).2.1 c hc)
      omega
    · have := hv c hc
      have := h.lt c ((h.e x hx).2.1 c q)
      omega
  · rw [List.map_set, h.fs]
    rfl
  · rcases List.mem_or_eq_of_mem_set hx with hx | rfl
    · exact h.nb x hx
    · exact hn
  · have hs : ((w1.setCell ⟨g, i * 3 + 1, none⟩ v1).setCell ⟨g, i * 3 + 2, none⟩ (.int .i64 (k : Int))).heap.size = w1.heap.size := by simp
    rw [hs]
    rcases hj with hj | hj
    · exact Nat.lt_of_lt_of_le (h.lt j hj) hg.size
    · exact (own_lt ho j hj).2
theorem RZ.boxn {w : World} {r N : Nat} {F : Nat → Prop} {s s' : RSt} {Lv Lv' : Value} {Z : List RE} (h : RZ w r F N s Lv Z) (c : Nat) (u : Value) (hb : BxA (w.setCell ⟨r, c, none⟩ u) r 34 #[Lv, .bool s'.off, .int .i64 (s'.n : Int), .int .i64 s'.at_, .int .i64 s'.part]) (hfs : s'.fs = s.fs) (hn : s'.n ≤ 1000000) : RZ (w.setCell ⟨r, c, none⟩ u) r F N s' Lv Z := by
  have hne : ∀ j, j ≠ r → (w.setCell ⟨r, c, none⟩ u).heap[j]? = w.heap[j]? := fun j hj => Below.heap_setCell _ _ _ _ hj
  have hlr : ∀ b, Lv.ownBlock = some b → b ≠ r := fun b hk q => by
    subst q
    have q1 := h.b
    rcases h.lo.2 with ⟨q, _⟩ | ⟨g', c', cur, q, q2, q3, _⟩
    · rw [q] at hk; cases hk
    · rw [q] at hk
      injection hk with hk
      have hb' : g' = b := hk
      rw [hb'] at q3
      unfold BxA at q1
      rw [q3] at q1
      simp at q1
  have her : ∀ x ∈ Z, ∀ b, x.v.ownBlock = some b → b ≠ r := fun x hx b hk q => by
    subst q
    have q1 := h.b
    rcases (h.e x hx).1.2 with ⟨q', _⟩ | ⟨g2, c2, cur2, q', _, q4, _⟩
    · rw [q'] at hk; cases hk
    · rw [q'] at hk
      injection hk with hk
      have hb' : g2 = b := hk
      rw [hb'] at q4
      unfold BxA at q1
      rw [q4] at q1
      simp at q1
  exact ⟨hb, h.f, rowk_block h.lo fun b q => hne b (hlr b q), h.fl, fun x hx => ⟨owns_block (h.e x hx).1 fun b q => hne b (her x hx b q), (h.e x hx).2⟩, h.ap, by rw [h.fs, hfs], h.nb, h.few, hn, fun j hj => by have := h.lt j hj; simpa using this⟩
/-- Behind an operation on the reference's disk. -/
structure Rm (w w' : World) (r : Nat) (F : Nat → Prop) (N : Nat) (s : RSt) : Prop where
  ex : ∃ F' : Nat → Prop, Rd w' r F' N s ∧ ∀ i, F' i → F i ∨ w.heap.size ≤ i
  fr : Fr F w w'
def rcut (s : RSt) (part : Int) : RSt := if s.off then s else { s with fs := s.fs.map (cutF part), off := true }
theorem cut_take (fs : List Fl) (part : Int) (i : Nat) (hi : i < fs.length) : ((fs.take i).map (cutF part) ++ fs.drop i).set i (cutF part fs[i]) = (fs.take (i + 1)).map (cutF part) ++ fs.drop (i + 1) := by
  rw [List.set_append_right _ _ (by simp; omega), List.length_map, List.length_take, Nat.min_eq_left (by omega), Nat.sub_self, List.drop_eq_getElem_cons hi, List.set_cons_zero, List.take_succ_eq_append_getElem hi, List.map_append, List.append_assoc]
  rfl
set_option maxRecDepth 100000 in
set_option maxHeartbeats 3200000 in
theorem refcut_any (w : World) (r N : Nat) (F : Nat → Prop) (s : RSt) (part : Int) (h : Rd w r F N s) (hN : N ≤ 140737488355328) (hp : part ≤ 9223372036854775807) :
    Calls Try.prog 37 #[.pointer (some ⟨r, 0, none⟩), .int .i64 part] w fun e w' => e = .returned (.tuple #[]) ∧ Rm w w' r F N (rcut s part) := by
  obtain ⟨i0, hi0, hz0, hz1, hz2⟩ := info_parts Try.info5
  obtain ⟨Lv, Z, hz⟩ := h
  have c1 : w.cell? ⟨r, 1, none⟩ = some (.bool s.off) := BxA.cell hz.b 1 _ rfl
  cases ho : s.off with
  | true =>
    rw [ho] at c1
    have HR : Hid (Rm w w r F N (rcut s part)) := by
      apply hide
      unfold rcut
      rw [ho]
      exact ⟨⟨F, ⟨Lv, Z, hz⟩, fun _ h => .inl h⟩, Fr.refl _ _⟩
    clear hz
    go_enter Try.func37, Try.ntmps37
    go_wp2_with fail
    refine bodyPost_ret (results_none rfl _ _ _) rfl ?_
    exact ⟨rfl, HR.out⟩
  | false =>
    rw [ho] at c1
    obtain ⟨P, hP⟩ : ∃ P : Nat, P = part.toNat := ⟨_, rfl⟩
    have HCK : Hid (∀ n sy, cutK part n sy = sy + min P (n - sy)) := fun n sy => by unfold cutK; rw [hP]
    have HPP : Hid ((part < 0 → P = 0) ∧ (¬ part < 0 → part = (P : Int)) ∧ P ≤ 9223372036854775807) := by apply hide; rw [hP]; omega
    obtain ⟨a, cap, hLv, hc1, hc2, -⟩ := hz.cells
    obtain ⟨n, hn⟩ : ∃ n, n = Z.length := ⟨_, rfl⟩
    rw [← hn] at hLv hc1
    subst hLv
    have HZ0 : Hid (RZ w r F N s (.slice a n cap) Z) := hz
    have HN : Hid (n = Z.length) := hn
    have hfew := hz.few
    rw [← hn] at hfew
    have HFS : Hid (Z.map RE.fl = s.fs) := hz.fs
    have HOF : Hid (s.off = false) := ho
    unfold maxLen at hc2
    clear hz hn hP ho
    go_enter Try.func37, Try.ntmps37
    go_upto_if 12 with fail
    go_cut [1] (fun v1 wA => v1 = .int .i64 (P : Int) ∧ wA = w)
    case first =>
      by_cases hpz : part < 0
      · go_wp2_with fail
        go_meet
        case rel => exact ⟨by rw [HPP.out.1 hpz]; rfl, rfl⟩
      · go_wp2_with fail
        go_meet
        case rel => exact ⟨by rw [HPP.out.2.1 hpz], rfl⟩
    case rest =>
      obtain ⟨rfl, rfl⟩ := hcut
      rename World => w0
      go_wp2_with fail
      go_loopg [4, 5, 6] n (fun kx v4 _ _ wr => ∃ (i : Nat) (F' : Nat → Prop) (Z' : List RE), v4 = .int .i64 (i : Int) ∧ i ≤ n ∧ n - i ≤ kx ∧ Hid (n = Z'.length) ∧ Hid (RZ wr r F' N { s with fs := (s.fs.take i).map (cutF part) ++ s.fs.drop i } (.slice a n cap) Z') ∧ Hid (∀ j, F' j → F j ∨ w0.heap.size ≤ j) ∧ Hid (Fr F w0 wr))
      case atStart => exact ⟨0, F, Z, rfl, Nat.zero_le _, Nat.le_refl _, HN, by apply hide; simpa using HZ0.out, fun _ h => .inl h, Fr.refl _ _⟩
      case round =>
        obtain ⟨i, F1, Z1, rfl, hi, hkx, HN1, HZ, HF1, HFr⟩ := hrel
        by_cases hlt : i < n
        · have hltz : (i : Int) < (n : Int) := by omega
          have hil : i < Z1.length := by have := HN1.out; omega
          have hz := HZ.out
          have b0 : wr.cell? ⟨r, 0, none⟩ = some (.slice a n cap) := BxA.cell hz.b 0 _ rfl
          obtain ⟨a', c', hLe, -, -, hcs⟩ := hz.cells
          simp only [Value.slice.injEq] at hLe
          obtain ⟨rfl, hnl, rfl⟩ := hLe
          obtain ⟨g, rfl, hx⟩ := hcs (by omega)
          obtain ⟨x0, x1, x2, xf⟩ := hx i hil
          have xf1 := xf 1
          have xf2 := xf 2
          obtain ⟨q1, q2, q3⟩ := hz.e _ (List.getElem_mem hil)
          have q4 := hz.nb _ (List.getElem_mem hil)
          have hfi : i < s.fs.length := by rw [← HFS.out, List.length_map]; have := HN.out; omega
          have HFE : Hid ((Z1[i]'hil).fl = s.fs[i]'hfi) := by
            apply hide
            have := hz.fs
            have h2 : (Z1.map RE.fl)[i]? = ((s.fs.take i).map (cutF part) ++ s.fs.drop i)[i]? := by rw [this]
            rw [List.getElem?_map, List.getElem?_eq_getElem hil, List.getElem?_append_right (by simp; omega), List.length_map, List.length_take, Nat.min_eq_left (by omega), Nat.sub_self, List.getElem?_drop, Nat.add_zero, List.getElem?_eq_getElem hfi] at h2
            simpa using h2
          obtain ⟨e, he⟩ : ∃ e, e = Z1[i] := ⟨_, rfl⟩
          rw [← he] at x0 x1 x2 q1 q3 q4
          have HE : Hid (e = Z1[i]'hil) := he
          obtain ⟨enm, ev, ebs, esy⟩ := e
          simp only at x0 x1 x2 q1 q3 q4
          obtain ⟨va, vc, rfl⟩ : ∃ a c, ev = .slice a ebs.length c := by obtain ⟨a, c, e, _⟩ := q1.reads; exact ⟨_, _, e⟩
          obtain ⟨K, hK1, hK2, hK3⟩ : ∃ K : Nat, K = esy + min P (ebs.length - esy) ∧ K ≤ ebs.length ∧ esy ≤ K := ⟨_, rfl, by omega, by omega⟩
          have HCT : Hid (cutF part (s.fs[i]'hfi) = ⟨enm, ebs.take K, K⟩) := by
            apply hide
            rw [← HFE.out, ← HE.out]
            unfold cutF
            simp only [RE.fl, HCK.out]
            rw [← hK1]
          have HRT : Hid (RdsK 1 wr (.slice va K vc) K (bv (ebs.take K))) := by
            apply hide
            have hh := (Reads.cutR q1.reads K hK2).k
            rwa [List.length_take, Nat.min_eq_left hK2] at hh
          have hvc : ebs.length ≤ vc ∧ vc ≤ 2 ^ 63 - 1 := by
            obtain ⟨a', c', e', z1, z2, -⟩ := q1.reads
            simp only [Value.slice.injEq, true_and] at e'
            obtain ⟨-, rfl⟩ := e'
            exact ⟨z1, z2⟩
          have HW1 : Hid (wrap64 ((i : Int) + 1) = (i : Int) + 1) := by apply hide; rw [← IntWalk.i64_left, IntKind.wrap_i64]; omega
          have HQ : Hid (0 + K ≤ maxLen ∧ ((0 + K) + (0 + K) / 4 + 192) * 1 ≤ 281474976710656) := by apply hide; unfold maxLen; omega
          have HKL : Hid (K ≤ ebs.length ∧ K ≤ N) := by apply hide; omega
          have HRG : Hid (r ≠ g) := hz.rg
          have HK1 : Hid (K = esy + min P (ebs.length - esy) ∧ esy ≤ ebs.length) := ⟨hK1, q3⟩
          clear hcs hx xf he q1 q2 HFE hnl hK1 hK3
          go_upto_if 42 with fail
          rename World => w7
          go_cut [5] (fun v5 wA => v5 = .int .i64 (K : Int) ∧ wA = w7)
          case first =>
            by_cases hq : (P : Int) < (ebs.length : Int) - (esy : Int)
            · have HK4 : Hid ((esy : Int) + (P : Int) = (K : Int)) := by apply hide; have := HK1.out; omega
              go_wp2_with fail
              go_meet
              case rel => exact ⟨by rw [← HK4.out], rfl⟩
            · have HK4 : Hid (K = ebs.length) := by apply hide; have := HK1.out; omega
              go_wp2_with fail
              go_meet
              case rel => exact ⟨by rw [HK4.out], rfl⟩
          case rest =>
            obtain ⟨rfl, rfl⟩ := hcut
            rename World => w8
            have hKz : (0 : Int) ≤ (K : Int) := by omega
            have hKc : (K : Int) ≤ (vc : Int) := by omega
            go_wp2_with (first | (at_builtin; refine wpList_appF rfl _ _ 29 rfl 0 5 i0 (.int .u8 0) 1 1 Try.underlying29 hi0 hz0 hz1 hz2 rfl (by decide) (.slice none 0 0) 0 [] rfl ⟨rfl, .inl ⟨rfl, rfl⟩⟩ (.slice va K vc) K (bv (ebs.take K)) rfl HRT.out (bv_one _) HQ.out.1 HQ.out.2 (Nat.zero_le _) ?_; intro v9 w9 o9 g9 p9; obtain ⟨xa9, xc9, hx9⟩ := own_sl o9; rw [Nat.zero_add] at hx9; subst hx9; have HO9 : Hid (Owns w9 0 (.slice xa9 K xc9) (ebs.take K)) := (by apply hide; unfold Owns; rw [List.length_take, Nat.min_eq_left HKL.out.1]; rw [Nat.zero_add, List.nil_append] at o9; exact o9); have HG9 : Hid (w8.grownBy w9 none) := g9; have HV9 : Hid (∀ b, Value.ownBlock (.slice xa9 K xc9) = some b → w8.heap.size ≤ b) := (fun b hb => (by rcases p9 with q | ⟨g2, q, hg2⟩; (rw [q] at hb; cases hb); (rw [q] at hb; injection hb with hb; omega))); clear o9 g9 p9; have HB9 : Hid (RowKit.Below w8.heap.size w8 w9) := ⟨HG9.out.os, HG9.out.tape, HG9.out.output, HG9.out.size, fun i hi => HG9.out.block i hi (by simp)⟩; have b9 : w9.cell? ⟨r, 0, none⟩ = some (.slice (some ⟨g, 0, none⟩) n cap) := (by rw [HB9.out.cell (World.block_lt_of_cell? _ _ b0), b0]); have y1 : w9.cell? ⟨g, i * 3 + 1, none⟩ = some (.slice va ebs.length vc) := (by rw [HB9.out.cell (World.block_lt_of_cell? _ _ x1), x1]); have y2 : w9.cell? ⟨g, i * 3 + 2, none⟩ = some (.int .i64 (esy : Int)) := (by rw [HB9.out.cell (World.block_lt_of_cell? _ _ x2), x2]); have fz1 : w9.frozen? ⟨g, i * 3 + 1, none⟩ = false := (by rw [HB9.out.frozen (World.block_lt_of_cell? _ _ x1)]; exact xf1); have s0 : (w9.setCell ⟨g, i * 3 + 1, none⟩ (.slice xa9 K xc9)).cell? ⟨r, 0, none⟩ = some (.slice (some ⟨g, 0, none⟩) n cap) := (by rw [World.cell?_setCell_other (h := fun q => HRG.out (congrArg Addr.block q).symm)]; exact b9); have s2 : (w9.setCell ⟨g, i * 3 + 1, none⟩ (.slice xa9 K xc9)).cell? ⟨g, i * 3 + 2, none⟩ = some (.int .i64 (esy : Int)) := (by rw [World.cell?_setCell_other (h := fun q => (by have q' : i * 3 + 1 = i * 3 + 2 := congrArg Addr.off q; omega))]; exact y2); have fz2 : (w9.setCell ⟨g, i * 3 + 1, none⟩ (.slice xa9 K xc9)).frozen? ⟨g, i * 3 + 2, none⟩ = false := (by rw [World.frozen?_setCell, HB9.out.frozen (World.block_lt_of_cell? _ _ x2)]; exact xf2)))
            go_wp2_with fail
            go_roundg (n - (i + 1))
            case measure => exact Nat.lt_of_lt_of_le (Nat.sub_lt_sub_left hlt (Nat.lt_succ_self i)) hkx
            case rel =>
              have hz1 := HZ.out
              have hnl : n = Z1.length := HN1.out
              have hil1 : i < Z1.length := by omega
              have hz2 : RZ w8 r F1 N { s with fs := (s.fs.take i).map (cutF part) ++ s.fs.drop i } (.slice (some ⟨g, 0, none⟩) Z1.length cap) Z1 := by rw [← hnl]; exact hz1
              have hf := hz2.file i hil1 (.slice xa9 K xc9) (ebs.take K) K HG9.out HO9.out HV9.out (by rw [List.length_take]; have := HKL.out; omega) (by rw [List.length_take]; have := HKL.out; omega)
              have hnm : (Z1[i]'hil1).nm = enm := by rw [← HE.out]
              rw [hnm] at hf
              have hfi2 : i < s.fs.length := by rw [← HFS.out, List.length_map, ← HN.out]; exact hlt
              have hct : ({ s with fs := ((s.fs.take i).map (cutF part) ++ s.fs.drop i).set i ⟨enm, ebs.take K, K⟩ } : RSt) = { s with fs := (s.fs.take (i + 1)).map (cutF part) ++ s.fs.drop (i + 1) } := by
                rw [← HCT.out, cut_take s.fs part i hfi2]
              refine ⟨i + 1, (fun j => F1 j ∨ Value.ownBlock (.slice xa9 K xc9) = some j), Z1.set i ⟨enm, .slice xa9 K xc9, ebs.take K, K⟩, by first | (rw [HW1.out]; rfl) | rfl, hlt, Nat.le_refl _, ?_, ?_, ?_, ?_⟩
              rotate_left
              · apply hide
                have hq : RZ _ r _ N ({ s with fs := ((s.fs.take i).map (cutF part) ++ s.fs.drop i).set i ⟨enm, ebs.take K, K⟩ } : RSt) _ _ := hf
                rw [hct, ← hnl] at hq
                exact hq
              · apply hide
                intro j hj
                rcases hj with hj | hj
                · exact HF1.out j hj
                · right
                  have := HV9.out j hj
                  have := HFr.out.size
                  omega
              · apply hide
                have gA : Fr F w0 w9 := HFr.out.trans (Fr.of_below (F := F) HB9.out) fun _ _ h => h
                have hFg : F g ∨ w0.heap.size ≤ g := HF1.out g (hz1.fl g rfl)
                refine (gA.trans (Fr.of_grown (F := fun j => F j ∨ w0.heap.size ≤ j) grown_setCell fun j hj => .inl (by cases hj; exact hFg)) fun j hj h => ?_).trans (Fr.of_grown (F := fun j => F j ∨ w0.heap.size ≤ j) grown_setCell fun j hj => .inl (by cases hj; exact hFg)) fun j hj h => ?_
                · rcases h with h | h
                  · exact h
                  · omega
                · rcases h with h | h
                  · exact h
                  · omega
              · apply hide
                rw [List.length_set]
                exact hnl
        · have hltz : ¬ (i : Int) < (n : Int) := by omega
          have hz := HZ.out
          have b1 : wr.cell? ⟨r, 1, none⟩ = some (.bool false) := by
            have := BxA.cell hz.b 1 _ rfl
            have e : s.off = false := HOF.out
            rw [this]
            show some (Value.bool s.off) = _
            rw [e]
          have b0 : wr.cell? ⟨r, 0, none⟩ = some (.slice a n cap) := BxA.cell hz.b 0 _ rfl
          have f1 := BxA.free hz.b 1
          have HBS : Hid (BxA (wr.setCell ⟨r, 1, none⟩ (.bool true)) r 34 #[.slice a n cap, .bool true, .int .i64 (s.n : Int), .int .i64 s.at_, .int .i64 s.part]) := BxA.set hz.b 1 (.bool true)
          clear hz
          go_wp2_with fail
          go_end0
          refine ⟨rfl, ⟨F1, ⟨.slice a n cap, Z1, ?_⟩, HF1.out⟩, ?_⟩
          · have hz := HZ.out
            have hin : i = n := by omega
            have hsl : s.fs.length ≤ i := by rw [← HFS.out, List.length_map, ← HN.out]; omega
            have e1 : (s.fs.take i).map (cutF part) ++ s.fs.drop i = s.fs.map (cutF part) := by rw [List.take_of_length_le hsl, List.drop_eq_nil_of_le hsl, List.append_nil]
            have e2 : rcut s part = { s with fs := s.fs.map (cutF part), off := true } := by unfold rcut; rw [HOF.out]; rfl
            rw [e2]
            exact hz.boxn (s' := { s with fs := s.fs.map (cutF part), off := true }) (Lv' := .slice a n cap) 1 (.bool true) HBS.out e1.symm hz.nn
          · exact HFr.out.trans (Fr.of_grown grown_setCell fun j hj => .inl (by cases hj; exact HZ0.out.f)) fun _ _ h => h
end Go.Proofs.Ytdcoeebpknipdaa
