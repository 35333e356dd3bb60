/- What the texts of fact hold, over this program's numbers. -/
import Derived.Test.YtkoihniggoelnaaFa1
namespace Go.Proofs.Ytkoihniggoelnaa.Fa
open Go.RowKit Go.Sort

theorem RdsM.pre {w : World} {b off n cap : Nat} {l : List En} (h : RdsM w (.slice (some ⟨b, off, none⟩) n cap) l) {k : Nat} (hk : k ≤ l.length) : RdsM w (.slice (some ⟨b, off, none⟩) k cap) (l.take k) := by
  have := h.part (Nat.zero_le k) hk
  simpa using this
theorem RdsM.post {w : World} {b off n cap : Nat} {l : List En} (h : RdsM w (.slice (some ⟨b, off, none⟩) n cap) l) {k : Nat} (hk : k ≤ l.length) : RdsM w (.slice (some ⟨b, off + k * 4, none⟩) (n - k) (cap - k)) (l.drop k) := by
  have := h.part hk (Nat.le_refl _)
  rw [List.take_length] at this
  have hn := h.len.1
  rw [hn]; exact this
theorem RdsM.none {w : World} (ad : Addr) (c : Nat) (hc : c ≤ maxLen) : RdsM w (.slice (some ad) 0 c) [] :=
  ⟨⟨some ad, c, rfl, rfl, Nat.zero_le _, hc, (fun h => by cases h), (fun _ _ j u hj => by simp [ev] at hj)⟩, (fun _ h => by cases h)⟩
theorem RdsM.one_ev {w : World} {v : Value} {l : List En} (h : RdsM w v l) : ∀ u ∈ ev l, u.oneCell' = true := ev_one h.ok

/-- append of a row of one's own, as one step of a region that draws. -/
theorem step_appK {P : Program} {ops : Array Oper} {o : Oper} {a : Act} {w : World} {K : Act → World → Prop} {Q : Exit → Act → World → Prop} {E : Prop} (hgd : o.guard = none) (s x : Operand) (t : TypeId)
    (ho : o.op = .call { callee := .builtin .append, args := #[s, x], argTypes := #[t, t] })
    (base : Nat) (e : TypeId) (i : TypeInfo) (z : Value) (size bytes : Nat) (ht : P.underlying t = some (.slice e)) (hi : P.info? e = some i) (hz : i.zero = some z)
    (hsize : i.size = size) (hby : i.bytes = bytes) (hzs : z.cells.size = size) (hsz : 0 < size)
    (v : Value) (n : Nat) (xs : List Value) (hs : a.eval s = v) (hown : w.ownsRow base e size v n xs)
    (ad : Addr) (m c : Nat) (news : List Value) (hx : a.eval x = .slice (some ad) m c) (hr : RdsK size w (.slice (some ad) m c) m news) (h1 : ∀ u ∈ news, u.oneCell' = true)
    (h63 : n + m ≤ maxLen) (hbytes : ((n + m) + (n + m) / 4 + 192) * bytes ≤ 281474976710656) (hbase : base ≤ w.heap.size)
    (h : ∀ v' w', w'.ownsRow base e size v' (n + m) (xs ++ news) → w.grownBy w' v.ownBlock → K (a.put o.dst v') w') :
    if Region.wanted o (yielded ops a.tmps) = true then Oper.wp P o a w K Q else E := by
  have hw : Region.wanted o (yielded ops a.tmps) = true := by simp [Region.wanted, hgd]
  rw [if_pos hw]
  obtain ⟨ao, cap, he, h0, h2, h3, h4, h5⟩ := hr
  cases he
  exact wp_append_own_wide w s x t ho base e i z size bytes ht hi hz hsize hby hzs hsz v n xs hs hown ad m c news hx h0 (h5 ad rfl) h1 h63 hbytes hbase fun v' w' k1 k2 _ => h v' w' k1 k2

set_option maxRecDepth 100000 in
set_option maxHeartbeats 4000000 in
theorem put_any (w : World) (vb : Value) (l : List En) (f : Fc) (n : Nat) (hb : RdsM w vb l) (hf : f.Ok w) (hn : n < two64) (hbig : l.length ≤ 1000) :
    Calls Try.prog 30 #[vb, .agg #[.int .i64 f.t, f.dv, f.mv], .int .u64 n] w fun e w' => ∃ v', e = .returned v' ∧ RdsM w' v' (putL l f n) ∧ Below w.heap.size w w' := by
  obtain ⟨i0, hi, hy0, hy1, hy2⟩ := info_parts Try.info_many
  obtain ⟨ab, nb, cb, rfl⟩ := hb.sl
  obtain ⟨hnb, b1, b2⟩ := hb.len
  unfold maxLen at b2
  obtain ⟨aD, nD, cD, hD⟩ := hf.rd.sl
  obtain ⟨aM, nM, cM, hM⟩ := hf.rm.sl
  obtain ⟨W, hW⟩ : ∃ W, W = w.alloc (.cells #[.int .i64 f.t, f.dv, f.mv] 47) := ⟨_, rfl⟩
  have bW : Below w.heap.size w W := by rw [hW]; exact (Below.refl _ _).alloc (Nat.le_refl _) _
  have hbox : ∀ w5, Below W.heap.size W w5 → w5.cell? ⟨w.heap.size, 0, none⟩ = some (.int .i64 f.t) ∧ w5.cell? ⟨w.heap.size, 1, none⟩ = some f.dv ∧ w5.cell? ⟨w.heap.size, 2, none⟩ = some f.mv := fun w5 h5 => by
    have hlt5 : w.heap.size < W.heap.size := by rw [hW]; simp
    refine ⟨?_, ?_, ?_⟩ <;> (rw [h5.cell (by exact hlt5), hW]; simp)
  rw [hD, hM] at hW ⊢
  have HBX : Aside _ := hbox
  have HB : Hid (RdsM W (.slice ab nb cb) l) := hb.below bW
  have HF : Hid (f.Ok W) := hf.below bW
  have HBW : Hid (Below w.heap.size w W) := bW
  have HN : Hid (nb = l.length) := hnb
  have HD : Hid (f.dv = .slice aD nD cD ∧ f.mv = .slice aM nM cM) := ⟨hD, hM⟩
  have hn1 : nb ≤ 1000 := by omega
  have hnl : n < 18446744073709551616 := hn
  have hwn : IntKind.u64.wrap (n : Int) = (n : Int) := by have := wrap_add n 0; rw [Nat.add_zero, Nat.mod_eq_of_lt hn] at this; simpa using this
  have HW : Hid _ := hW
  have mixed := (show Try.prog.follows .mixedOrders = true by kernel_rfl)
  clear hb hf bW hnb hD hM hbig hW hbox
  go_enter Try.func30, Try.ntmps30
  go_upto_block 0 with fail
  rw [← HW.out]
  go_cut [7] (fun vk wx => ∃ k : Nat, vk = .int .i64 k ∧ k ≤ nb ∧ Hid (∀ j, j < k → cmpF (l.getD j en0).f.ft f.ft < 0) ∧ Hid (k < nb → ¬ cmpF (l.getD k en0).f.ft f.ft < 0) ∧ Hid (Below W.heap.size W wx))
  case first =>
    go_wp2_with fail
    go_loopg [7] nb (fun kx vi wr => ∃ k : Nat, vi = .int .i64 k ∧ k ≤ nb ∧ nb - k ≤ kx ∧ Hid (∀ j, j < k → cmpF (l.getD j en0).f.ft f.ft < 0) ∧ Hid (Below W.heap.size W wr))
    case atStart => exact ⟨0, rfl, by omega, Nat.le_refl _, fun j hj => by omega, Below.refl _ _⟩
    case round =>
      obtain ⟨k, rfl, hk, hkx, HK, HBel⟩ := hrel
      by_cases hlt : k < nb
      · have hltz : (k : Int) < (nb : Int) := by omega
        have hkl : k < l.length := by have := HN.out; omega
        have rb := RdsM.below HB.out HBel.out
        obtain ⟨-, -, -, p1, o1, rfl, c1⟩ := rb.at (by omega)
        obtain ⟨x0, x1, x2, x3⟩ := c1 k hkl
        obtain ⟨y0, y1, y2⟩ := HBX.out wr HBel.out
        rw [HD.out.1] at y1
        rw [HD.out.2] at y2
        have ox := rb.ok l[k] (List.getElem_mem hkl)
        have HX : Hid (l.getD k en0 = l[k]) := getD_en l k hkl
        generalize l[k] = x at *
        have of := HF.out.below HBel.out
        have kc : ∀ nq os, Calls Try.prog 34 #[.agg #[.int .i64 x.f.t, x.f.dv, x.f.mv], .agg #[.int .i64 f.t, f.dv, f.mv]] (grow (wr.drewN nq) os) fun e w' => e = .returned (.int .i64 (cmpF x.f.ft f.ft)) ∧ ∃ q os', w' = grow ((grow (wr.drewN nq) os).drewN q) os' := fun nq os =>
          refcmp_any (grow (wr.drewN nq) os) x.f f (ox.f.below (below_grown_sl _ wr nq os (Nat.le_refl _))) (of.below (below_grown_sl _ wr nq os (Nat.le_refl _)))
        rw [HD.out.1, HD.out.2] at kc
        have x0' := fun nq os => cell_gr x0 nq os
        have x1' := fun nq os => cell_gr x1 nq os
        have x2' := fun nq os => cell_gr x2 nq os
        have y0' := fun nq os => cell_gr y0 nq os
        have y1' := fun nq os => cell_gr y1 nq os
        have y2' := fun nq os => cell_gr y2 nq os
        clear x0 x1 x2 x3 y0 y1 y2 c1 rb ox of
        obtain ⟨C, hC⟩ : ∃ C, C = cmpF x.f.ft f.ft := ⟨_, rfl⟩
        rw [← hC] at kc
        have HC : Hid _ := hC
        clear hC
        generalize x.f.t = tx at *
        generalize x.f.dv = dx at *
        generalize x.f.mv = mx at *
        by_cases hC : C < 0
        · have hCb : decide (C < 0) = true := decide_eq_true hC
          go_wp2_with fail
          go_quiet_grown (first | (go_at_call 34; refine Calls.grown_of (kc _ _)))
          go_wp2_with fail
          go_roundg (nb - (k + 1))
          case measure => omega
          case rel =>
            refine ⟨k + 1, by go_num, by omega, Nat.le_refl _, fun j hj => ?_, HBel.out.trans (below_grown_sl _ wr nq osq HBel.out.size)⟩
            by_cases hjk : j = k
            · subst hjk
              rw [HX.out, ← HC.out]
              exact hC
            · exact HK.out j (by omega)
        · have hCb : decide (C < 0) = false := decide_eq_false hC
          go_wp2_with fail
          go_quiet_grown (first | (go_at_call 34; refine Calls.grown_of (kc _ _)))
          go_wp2_with fail
          go_meet
          case rel => exact ⟨k, rfl, by omega, HK.out, fun _ => by rw [HX.out, ← HC.out]; exact hC, HBel.out.trans (below_grown_sl _ wr nq osq HBel.out.size)⟩
      · have hltz : ¬ (k : Int) < (nb : Int) := by omega
        have hltb : decide ((k : Int) < (nb : Int)) = false := decide_eq_false hltz
        go_wp2_with fail
        go_quiet (fail)
        go_wp2_with fail
        go_meet
        case rel => exact ⟨k, rfl, hk, HK.out, fun h => by omega, below_dN HBel.out nq⟩
  case rest =>
    rename World => w0
    obtain ⟨k, rfl, hk, HK, HC, HBel⟩ := hcut
    have rb := RdsM.below HB.out HBel.out
    have bwc : Below w.heap.size w w0 := HBW.out.trans (HBel.out.mono HBW.out.size)
    have hkc : (k : Int) ≤ (cb : Int) := by omega
    have hza : ∀ m : Nat, m ≤ 2000 → m ≤ maxLen := fun m hm => by unfold maxLen; omega
    have hzb : ∀ m : Nat, m ≤ 2000 → (m + m / 4 + 192) * 64 ≤ 281474976710656 := fun m hm => by omega
    have HBwc : Hid (Below w.heap.size w w0) := bwc
    by_cases hlt : k < nb
    · have hltz : (k : Int) < (nb : Int) := by omega
      have hkl : k < l.length := by have := HN.out; omega
      have HR : Hid (RdsM w0 (.slice ab nb cb) l) := rb
      obtain ⟨-, -, -, p1, o1, rfl, -⟩ := rb.at (by omega)
      have HP : Hid (RdsK 4 w0 (.slice (some ⟨p1, o1, none⟩) k cb) k (ev (l.take k))) := by
        have := (rb.pre (k := k) (by omega)).r
        rwa [List.length_take, Nat.min_eq_left (by omega)] at this
      have HP1 : Aside (∀ u ∈ ev (l.take k), u.oneCell' = true) := (rb.pre (k := k) (by omega)).one_ev
      have hz1 := hza (0 + k) (by omega)
      have hz2 := hzb (0 + k) (by omega)
      clear rb bwc
      go_upto_region 6 with (first
        | (at_builtin; refine wpList_appK rfl _ _ 36 rfl w0.heap.size 49 i0 (.agg #[.int .i64 0, .slice none 0 0, .slice none 0 0, .int .u64 0]) 4 64 Try.underlying36 hi hy0 hy1 hy2 rfl (by decide) _ _ _ rfl (World.ownsRow_nil w0 w0.heap.size 49 4) _ _ _ rfl HP.out HP1.out hz1 hz2 (Nat.le_refl _) ?_; intro v1 w1 hown1 hgrow1 hnil1))
      rw [Nat.zero_add, List.nil_append] at hown1
      have b01 : Below w0.heap.size w0 w1 := (Below.refl _ _).grown hgrow1 (Nat.le_refl _) (fun j hj => by cases hj)
      have r1 := RdsM.below HR.out b01
      obtain ⟨-, -, -, p1', o1', hpe, c1⟩ := r1.at (by omega)
      simp only [Option.some.injEq, Addr.mk.injEq, and_true] at hpe
      obtain ⟨rfl, rfl⟩ := hpe
      obtain ⟨x0, x1, x2, x3⟩ := c1 k hkl
      have bW1 : Below W.heap.size W w1 := HBel.out.trans (b01.mono HBel.out.size)
      obtain ⟨y0, y1, y2⟩ := HBX.out w1 bW1
      rw [HD.out.1] at y1
      rw [HD.out.2] at y2
      have ox := r1.ok l[k] (List.getElem_mem hkl)
      have HX : Hid (l.getD k en0 = l[k]) := getD_en l k hkl
      generalize l[k] = x at *
      have of := HF.out.below bW1
      have kc : ∀ nq os, Calls Try.prog 34 #[.agg #[.int .i64 x.f.t, x.f.dv, x.f.mv], .agg #[.int .i64 f.t, f.dv, f.mv]] (grow (w1.drewN nq) os) fun e w' => e = .returned (.int .i64 (cmpF x.f.ft f.ft)) ∧ ∃ q os', w' = grow ((grow (w1.drewN nq) os).drewN q) os' := fun nq os =>
        refcmp_any (grow (w1.drewN nq) os) x.f f (ox.f.below (below_grown_sl _ w1 nq os (Nat.le_refl _))) (of.below (below_grown_sl _ w1 nq os (Nat.le_refl _)))
      rw [HD.out.1, HD.out.2] at kc
      have x0' := fun nq os => cell_gr x0 nq os
      have x1' := fun nq os => cell_gr x1 nq os
      have x2' := fun nq os => cell_gr x2 nq os
      have y0' := fun nq os => cell_gr y0 nq os
      have y1' := fun nq os => cell_gr y1 nq os
      have y2' := fun nq os => cell_gr y2 nq os
      have hxn := ox.n
      have HX3 : Hid (w1.cell? ⟨p1, o1 + k * 4 + 3, none⟩ = some (.int .u64 x.n) ∧ w1.cell? ⟨w.heap.size, 0, none⟩ = some (.int .i64 f.t) ∧ w1.cell? ⟨w.heap.size, 1, none⟩ = some (.slice aD nD cD) ∧ w1.cell? ⟨w.heap.size, 2, none⟩ = some (.slice aM nM cM)) := ⟨x3, y0, y1, y2⟩
      clear x0 x1 x2 x3 y0 y1 y2 c1 r1 ox of
      obtain ⟨C, hCe⟩ : ∃ C, C = cmpF x.f.ft f.ft := ⟨_, rfl⟩
      rw [← hCe] at kc
      have HCe : Hid _ := hCe
      clear hCe
      generalize x.f.t = tx at *
      generalize x.f.dv = dx at *
      generalize x.f.mv = mx at *
      obtain ⟨N, hN⟩ : ∃ N, N = x.n := ⟨_, rfl⟩
      rw [← hN] at HX3 hxn
      have HNx : Hid _ := hN
      clear hN
      have HO1 : Hid _ := hown1
      have HB1 : Hid (Below w.heap.size w w1) := HBwc.out.trans (b01.mono HBwc.out.size)
      obtain ⟨av, nv, cv, rfl⟩ := own_sl hown1
      have hwc1 : w0.heap.size ≤ w1.heap.size := b01.size
      have HB01 : Hid (Below w0.heap.size w0 w1) := b01
      clear hown1 hgrow1 hnil1 b01 bW1 hz1 hz2 HP HP1
      go_cut [43] (fun t wx => t = .bool (decide (C = 0)) ∧ Below w1.heap.size w1 wx)
      case first =>
        by_cases hC : C = 0
        · have hCb : (C == 0) = true := by simp [hC]
          go_quiet_grown (first | (go_at_call 34; refine Calls.grown_of (kc _ _)))
          go_wp2_with fail
          go_meet
          case rel => exact ⟨by simp [hC], below_grown_sl _ w1 nq osq (Nat.le_refl _)⟩
        · have hCb : (C == 0) = false := by simp [hC]
          go_quiet_grown (first | (go_at_call 34; refine Calls.grown_of (kc _ _)))
          go_wp2_with fail
          go_meet
          case rel => exact ⟨by simp [hC], below_grown_sl _ w1 nq osq (Nat.le_refl _)⟩
      rename World => w2
      obtain ⟨rfl, b12⟩ := hcut
      have HO2 : Hid (w2.ownsRow w0.heap.size 49 4 (.slice av nv cv) k (ev (l.take k))) := own_below HO1.out b12
      have HB2 : Hid (Below w.heap.size w w2) := HB1.out.trans (b12.mono HB1.out.size)
      have HBwx : Hid (Below w0.heap.size w0 w2) := HB01.out.trans (b12.mono hwc1)
      have hwc2 : w0.heap.size ≤ w2.heap.size := Nat.le_trans hwc1 b12.size
      obtain ⟨q3, q0, q1, q2⟩ := HX3.out
      have x3 : w2.cell? ⟨p1, o1 + k * 4 + 3, none⟩ = some (.int .u64 N) := by rw [b12.cell (World.block_lt_of_cell? _ _ q3)]; exact q3
      have y0 : w2.cell? ⟨w.heap.size, 0, none⟩ = some (.int .i64 f.t) := by rw [b12.cell (World.block_lt_of_cell? _ _ q0)]; exact q0
      have y1 : w2.cell? ⟨w.heap.size, 1, none⟩ = some (.slice aD nD cD) := by rw [b12.cell (World.block_lt_of_cell? _ _ q1)]; exact q1
      have y2 : w2.cell? ⟨w.heap.size, 2, none⟩ = some (.slice aM nM cM) := by rw [b12.cell (World.block_lt_of_cell? _ _ q2)]; exact q2
      clear q0 q1 q2 q3 b12 x0' x1' x2' y0' y1' y2' kc HO1 HB1 HX3
      by_cases hC : C = 0
      · have hCb : decide (C = 0) = true := by simp [hC]
        rw [hCb]
        clear hCb
        obtain ⟨M, hMe⟩ : ∃ M, M = (N + n) % two64 := ⟨_, rfl⟩
        have hM := wrap_add N n
        rw [← hMe] at hM
        have HM : Hid _ := hMe
        clear hMe
        go_upto_region 7 with fail
        have HOW : Aside (∀ w3, Below w2.heap.size w2 w3 → w3.ownsRow w0.heap.size 49 4 (.slice av nv cv) k (ev (l.take k))) := fun w3 h3 => own_below HO2.out h3
        have hz3 := hza (k + 1) (by omega)
        have hz4 := hzb (k + 1) (by omega)
        have hVb : Below w2.heap.size w2 (w2.alloc (.cells #[.int .i64 f.t, .slice aD nD cD, .slice aM nM cM, .int .u64 M] 49)).drew := below_dN ((Below.refl _ _).alloc (Nat.le_refl _) _) 1
        have HVR : Hid (RdsK 4 (w2.alloc (.cells #[.int .i64 f.t, .slice aD nD cD, .slice aM nM cM, .int .u64 M] 49)).drew (.slice (some ⟨w2.heap.size, 0, none⟩) 1 1) 1 (ev [⟨f, M⟩])) := by
          have h1 := one_rds w2 ⟨f, M⟩ _ rfl
          simp only at h1
          rw [HD.out.1, HD.out.2] at h1
          exact RdsK.below h1 (below_dN (Below.refl _ _) 1)
        have HV1 : Aside (∀ u ∈ ev [(⟨f, M⟩ : En)], u.oneCell' = true) := by
          intro u hu
          have hfo := HF.out
          exact ev_one (w := W) (l := [⟨f, M⟩]) (fun e he => by simp only [List.mem_singleton] at he; subst he; exact ⟨hfo, (by rw [HM.out]; exact Nat.mod_lt _ (by decide))⟩) u hu
        have hVs : w0.heap.size ≤ (w2.alloc (.cells #[.int .i64 f.t, .slice aD nD cD, .slice aM nM cM, .int .u64 M] 49)).drew.heap.size := Nat.le_trans hwc2 hVb.size
        have HVB : Hid (Below w2.heap.size w2 (w2.alloc (.cells #[.int .i64 f.t, .slice aD nD cD, .slice aM nM cM, .int .u64 M] 49)).drew) := hVb
        have HVS : Hid _ := hVs
        have HOV : Hid ((w2.alloc (.cells #[.int .i64 f.t, .slice aD nD cD, .slice aM nM cM, .int .u64 M] 49)).drew.ownsRow w0.heap.size 49 4 (.slice av nv cv) k (ev (l.take k))) := own_below HO2.out hVb
        have HZ3 : Hid (k + 1 ≤ maxLen ∧ ((k + 1) + (k + 1) / 4 + 192) * 64 ≤ 281474976710656) := ⟨hza (k + 1) (by omega), hzb (k + 1) (by omega)⟩
        clear hVb hVs HO2 hwc2
        have hokN : ∀ w5, Below w0.heap.size w0 w5 → ∀ e ∈ l.take k ++ [(⟨f, M⟩ : En)] ++ l.drop (k + 1), e.Ok w5 := fun w5 h5 e he => by
          have hfo := (HF.out.below HBel.out).below h5
          rcases List.mem_append.1 he with he | he
          · rcases List.mem_append.1 he with he | he
            · exact (HR.out.ok e (List.mem_of_mem_take he)).below h5
            · simp only [List.mem_singleton] at he
              subst he
              exact ⟨hfo, (by rw [HM.out]; exact Nat.mod_lt _ (by decide))⟩
          · exact (HR.out.ok e (List.mem_of_mem_drop he)).below h5
        have HOK : Aside _ := hokN
        clear hokN
        go_cut [8] (fun v8 wx => wx.ownsRow w0.heap.size 49 4 v8 (k + 1) (ev (l.take k ++ [⟨f, M⟩])) ∧ Below w0.heap.size w0 wx)
        case first =>
          go_wp2_with fail
          go_region_law (refine step_appK rfl (.tmp 44) (.tmp 54) 36 rfl w0.heap.size 49 i0 (.agg #[.int .i64 0, .slice none 0 0, .slice none 0 0, .int .u64 0]) 4 64 Try.underlying36 hi hy0 hy1 hy2 rfl (by decide) (.slice av nv cv) k (ev (l.take k)) rfl HOV.out _ 1 1 (ev [⟨f, M⟩]) rfl HVR.out HV1.out HZ3.out.1 HZ3.out.2 HVS.out ?_; intro v3 w3 hown3 hgrow3)
          all_goals
            go_wp2_with fail
            go_meet
            case rel => exact ⟨by rw [ev_app]; exact hown3, (HBwx.out.trans (HVB.out.mono HBwx.out.size)).grown hgrow3 HVS.out (fun j hj => (World.ownsRow.lt HOV.out j hj).1)⟩
        rename World => w3
        obtain ⟨hown3', bx3⟩ := hcut
        have r3 := RdsM.below HR.out bx3
        obtain ⟨a3, n3, c3, rfl⟩ := own_sl hown3'
        have HO3 : Hid (w3.ownsRow w0.heap.size 49 4 (.slice a3 n3 c3) (k + 1) (ev (l.take k ++ [⟨f, M⟩]))) := hown3'
        have hs3 : w0.heap.size ≤ w3.heap.size := bx3.size
        have HY3 : Hid _ := bx3
        have hkk : (k : Int) + 1 ≤ (cb : Int) := by omega
        have hkk2 : (k : Int) + 1 ≤ (nb : Int) := by omega
        have hz5 := hza (k + 1 + (nb - (k + 1))) (by omega)
        have hz6 := hzb (k + 1 + (nb - (k + 1))) (by omega)
        have hlen : (l.take k ++ [(⟨f, M⟩ : En)] ++ l.drop (k + 1)).length = k + 1 + (nb - (k + 1)) := by
          have := HN.out
          simp; omega
        have HL : Hid _ := hlen
        clear bx3 hown3' hlen
        by_cases hcc : cb = k + 1
        · have hnk : nb - (k + 1) = 0 := by omega
          have HP3 : Aside (∀ m c : Nat, m = 0 → c ≤ maxLen → RdsK 4 w3 (.slice (some ⟨p1, o1, none⟩) m c) m (ev (l.drop (k + 1)))) := fun m c hm hc => by
            have h1 := (RdsM.none (w := w3) ⟨p1, o1, none⟩ c hc).r
            have h2 : l.drop (k + 1) = [] := List.drop_eq_nil_of_le (by have := HN.out; omega)
            rw [h2, hm]; exact h1
          have HP4 : Aside (∀ u ∈ ev (l.drop (k + 1)), u.oneCell' = true) := ev_one fun e he => r3.ok e (List.mem_of_mem_drop he)
          have HNK : Hid (nb - (k + 1) = 0) := hnk
          have hzc : ∀ c : Nat, c ≤ k + 1 → c ≤ maxLen := fun c h => hza c (by omega)
          clear r3 hnk
          go_wp2_with (first
            | (at_builtin; refine wpList_appK rfl _ _ 36 rfl w0.heap.size 49 i0 (.agg #[.int .i64 0, .slice none 0 0, .slice none 0 0, .int .u64 0]) 4 64 Try.underlying36 hi hy0 hy1 hy2 rfl (by decide) _ _ _ rfl HO3.out _ _ _ rfl (HP3.out _ _ HNK.out (hzc _ (by omega))) HP4.out hz5 hz6 hs3 ?_; intro v4 w4 hown4 hgrow4 hnil4))
          go_ret
          have bx4 : Below w0.heap.size w0 w4 := HY3.out.grown hgrow4 hs3 (fun j hj => (World.ownsRow.lt HO3.out j hj).1)
          refine ⟨v4, rfl, ?_, HBwc.out.trans (bx4.mono HBwc.out.size)⟩
          rw [putL_eq l f n k hkl HK.out (by rw [HX.out, ← HCe.out]; exact hC), HX.out, ← HNx.out, ← HM.out]
          refine ⟨?_, HOK.out w4 bx4⟩
          rw [HL.out, ev_app]
          exact RdsK.of_own hown4
        · have HP3 : Hid (RdsK 4 w3 (.slice (some ⟨p1, o1 + (k + 1) * 4, none⟩) (nb - (k + 1)) (cb - (k + 1))) (nb - (k + 1)) (ev (l.drop (k + 1)))) := by
            have h1 := (r3.post (k := k + 1) (by have := HN.out; omega)).r
            have h2 : (l.drop (k + 1)).length = nb - (k + 1) := by have := HN.out; simp; omega
            rw [h2] at h1; exact h1
          have HP4 : Aside (∀ u ∈ ev (l.drop (k + 1)), u.oneCell' = true) := ev_one fun e he => r3.ok e (List.mem_of_mem_drop he)
          clear r3
          go_wp2_with (first
            | (at_builtin; refine wpList_appK rfl _ _ 36 rfl w0.heap.size 49 i0 (.agg #[.int .i64 0, .slice none 0 0, .slice none 0 0, .int .u64 0]) 4 64 Try.underlying36 hi hy0 hy1 hy2 rfl (by decide) _ _ _ rfl HO3.out _ _ _ rfl HP3.out HP4.out hz5 hz6 hs3 ?_; intro v4 w4 hown4 hgrow4 hnil4))
          go_ret
          have bx4 : Below w0.heap.size w0 w4 := HY3.out.grown hgrow4 hs3 (fun j hj => (World.ownsRow.lt HO3.out j hj).1)
          refine ⟨v4, rfl, ?_, HBwc.out.trans (bx4.mono HBwc.out.size)⟩
          rw [putL_eq l f n k hkl HK.out (by rw [HX.out, ← HCe.out]; exact hC), HX.out, ← HNx.out, ← HM.out]
          refine ⟨?_, HOK.out w4 bx4⟩
          rw [HL.out, ev_app]
          exact RdsK.of_own hown4
      · have hCb : decide (C = 0) = false := by simp [hC]
        rw [hCb]
        clear hCb
        have hVb : Below w2.heap.size w2 (w2.alloc (.cells #[.int .i64 f.t, .slice aD nD cD, .slice aM nM cM, .int .u64 n] 49)) := (Below.refl _ _).alloc (Nat.le_refl _) _
        have HVR : Hid (RdsK 4 (w2.alloc (.cells #[.int .i64 f.t, .slice aD nD cD, .slice aM nM cM, .int .u64 n] 49)) (.slice (some ⟨w2.heap.size, 0, none⟩) 1 1) 1 (ev [⟨f, n⟩])) := by
          have h1 := one_rds w2 ⟨f, n⟩ _ rfl
          simp only at h1
          rw [HD.out.1, HD.out.2] at h1
          exact h1
        have HV1 : Aside (∀ u ∈ ev [(⟨f, n⟩ : En)], u.oneCell' = true) := by
          intro u hu
          have hfo := HF.out
          exact ev_one (w := W) (l := [⟨f, n⟩]) (fun e he => by simp only [List.mem_singleton] at he; subst he; exact ⟨hfo, hn⟩) u hu
        have hVs : w0.heap.size ≤ (w2.alloc (.cells #[.int .i64 f.t, .slice aD nD cD, .slice aM nM cM, .int .u64 n] 49)).heap.size := Nat.le_trans hwc2 hVb.size
        have HVB : Hid (Below w2.heap.size w2 (w2.alloc (.cells #[.int .i64 f.t, .slice aD nD cD, .slice aM nM cM, .int .u64 n] 49))) := hVb
        have HVS : Hid _ := hVs
        have HOV : Hid ((w2.alloc (.cells #[.int .i64 f.t, .slice aD nD cD, .slice aM nM cM, .int .u64 n] 49)).ownsRow w0.heap.size 49 4 (.slice av nv cv) k (ev (l.take k))) := own_below HO2.out hVb
        have HZ3 : Hid (k + 1 ≤ maxLen ∧ ((k + 1) + (k + 1) / 4 + 192) * 64 ≤ 281474976710656) := ⟨hza (k + 1) (by omega), hzb (k + 1) (by omega)⟩
        clear hVb hVs HO2 hwc2
        have hokN : ∀ w5, Below w0.heap.size w0 w5 → ∀ e ∈ l.take k ++ [(⟨f, n⟩ : En)] ++ l.drop k, e.Ok w5 := fun w5 h5 e he => by
          have hfo := (HF.out.below HBel.out).below h5
          rcases List.mem_append.1 he with he | he
          · rcases List.mem_append.1 he with he | he
            · exact (HR.out.ok e (List.mem_of_mem_take he)).below h5
            · simp only [List.mem_singleton] at he
              subst he
              exact ⟨hfo, hn⟩
          · exact (HR.out.ok e (List.mem_of_mem_drop he)).below h5
        have HOK : Aside _ := hokN
        clear hokN
        go_upto_region 10 with (first
          | (at_builtin; refine wpList_appK rfl _ _ 36 rfl w0.heap.size 49 i0 (.agg #[.int .i64 0, .slice none 0 0, .slice none 0 0, .int .u64 0]) 4 64 Try.underlying36 hi hy0 hy1 hy2 rfl (by decide) _ _ _ rfl HOV.out _ _ _ rfl HVR.out HV1.out HZ3.out.1 HZ3.out.2 HVS.out ?_; intro v3 w3 hown3 hgrow3 hnil3))
        have bx3 : Below w0.heap.size w0 w3 := (HBwx.out.trans (HVB.out.mono HBwx.out.size)).grown hgrow3 HVS.out (fun j hj => (World.ownsRow.lt HOV.out j hj).1)
        have hown3' : w3.ownsRow w0.heap.size 49 4 v3 (k + 1) (ev (l.take k ++ [⟨f, n⟩])) := by rw [ev_app]; exact hown3
        clear hown3 hgrow3 hnil3
        have r3 := RdsM.below HR.out bx3
        obtain ⟨a3, n3, c3, rfl⟩ := own_sl hown3'
        have HO3 : Hid (w3.ownsRow w0.heap.size 49 4 (.slice a3 n3 c3) (k + 1) (ev (l.take k ++ [⟨f, n⟩]))) := hown3'
        have hs3 : w0.heap.size ≤ w3.heap.size := bx3.size
        have HY3 : Hid _ := bx3
        have hkk : (k : Int) ≤ (cb : Int) := by omega
        have hkk2 : (k : Int) ≤ (nb : Int) := by omega
        have hz5 := hza (k + 1 + (nb - k)) (by omega)
        have hz6 := hzb (k + 1 + (nb - k)) (by omega)
        have hlen : (l.take k ++ [(⟨f, n⟩ : En)] ++ l.drop k).length = k + 1 + (nb - k) := by
          have := HN.out
          simp; omega
        have HL : Hid _ := hlen
        clear bx3 hown3' hlen
        by_cases hcc : cb = k
        · have hnk : nb - k = 0 := by omega
          have HP3 : Aside (∀ m c : Nat, m = 0 → c ≤ maxLen → RdsK 4 w3 (.slice (some ⟨p1, o1, none⟩) m c) m (ev (l.drop k))) := fun m c hm hc => by
            have h1 := (RdsM.none (w := w3) ⟨p1, o1, none⟩ c hc).r
            have h2 : l.drop k = [] := List.drop_eq_nil_of_le (by have := HN.out; omega)
            rw [h2, hm]; exact h1
          have HP4 : Aside (∀ u ∈ ev (l.drop k), u.oneCell' = true) := ev_one fun e he => r3.ok e (List.mem_of_mem_drop he)
          have HNK : Hid (nb - k = 0) := hnk
          have hzc : ∀ c : Nat, c ≤ k + 1 → c ≤ maxLen := fun c h => hza c (by omega)
          clear r3 hnk
          go_wp2_with (first
            | (at_builtin; refine wpList_appK rfl _ _ 36 rfl w0.heap.size 49 i0 (.agg #[.int .i64 0, .slice none 0 0, .slice none 0 0, .int .u64 0]) 4 64 Try.underlying36 hi hy0 hy1 hy2 rfl (by decide) _ _ _ rfl HO3.out _ _ _ rfl (HP3.out _ _ HNK.out (hzc _ (by omega))) HP4.out hz5 hz6 hs3 ?_; intro v4 w4 hown4 hgrow4 hnil4))
          go_ret
          have bx4 : Below w0.heap.size w0 w4 := HY3.out.grown hgrow4 hs3 (fun j hj => (World.ownsRow.lt HO3.out j hj).1)
          refine ⟨v4, rfl, ?_, HBwc.out.trans (bx4.mono HBwc.out.size)⟩
          rw [putL_gt l f n k hkl HK.out (by have := HC.out hlt; omega) (by rw [HX.out, ← HCe.out]; exact hC)]
          refine ⟨?_, HOK.out w4 bx4⟩
          rw [HL.out, ev_app]
          exact RdsK.of_own hown4
        · have HP3 : Hid (RdsK 4 w3 (.slice (some ⟨p1, o1 + k * 4, none⟩) (nb - k) (cb - k)) (nb - k) (ev (l.drop k))) := by
            have h1 := (r3.post (k := k) (by have := HN.out; omega)).r
            have h2 : (l.drop k).length = nb - k := by have := HN.out; simp; omega
            rw [h2] at h1; exact h1
          have HP4 : Aside (∀ u ∈ ev (l.drop k), u.oneCell' = true) := ev_one fun e he => r3.ok e (List.mem_of_mem_drop he)
          clear r3
          go_wp2_with (first
            | (at_builtin; refine wpList_appK rfl _ _ 36 rfl w0.heap.size 49 i0 (.agg #[.int .i64 0, .slice none 0 0, .slice none 0 0, .int .u64 0]) 4 64 Try.underlying36 hi hy0 hy1 hy2 rfl (by decide) _ _ _ rfl HO3.out _ _ _ rfl HP3.out HP4.out hz5 hz6 hs3 ?_; intro v4 w4 hown4 hgrow4 hnil4))
          go_ret
          have bx4 : Below w0.heap.size w0 w4 := HY3.out.grown hgrow4 hs3 (fun j hj => (World.ownsRow.lt HO3.out j hj).1)
          refine ⟨v4, rfl, ?_, HBwc.out.trans (bx4.mono HBwc.out.size)⟩
          rw [putL_gt l f n k hkl HK.out (by have := HC.out hlt; omega) (by rw [HX.out, ← HCe.out]; exact hC)]
          refine ⟨?_, HOK.out w4 bx4⟩
          rw [HL.out, ev_app]
          exact RdsK.of_own hown4
    · have hltz : ¬ (k : Int) < (nb : Int) := by omega
      have hltb : decide ((k : Int) < (nb : Int)) = false := decide_eq_false hltz
      obtain rfl : k = nb := by omega
      have HR : Hid (RdsM w0 (.slice ab k cb) l) := rb
      have HP : Hid (RdsK 4 w0 (.slice ab k cb) k (ev l)) := by have := rb.r; rwa [← HN.out] at this
      have HP1 : Aside (∀ u ∈ ev l, u.oneCell' = true) := rb.one_ev
      have hz1 := hza (0 + k) (by omega)
      have hz2 := hzb (0 + k) (by omega)
      cases ab with
      | none =>
        obtain ⟨rfl, rfl⟩ : k = 0 ∧ cb = 0 := by
          obtain ⟨ao, cap, he, -, -, -, h4, -⟩ := HP.out
          cases he
          exact h4 rfl
        clear rb bwc
        go_upto_region 6 with (first
          | (at_builtin; refine wpList_appK rfl _ _ 36 rfl w0.heap.size 49 i0 (.agg #[.int .i64 0, .slice none 0 0, .slice none 0 0, .int .u64 0]) 4 64 Try.underlying36 hi hy0 hy1 hy2 rfl (by decide) _ _ _ rfl (World.ownsRow_nil w0 w0.heap.size 49 4) _ _ _ rfl HP.out HP1.out hz1 hz2 (Nat.le_refl _) ?_; intro v1 w1 hown1 hgrow1 hnil1))
        rw [Nat.zero_add, List.nil_append] at hown1
        have b01 : Below w0.heap.size w0 w1 := (Below.refl _ _).grown hgrow1 (Nat.le_refl _) (fun j hj => by cases hj)
        obtain ⟨av, nv, cv, rfl⟩ := own_sl hown1
        have HO1 : Hid (w1.ownsRow w0.heap.size 49 4 (.slice av nv cv) 0 (ev l)) := hown1
        have HB01 : Hid (Below w0.heap.size w0 w1) := b01
        clear hown1 hgrow1 hnil1 b01 hz1 hz2 HP HP1
        go_cut [43] (fun t wx => t = .bool false ∧ Below w1.heap.size w1 wx)
        case first =>
          go_quiet (fail)
          go_wp2_with fail
          go_meet
          case rel => exact ⟨rfl, below_dN (Below.refl _ _) nq⟩
        rename World => w2
        obtain ⟨rfl, b12⟩ := hcut
        have HO2 : Hid (w2.ownsRow w0.heap.size 49 4 (.slice av nv cv) 0 (ev l)) := own_below HO1.out b12
        have HBwx : Hid (Below w0.heap.size w0 w2) := HB01.out.trans (b12.mono HB01.out.size)
        have hVb : Below w2.heap.size w2 (w2.alloc (.cells #[.int .i64 f.t, .slice aD nD cD, .slice aM nM cM, .int .u64 n] 49)) := (Below.refl _ _).alloc (Nat.le_refl _) _
        obtain ⟨y0, y1, y2⟩ := HBX.out w2 (HBel.out.trans (HBwx.out.mono HBel.out.size))
        rw [HD.out.1] at y1
        rw [HD.out.2] at y2
        have HVR : Hid (RdsK 4 (w2.alloc (.cells #[.int .i64 f.t, .slice aD nD cD, .slice aM nM cM, .int .u64 n] 49)) (.slice (some ⟨w2.heap.size, 0, none⟩) 1 1) 1 (ev [⟨f, n⟩])) := by
          have h1 := one_rds w2 ⟨f, n⟩ _ rfl
          simp only at h1
          rw [HD.out.1, HD.out.2] at h1
          exact h1
        have HV1 : Aside (∀ u ∈ ev [(⟨f, n⟩ : En)], u.oneCell' = true) := by
          intro u hu
          have hfo := HF.out
          exact ev_one (w := W) (l := [⟨f, n⟩]) (fun e he => by simp only [List.mem_singleton] at he; subst he; exact ⟨hfo, hn⟩) u hu
        have HVS : Hid (w0.heap.size ≤ ((w2.alloc (.cells #[.int .i64 f.t, .slice aD nD cD, .slice aM nM cM, .int .u64 n] 49))).heap.size) := Nat.le_trans HBwx.out.size hVb.size
        have HVB : Hid (Below w2.heap.size w2 (w2.alloc (.cells #[.int .i64 f.t, .slice aD nD cD, .slice aM nM cM, .int .u64 n] 49))) := hVb
        have HOV : Hid (((w2.alloc (.cells #[.int .i64 f.t, .slice aD nD cD, .slice aM nM cM, .int .u64 n] 49))).ownsRow w0.heap.size 49 4 (.slice av nv cv) 0 (ev l)) := own_below HO2.out hVb
        have HZ3 : Hid (0 + 1 ≤ maxLen ∧ ((0 + 1) + (0 + 1) / 4 + 192) * 64 ≤ 281474976710656) := hide ⟨by unfold maxLen; omega, by omega⟩
        clear hVb HO2 b12
        go_upto_region 10 with (first
          | (at_builtin; refine wpList_appK rfl _ _ 36 rfl w0.heap.size 49 i0 (.agg #[.int .i64 0, .slice none 0 0, .slice none 0 0, .int .u64 0]) 4 64 Try.underlying36 hi hy0 hy1 hy2 rfl (by decide) _ _ _ rfl HOV.out _ _ _ rfl HVR.out HV1.out HZ3.out.1 HZ3.out.2 HVS.out ?_; intro v3 w3 hown3 hgrow3 hnil3))
        have bx3 : Below w0.heap.size w0 w3 := (HBwx.out.trans (HVB.out.mono HBwx.out.size)).grown hgrow3 HVS.out (fun j hj => (World.ownsRow.lt HOV.out j hj).1)
        have hown3' : w3.ownsRow w0.heap.size 49 4 v3 (0 + 1) (ev (l ++ [⟨f, n⟩])) := by rw [ev_app]; exact hown3
        obtain ⟨a3, n3, c3, rfl⟩ := own_sl hown3'
        have HO3 : Hid (w3.ownsRow w0.heap.size 49 4 (.slice a3 n3 c3) (0 + 1) (ev (l ++ [⟨f, n⟩]))) := hown3'
        have hs3 : w0.heap.size ≤ w3.heap.size := bx3.size
        have HY3 : Hid (Below w0.heap.size w0 w3) := bx3
        have hz5 : 0 + 1 + 0 ≤ maxLen := by unfold maxLen; omega
        have hz6 : ((0 + 1 + 0) + (0 + 1 + 0) / 4 + 192) * 64 ≤ 281474976710656 := by omega
        have HP4 : Aside (∀ u ∈ ev ([] : List En), u.oneCell' = true) := fun u hu => by simp [ev] at hu
        clear bx3 hown3' hown3 hgrow3 hnil3
        go_wp2_with (first
          | (at_builtin; refine wpList_appK rfl _ _ 36 rfl w0.heap.size 49 i0 (.agg #[.int .i64 0, .slice none 0 0, .slice none 0 0, .int .u64 0]) 4 64 Try.underlying36 hi hy0 hy1 hy2 rfl (by decide) _ _ _ rfl HO3.out _ _ _ rfl (RdsK.nil 4 w3) HP4.out hz5 hz6 hs3 ?_; intro v4 w4 hown4 hgrow4 hnil4))
        go_ret
        have bx4 : Below w0.heap.size w0 w4 := HY3.out.grown hgrow4 hs3 (fun j hj => (World.ownsRow.lt HO3.out j hj).1)
        refine ⟨v4, rfl, ?_, HBwc.out.trans (bx4.mono HBwc.out.size)⟩
        rw [putL_end l f n (fun j hj => HK.out j (by have h0 : 0 = l.length := HN.out; omega))]
        have hlen : (l ++ [(⟨f, n⟩ : En)]).length = 0 + 1 + 0 := by have h0 : 0 = l.length := HN.out; rw [List.length_append, List.length_singleton]; omega
        refine ⟨?_, fun e he => ?_⟩
        · rw [hlen]
          have h9 := RdsK.of_own hown4
          first | rw [show ev ([] : List En) = [] from rfl, List.append_nil] at h9 | rw [List.append_nil] at h9
          exact h9
        · rcases List.mem_append.1 he with he | he
          · exact (HR.out.ok e he).below bx4
          · simp only [List.mem_singleton] at he
            subst he
            exact ⟨(HF.out.below HBel.out).below bx4, hn⟩
      | some ad =>
        clear rb bwc
        go_upto_region 6 with (first
          | (at_builtin; refine wpList_appK rfl _ _ 36 rfl w0.heap.size 49 i0 (.agg #[.int .i64 0, .slice none 0 0, .slice none 0 0, .int .u64 0]) 4 64 Try.underlying36 hi hy0 hy1 hy2 rfl (by decide) _ _ _ rfl (World.ownsRow_nil w0 w0.heap.size 49 4) _ _ _ rfl HP.out HP1.out hz1 hz2 (Nat.le_refl _) ?_; intro v1 w1 hown1 hgrow1 hnil1))
        rw [Nat.zero_add, List.nil_append] at hown1
        have b01 : Below w0.heap.size w0 w1 := (Below.refl _ _).grown hgrow1 (Nat.le_refl _) (fun j hj => by cases hj)
        obtain ⟨av, nv, cv, rfl⟩ := own_sl hown1
        have HO1 : Hid (w1.ownsRow w0.heap.size 49 4 (.slice av nv cv) k (ev l)) := hown1
        have HB01 : Hid (Below w0.heap.size w0 w1) := b01
        clear hown1 hgrow1 hnil1 b01 hz1 hz2 HP HP1
        go_cut [43] (fun t wx => t = .bool false ∧ Below w1.heap.size w1 wx)
        case first =>
          go_quiet (fail)
          go_wp2_with fail
          go_meet
          case rel => exact ⟨rfl, below_dN (Below.refl _ _) nq⟩
        rename World => w2
        obtain ⟨rfl, b12⟩ := hcut
        have HO2 : Hid (w2.ownsRow w0.heap.size 49 4 (.slice av nv cv) k (ev l)) := own_below HO1.out b12
        have HBwx : Hid (Below w0.heap.size w0 w2) := HB01.out.trans (b12.mono HB01.out.size)
        have hVb : Below w2.heap.size w2 (w2.alloc (.cells #[.int .i64 f.t, .slice aD nD cD, .slice aM nM cM, .int .u64 n] 49)) := (Below.refl _ _).alloc (Nat.le_refl _) _
        obtain ⟨y0, y1, y2⟩ := HBX.out w2 (HBel.out.trans (HBwx.out.mono HBel.out.size))
        rw [HD.out.1] at y1
        rw [HD.out.2] at y2
        have HVR : Hid (RdsK 4 (w2.alloc (.cells #[.int .i64 f.t, .slice aD nD cD, .slice aM nM cM, .int .u64 n] 49)) (.slice (some ⟨w2.heap.size, 0, none⟩) 1 1) 1 (ev [⟨f, n⟩])) := by
          have h1 := one_rds w2 ⟨f, n⟩ _ rfl
          simp only at h1
          rw [HD.out.1, HD.out.2] at h1
          exact h1
        have HV1 : Aside (∀ u ∈ ev [(⟨f, n⟩ : En)], u.oneCell' = true) := by
          intro u hu
          have hfo := HF.out
          exact ev_one (w := W) (l := [⟨f, n⟩]) (fun e he => by simp only [List.mem_singleton] at he; subst he; exact ⟨hfo, hn⟩) u hu
        have HVS : Hid (w0.heap.size ≤ ((w2.alloc (.cells #[.int .i64 f.t, .slice aD nD cD, .slice aM nM cM, .int .u64 n] 49))).heap.size) := Nat.le_trans HBwx.out.size hVb.size
        have HVB : Hid (Below w2.heap.size w2 (w2.alloc (.cells #[.int .i64 f.t, .slice aD nD cD, .slice aM nM cM, .int .u64 n] 49))) := hVb
        have HOV : Hid (((w2.alloc (.cells #[.int .i64 f.t, .slice aD nD cD, .slice aM nM cM, .int .u64 n] 49))).ownsRow w0.heap.size 49 4 (.slice av nv cv) k (ev l)) := own_below HO2.out hVb
        have HZ3 : Hid (k + 1 ≤ maxLen ∧ ((k + 1) + (k + 1) / 4 + 192) * 64 ≤ 281474976710656) := ⟨hza (k + 1) (by omega), hzb (k + 1) (by omega)⟩
        clear hVb HO2 b12
        go_upto_region 10 with (first
          | (at_builtin; refine wpList_appK rfl _ _ 36 rfl w0.heap.size 49 i0 (.agg #[.int .i64 0, .slice none 0 0, .slice none 0 0, .int .u64 0]) 4 64 Try.underlying36 hi hy0 hy1 hy2 rfl (by decide) _ _ _ rfl HOV.out _ _ _ rfl HVR.out HV1.out HZ3.out.1 HZ3.out.2 HVS.out ?_; intro v3 w3 hown3 hgrow3 hnil3))
        have bx3 : Below w0.heap.size w0 w3 := (HBwx.out.trans (HVB.out.mono HBwx.out.size)).grown hgrow3 HVS.out (fun j hj => (World.ownsRow.lt HOV.out j hj).1)
        have hown3' : w3.ownsRow w0.heap.size 49 4 v3 (k + 1) (ev (l ++ [⟨f, n⟩])) := by rw [ev_app]; exact hown3
        obtain ⟨a3, n3, c3, rfl⟩ := own_sl hown3'
        have HO3 : Hid (w3.ownsRow w0.heap.size 49 4 (.slice a3 n3 c3) (k + 1) (ev (l ++ [⟨f, n⟩]))) := hown3'
        have hs3 : w0.heap.size ≤ w3.heap.size := bx3.size
        have HY3 : Hid (Below w0.heap.size w0 w3) := bx3
        have hz5 := hza (k + 1 + 0) (by omega)
        have hz6 := hzb (k + 1 + 0) (by omega)
        have HP4 : Aside (∀ u ∈ ev ([] : List En), u.oneCell' = true) := fun u hu => by simp [ev] at hu
        clear bx3 hown3' hown3 hgrow3 hnil3
        have HP3 : Aside (∀ (ad : Addr) (m c : Nat), m = 0 → c ≤ maxLen → RdsK 4 w3 (.slice (some ad) m c) m (ev ([] : List En))) := fun ad m c hm hc => by rw [hm]; exact (RdsM.none (w := w3) ad c hc).r
        have hcm : ∀ c : Nat, c ≤ cb → c ≤ maxLen := fun c h => by unfold maxLen; omega
        by_cases hcc : cb = k
        · go_wp2_with (first
            | (at_builtin; refine wpList_appK rfl _ _ 36 rfl w0.heap.size 49 i0 (.agg #[.int .i64 0, .slice none 0 0, .slice none 0 0, .int .u64 0]) 4 64 Try.underlying36 hi hy0 hy1 hy2 rfl (by decide) _ _ _ rfl HO3.out _ _ _ rfl (HP3.out _ _ _ (by omega) (hcm _ (by omega))) HP4.out hz5 hz6 hs3 ?_; intro v4 w4 hown4 hgrow4 hnil4))
          go_ret
          have bx4 : Below w0.heap.size w0 w4 := HY3.out.grown hgrow4 hs3 (fun j hj => (World.ownsRow.lt HO3.out j hj).1)
          refine ⟨v4, rfl, ?_, HBwc.out.trans (bx4.mono HBwc.out.size)⟩
          rw [putL_end l f n (fun j hj => HK.out j (by have h0 : k = l.length := HN.out; omega))]
          have hlen : (l ++ [(⟨f, n⟩ : En)]).length = k + 1 + 0 := by have := HN.out; simp; omega
          refine ⟨?_, fun e he => ?_⟩
          · rw [hlen]
            have h9 := RdsK.of_own hown4
            first | rw [show ev ([] : List En) = [] from rfl, List.append_nil] at h9 | rw [List.append_nil] at h9
            exact h9
          · rcases List.mem_append.1 he with he | he
            · exact (HR.out.ok e he).below bx4
            · simp only [List.mem_singleton] at he
              subst he
              exact ⟨(HF.out.below HBel.out).below bx4, hn⟩
        · go_wp2_with (first
            | (at_builtin; refine wpList_appK rfl _ _ 36 rfl w0.heap.size 49 i0 (.agg #[.int .i64 0, .slice none 0 0, .slice none 0 0, .int .u64 0]) 4 64 Try.underlying36 hi hy0 hy1 hy2 rfl (by decide) _ _ _ rfl HO3.out _ _ _ rfl (HP3.out _ _ _ (by omega) (hcm _ (by omega))) HP4.out hz5 hz6 hs3 ?_; intro v4 w4 hown4 hgrow4 hnil4))
          go_ret
          have bx4 : Below w0.heap.size w0 w4 := HY3.out.grown hgrow4 hs3 (fun j hj => (World.ownsRow.lt HO3.out j hj).1)
          refine ⟨v4, rfl, ?_, HBwc.out.trans (bx4.mono HBwc.out.size)⟩
          rw [putL_end l f n (fun j hj => HK.out j (by have h0 : k = l.length := HN.out; omega))]
          have hlen : (l ++ [(⟨f, n⟩ : En)]).length = k + 1 + 0 := by have := HN.out; simp; omega
          refine ⟨?_, fun e he => ?_⟩
          · rw [hlen]
            have h9 := RdsK.of_own hown4
            first | rw [show ev ([] : List En) = [] from rfl, List.append_nil] at h9 | rw [List.append_nil] at h9
            exact h9
          · rcases List.mem_append.1 he with he | he
            · exact (HR.out.ok e he).below bx4
            · simp only [List.mem_singleton] at he
              subst he
              exact ⟨(HF.out.below HBel.out).below bx4, hn⟩

end Go.Proofs.Ytkoihniggoelnaa.Fa
