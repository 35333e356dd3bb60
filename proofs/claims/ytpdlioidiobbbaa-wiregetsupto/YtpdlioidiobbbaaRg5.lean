/- The program's readList of filters. -/
import Derived.Test.YtpdlioidiobbbaaRg3
namespace Go.Proofs.Ytpdlioidiobbbaa
open Go.RowKit

/-- append to a row of the call's own: its block stays, or a new one is made. -/
theorem run_appF {P : Program} (w : World) (base : Nat) (t ty e : TypeId) (i : TypeInfo) (z : Value) (size bytes : Nat) (ht : P.underlying t = some (.slice e)) (hi : P.info? e = some i) (hz : i.zero = some z)
    (hsize : i.size = size) (hby : i.bytes = bytes) (hzs : z.cells.size = size) (hsz : 0 < size)
    (v : Value) (n : Nat) (xs : List Value) (hown : w.ownsRow base e size v n xs)
    (a : Addr) (m c : Nat) (news : List Value) (hl : news.length = m * size) (hnews : ∀ j u, news[j]? = some u → w.cell? (a.add j) = some u) (h1 : ∀ u ∈ news, u.oneCell' = true)
    (h63 : n + m ≤ maxLen) (hbytes : ((n + m) + (n + m) / 4 + 192) * bytes ≤ 281474976710656) (hbase : base ≤ w.heap.size) :
    ∃ v' w', (Builtin.append_ #[t, t] ty #[v, .slice (some a) m c]).run P w = .ok v' w' ∧ w'.ownsRow base e size v' (n + m) (xs ++ news) ∧ w.grownBy w' v.ownBlock ∧ (v'.ownBlock = v.ownBlock ∨ ∃ g, v'.ownBlock = some g ∧ w.heap.size ≤ g) := by
  obtain ⟨v', w', hr, k1, k2, k3⟩ := run_append_own_wide (P := P) w base t ty e i z size bytes ht hi hz hsize hby hzs hsz v n xs hown a m c news hl hnews h1 h63 hbytes hbase
  refine ⟨v', w', hr, k1, k2, ?_⟩
  subst hsize
  subst hby
  rcases hown.2 with ⟨rfl, rfl⟩ | ⟨g, cap, cur, rfl, hbg, hg, hnc, hcm, hcs, htake⟩
  · obtain ⟨v2, w2, hr2, j1, j2, j3⟩ := run_append_own_wide (P := P) w w.heap.size t ty e i z i.size i.bytes ht hi hz rfl rfl hzs hsz (.slice none 0 0) 0 xs ⟨hown.1, .inl ⟨rfl, rfl⟩⟩ a m c news hl hnews h1 h63 hbytes (Nat.le_refl _)
    have e2 := hr.symm.trans hr2
    injection e2 with ev ew
    subst ev
    rcases j1.2 with ⟨rfl, _⟩ | ⟨g2, c2, cur2, rfl, hb2, _⟩
    · exact .inl rfl
    · exact .inr ⟨g2, rfl, hb2⟩
  · by_cases hroom : n + m ≤ cap
    · have hfit : n * i.size + news.length ≤ cur.size := by rw [hl, hcs, ← Nat.add_mul]; exact Nat.mul_le_mul_right _ hroom
      have hr2 := run_append_room (P := P) w t ty e i ht hi g n cap cur hg a m c news hl hnews h1 hroom hfit
      have e2 := hr.symm.trans hr2
      injection e2 with ev ew
      subst ev
      exact .inl rfl
    · have holds : ∀ j u, xs[j]? = some u → w.cell? ((⟨g, 0, none⟩ : Addr).add j) = some u := hown.cells (g := g) rfl
      have hr2 := run_append_grow (P := P) w t ty e i z ht hi hz ⟨g, 0, none⟩ n cap xs hown.1 holds a m c news hl hnews (by omega) (by unfold maxLen at h63; omega) (growslice_fits_wide (by omega) hbytes)
      have e2 := hr.symm.trans hr2
      injection e2 with ev ew
      subst ev
      exact .inr ⟨_, rfl, Nat.le_refl _⟩
theorem wpList_appF {P : Program} {w : World} {ops : Array Oper} {rest : List Oper} {o : Oper} {a : Act} {Q : Exit → Act → World → Prop} (hgd : o.guard = none) (s x : Operand) (t : TypeId)
    (ho : o.op = .call { callee := .builtin .append, args := #[s, x], argTypes := #[t, t] })
    (base : Nat) (e : TypeId) (i : TypeInfo) (z : Value) (size bytes : Nat) (ht : P.underlying t = some (.slice e)) (hi : P.info? e = some i) (hz : i.zero = some z)
    (hsize : i.size = size) (hby : i.bytes = bytes) (hzs : z.cells.size = size) (hsz : 0 < size)
    (v : Value) (n : Nat) (xs : List Value) (hs : a.eval s = v) (hown : w.ownsRow base e size v n xs)
    (ad : Addr) (m c : Nat) (news : List Value) (hx : a.eval x = .slice (some ad) m c) (hr : Fi.RdsK size w (.slice (some ad) m c) m news) (h1 : ∀ u ∈ news, u.oneCell' = true)
    (h63 : n + m ≤ maxLen) (hbytes : ((n + m) + (n + m) / 4 + 192) * bytes ≤ 281474976710656) (hbase : base ≤ w.heap.size)
    (h : ∀ v' w', w'.ownsRow base e size v' (n + m) (xs ++ news) → w.grownBy w' v.ownBlock → (v'.ownBlock = v.ownBlock ∨ ∃ g, v'.ownBlock = some g ∧ w.heap.size ≤ g) → wpList P ops Q rest (a.put o.dst v') w') : wpList P ops Q (o :: rest) a w := by
  obtain ⟨ao, cap, e0, h0, h2, h3, h4, h5⟩ := hr
  injection e0 with e1 e2 e3
  subst e1
  obtain ⟨v', w', hrun, k1, k2, k3⟩ := run_appF (P := P) w base t o.type e i z size bytes ht hi hz hsize hby hzs hsz v n xs hown ad m c news h0 (h5 ad rfl) h1 h63 hbytes hbase
  refine wpList_plain hgd fun K hK => ?_
  unfold Oper.wp execOp
  simp only [ho, resolve, invoke, builtin, Sem.run_bind, Sem.run_pure, Result.andThen_ok, List.map_toArray, List.map_cons, List.map_nil, hs, hx, hrun]
  exact hK _ _ (h v' w' k1 k2 k3)
/-- An item of a row of filters: its memory lies apart from the row's own block. -/
def FIt (N : Nat) (w : World) (v : Value) (x : Fi.Tr) : Prop := ∃ n s, N ≤ n ∧ s ≤ w.heap.size ∧ (∀ g, v.ownBlock = some g → g < n ∨ s ≤ g) ∧ ∀ w', s ≤ w'.heap.size → (∀ i, n ≤ i → i < s → w'.heap[i]? = w.heap[i]?) → x.Ok w'
theorem FIt.step {N : Nat} {w w' : World} {v v' : Value} {x : Fi.Tr} (h : FIt N w v x) (hz : w.heap.size ≤ w'.heap.size) (hk : ∀ i, N ≤ i → i < w.heap.size → v.ownBlock ≠ some i → w'.heap[i]? = w.heap[i]?) (hv : v'.ownBlock = v.ownBlock ∨ ∃ g, v'.ownBlock = some g ∧ w.heap.size ≤ g) : FIt N w' v' x := by
  obtain ⟨n, s, h1, h2, h3, h4⟩ := h
  refine ⟨n, s, h1, Nat.le_trans h2 hz, fun g hg => ?_, fun w'' k1 k2 => h4 w'' k1 fun i i1 i2 => (k2 i i1 i2).trans (hk i (Nat.le_trans h1 i1) (Nat.lt_of_lt_of_le i2 h2) fun e => ?_)⟩
  · rcases hv with hv | ⟨g', hv, hg'⟩
    · exact h3 g (by rw [← hv]; exact hg)
    · rw [hv] at hg
      cases hg
      exact .inr (Nat.le_trans h2 hg')
  · have := h3 i e
    omega
theorem FIt.new {N n : Nat} {w w' : World} {v v' : Value} {x : Fi.Tr} (h : Win n w fun w => x.Ok w) (hN : N ≤ n) (hg : ∀ g, v.ownBlock = some g → g < n) (hz : w.heap.size ≤ w'.heap.size) (hk : ∀ i, n ≤ i → i < w.heap.size → w'.heap[i]? = w.heap[i]?) (hv : v'.ownBlock = v.ownBlock ∨ ∃ g, v'.ownBlock = some g ∧ w.heap.size ≤ g) : FIt N w' v' x := by
  refine ⟨n, w.heap.size, hN, hz, fun g e => ?_, fun w'' k1 k2 => h w'' k1 fun i i1 i2 => (k2 i i1 i2).trans (hk i i1 i2)⟩
  rcases hv with hv | ⟨g', hv, hg'⟩
  · exact .inl (hg g (by rw [← hv]; exact e))
  · rw [hv] at e
    cases e
    exact .inr hg'
theorem FIt.win {N : Nat} {w : World} {v : Value} {x : Fi.Tr} (h : FIt N w v x) : Win N w fun w => x.Ok w := by
  obtain ⟨n, s, h1, h2, h3, h4⟩ := h
  exact fun w' k1 k2 => h4 w' (Nat.le_trans h2 k1) fun i i1 i2 => k2 i (Nat.le_trans h1 i1) (Nat.lt_of_lt_of_le i2 h2)
theorem Try.inf_fil : (Try.prog.info? 32).map (fun i => (i.zero, i.size, i.bytes)) = some (some (.agg #[.int .i64 0, .int .i64 0, .slice none 0 0, .int .i64 0, .int .i64 0, .slice none 0 0]), 6, 80) := by kernel_rfl
set_option maxRecDepth 100000 in
set_option maxHeartbeats 3200000 in
theorem rl_fil (B R : Nat) (l : Bs) (w : World) (p e : Nat) (sf : Sg2 → Sg2) (gg : Fi.Tr → Bs) (bx bd : Nat) (hlb : l.length ≤ 1048576) (hf : Fwd l sf) (h : PS B w R l p e)
    (hone : ∀ w1 p1 e1, KTT [136, 32] w w1 → PS B w1 R l p1 e1 → Calls Try.prog 116 #[.pointer (some ⟨bx, 0, none⟩), .pointer (some ⟨bd, 0, none⟩)] w1 fun ev w' => ∃ x : Fi.Tr, ev = .returned (.agg #[.int .i64 x.k, .int .i64 x.d, x.tv, .int .i64 x.lo, .int .i64 x.hi, x.kv]) ∧ Win w1.heap.size w' (fun w => x.Ok w) ∧ (TrIn x ∧ (∃ a n c, x.tv = .slice a n c) ∧ (∃ a n c, x.kv = .slice a n c)) ∧ Got B R l w1 w' (p1, e1) sf (gg x)) :
    Calls Try.prog 115 #[.pointer (some ⟨R, 0, none⟩), .func (.func 116) #[] #[.pointer (some ⟨bx, 0, none⟩), .pointer (some ⟨bd, 0, none⟩)]] w fun ev w' => ∃ (v : Value) (xs : List (Fi.Tr)), ev = .returned v ∧ (∃ a n c, v = .slice a n c) ∧ Win w.heap.size w' (fun w => Fi.RdsK 6 w v xs.length (xs.flatMap cl_fil) ∧ ∀ x ∈ xs, x.Ok w) ∧ (∀ x ∈ xs, TrIn x) ∧ Got B R l w w' (p, e) (skL l sf) (Num.uv xs.length ++ xs.flatMap gg) := by
  obtain ⟨i0, hi0, hz0, hz1, hz2⟩ := info_parts Try.inf_fil
  have hRw := h.lt
  have hple := h.le
  have kC := count_p B w R l p e 1 h (by omega) (by omega) (Nat.le_trans hlb (by decide))
  obtain ⟨n, hn⟩ : ∃ n, n = (cS l p e 1).1 := ⟨_, rfl⟩
  obtain ⟨s1, hs1⟩ : ∃ s : Sg2, s = (cS l p e 1).2 := ⟨_, rfl⟩
  have hnl : n ≤ 1048576 := by rw [hn]; exact Nat.le_trans (c_le l p e hple) hlb
  have hne : 0 < n → s1.2 = 0 := fun h => by rw [hs1]; exact c_err l p e hple (by rw [← hn]; exact h)
  have e1 : (cS l p e 1).2.1 = s1.1 := by rw [hs1]
  have e2 : (cS l p e 1).2.2 = s1.2 := by rw [hs1]
  rw [← hn, e1, e2] at kC
  have HN : Hid (n = (cS l p e 1).1 ∧ s1 = (cS l p e 1).2) := ⟨hn, hs1⟩
  have HE : Aside (0 < n → s1.2 = 0) := hne
  have HO : Aside _ := hone
  have HPS : Hid (PS B w R l p e) := h
  have HRW : Hid (R < w.heap.size) := hRw
  clear hn hs1 hne e1 e2 hone h hRw hple
  go_enter Try.func115, Try.ntmps115
  go_wp2_with fail
  refine kC.mono ?_
  rintro er w1 ⟨rfl, h1, g1⟩
  have HP1 : Hid (PS B w1 R l s1.1 s1.2) := h1
  have HG1 : Hid (w.grownBy w1 (some R)) := g1
  have HK1 : Hid (KTT [136, 32] w w1) := (HPS.out.ktt g1).mono fun t ht => by simp at ht; simp [ht]
  clear kC h1 g1
  go_wp2_with fail
  go_loopg [5, 9] n (fun kx v5 v9 wr => ∃ (i : Nat) (xs : List (Fi.Tr)) (x5 : Value), v9 = .int .i64 (i : Int) ∧ x5 = v5 ∧ i ≤ n ∧ n - i ≤ kx ∧ Hid (xs.length = i) ∧ Hid (wr.ownsRow w.heap.size 32 6 x5 i (xs.flatMap cl_fil)) ∧ Hid (∀ x ∈ xs, FIt w.heap.size wr x5 x ∧ TrIn x) ∧ Hid (PS B wr R l (skN sf i s1).1 (skN sf i s1).2) ∧ Hid (w.grownBy wr (some R)) ∧ Hid (KTT [136, 32] w wr) ∧ Hid (0 < n → (skN sf i s1).2 = 0) ∧ Hid (s1.2 = 0 → xs.flatMap gg = rd l s1.1 (skN sf i s1).1))
  case atStart => exact ⟨0, [], _, rfl, rfl, by omega, Nat.le_refl _, rfl, ⟨rfl, .inl ⟨rfl, rfl⟩⟩, (fun _ h => by cases h), HP1, HG1, HK1, HE.out, fun _ => by show _ = rd l s1.1 s1.1; simp [rd]⟩
  case round =>
    obtain ⟨i, xs, vr, rfl, rfl, hi, hkx, HX, HOW, HOK, HP, HG, HK, HZ, HBB⟩ := hrel
    by_cases hlt : i < n
    · have hltz : (i : Int) < (n : Int) := by omega
      have kO := HO.out wr _ _ HK.out HP.out
      go_wp2_with fail
      refine kO.mono ?_
      rintro ev w2 ⟨x, rfl, hok, ⟨htr, hsl⟩, G⟩
      have HS2 : Hid (sf (skN sf i s1) = skN sf (i + 1) s1) := (skN_succ sf i s1).symm
      obtain ⟨E, hE⟩ : ∃ E, E = (sf (skN sf i s1)).2 := ⟨_, rfl⟩
      have HEE : Hid (E = (sf (skN sf i s1)).2) := hE
      have HGT : Hid (Got B R l wr w2 (skN sf i s1) sf (gg x)) := G
      have HXO : Hid (Win wr.heap.size w2 (fun w => x.Ok w)) := hok
      have HTR : Hid (TrIn x) := htr
      have HSL : Hid _ := hsl
      have hz2' : R < w2.heap.size := G.ps.lt
      obtain ⟨a2, c2, hh2, -, -, -⟩ := G.ps.shape
      rw [← hE] at hh2
      have c1 : w2.cell? ⟨R, 1, none⟩ = some (.int .i64 (E : Int)) := BxA.cell (t := 136) hh2 1 _ rfl
      have HKR : Hid (KTT [136, 32] wr w2) := (HP.out.ktt G.g).mono fun t ht => by simp at ht; simp [ht]
      have HGW : Hid (w.grownBy w2 (some R)) := grown_trans' HG.out G.g
      have HOW2 : Hid (w2.ownsRow w.heap.size 32 6 vr i (xs.flatMap cl_fil)) := (HP.out.ktt G.g).own HOW.out (by decide)
      have hsz2 : w.heap.size ≤ w2.heap.size := HGW.out.size
      clear kO hE hok G hh2 htr hsl
      obtain ⟨sa0, sn0, sc0, se0⟩ := HSL.out.1
      obtain ⟨sa1, sn1, sc1, se1⟩ := HSL.out.2
      have HCL : Hid (cl_fil x = [.int .i64 x.k, .int .i64 x.d, .slice sa0 sn0 sc0, .int .i64 x.lo, .int .i64 x.hi, .slice sa1 sn1 sc1]) := by apply hide; simp only [cl_fil, se0, se1]
      rw [se0, se1]
      clear se0 se1
      by_cases he : E = 0
      · subst he
        go_wp2_with (first | (at_builtin; refine wpList_appF rfl _ _ 30 rfl w.heap.size 32 i0 (.agg #[.int .i64 0, .int .i64 0, .slice none 0 0, .int .i64 0, .int .i64 0, .slice none 0 0]) 6 80 Try.underlying30 hi0 hz0 hz1 hz2 rfl (by decide) vr i (xs.flatMap cl_fil) rfl ((World.ownsRow.alloc (World.ownsRow.alloc HOW2.out (.cells #[.int .i64 x.k, .int .i64 x.d, .slice sa0 sn0 sc0, .int .i64 x.lo, .int .i64 x.hi, .slice sa1 sn1 sc1] 32)) (.cells #[.int .i64 x.k, .int .i64 x.d, .slice sa0 sn0 sc0, .int .i64 x.lo, .int .i64 x.hi, .slice sa1 sn1 sc1] 32))) ⟨w2.heap.size + 1, 0, none⟩ 1 1 (cl_fil x) rfl (by rw [HCL.out]; exact lit_rds' (w2.alloc (.cells #[.int .i64 x.k, .int .i64 x.d, .slice sa0 sn0 sc0, .int .i64 x.lo, .int .i64 x.hi, .slice sa1 sn1 sc1] 32)) [.int .i64 x.k, .int .i64 x.d, .slice sa0 sn0 sc0, .int .i64 x.lo, .int .i64 x.hi, .slice sa1 sn1 sc1] 32 _ (by simp)) (fun u hu => by rw [HCL.out] at hu; simp at hu; rcases hu with rfl | rfl | rfl | rfl | rfl | rfl <;> rfl) (by unfold maxLen; omega) (by omega) (Nat.le_trans hsz2 (by simp; omega)) ?_; intro v3 w3 o3 g3 b3; have HO3 : Hid (w3.ownsRow w.heap.size 32 6 v3 (i + 1) (xs.flatMap cl_fil ++ cl_fil x)) := o3; have HG3 : Hid (((w2.alloc (.cells #[.int .i64 x.k, .int .i64 x.d, .slice sa0 sn0 sc0, .int .i64 x.lo, .int .i64 x.hi, .slice sa1 sn1 sc1] 32)).alloc (.cells #[.int .i64 x.k, .int .i64 x.d, .slice sa0 sn0 sc0, .int .i64 x.lo, .int .i64 x.hi, .slice sa1 sn1 sc1] 32)).grownBy w3 vr.ownBlock) := g3; have HB3 : Hid _ := b3; clear o3 g3 b3))
        have gA : w2.grownBy w3 vr.ownBlock := grown_trans' (grown_trans' (grown_alloc _ _ _) (grown_alloc _ _ _)) HG3.out
        have KA : KTT [136, 32] w2 w3 := own_grow HOW2.out gA (by simp)
        have bk : v3.ownBlock = vr.ownBlock ∨ ∃ g, v3.ownBlock = some g ∧ w2.heap.size ≤ g := by
          rcases HB3.out with h | ⟨g, h1, h2⟩
          · exact .inl h
          · exact .inr ⟨g, h1, Nat.le_trans (by simp; omega) h2⟩
        have BA : Below (R + 1) w2 w3 := by
          refine (((Below.refl (R + 1) w2).alloc hz2' (.cells #[.int .i64 x.k, .int .i64 x.d, .slice sa0 sn0 sc0, .int .i64 x.lo, .int .i64 x.hi, .slice sa1 sn1 sc1] 32)).alloc (Nat.le_trans hz2' (by simp)) (.cells #[.int .i64 x.k, .int .i64 x.d, .slice sa0 sn0 sc0, .int .i64 x.lo, .int .i64 x.hi, .slice sa1 sn1 sc1] 32)).grown HG3.out (Nat.le_trans hz2' (by simp; omega)) fun g hg => ?_
          have := (World.ownsRow.lt (World.ownsRow.alloc (World.ownsRow.alloc HOW2.out (.cells #[.int .i64 x.k, .int .i64 x.d, .slice sa0 sn0 sc0, .int .i64 x.lo, .int .i64 x.hi, .slice sa1 sn1 sc1] 32)) (.cells #[.int .i64 x.k, .int .i64 x.d, .slice sa0 sn0 sc0, .int .i64 x.lo, .int .i64 x.hi, .slice sa1 sn1 sc1] 32)) g hg).1
          have := HRW.out
          omega
        have hlr : ∀ g, vr.ownBlock = some g → g < wr.heap.size := fun g hg => (World.ownsRow.lt HOW.out g hg).2
        go_roundg (n - (i + 1))
        case measure => omega
        case rel =>
          refine ⟨i + 1, xs ++ [x], v3, by go_num, rfl, by omega, Nat.le_refl _, by apply hide; simp [HX.out], ?_, ?_, ?_, ?_, HK.out.trans (HKR.out.trans KA), ?_, ?_⟩
          · apply hide
            have := HO3.out
            simpa using this
          · intro y hy
            rcases List.mem_append.1 hy with hy | hy
            · refine ⟨(HOK.out y hy).1.step (Nat.le_trans HGT.out.g.size gA.size) (fun j j1 j2 j3 => ?_) ?_, (HOK.out y hy).2⟩
              · rw [gA.block j (Nat.lt_of_lt_of_le j2 HGT.out.g.size) fun e => j3 e.symm]
                refine HGT.out.g.block j j2 fun e => ?_
                have := HRW.out
                simp only [Option.some.injEq] at e
                omega
              · rcases bk with h | ⟨g, h1, h2⟩
                · exact .inl h
                · exact .inr ⟨g, h1, Nat.le_trans HGT.out.g.size h2⟩
            · simp at hy
              subst hy
              exact ⟨FIt.new HXO.out HG.out.size hlr gA.size (fun j j1 j2 => gA.block j j2 fun e => by have := hlr j e.symm; omega) bk, HTR.out⟩
          · apply hide
            rw [← HS2.out]
            exact HGT.out.ps.keep BA
          · exact grown_new (grown_trans' (grown_trans' HGW.out (grown_alloc _ _ _)) (grown_alloc _ _ _)) (World.ownsRow.alloc (World.ownsRow.alloc HOW2.out (.cells #[.int .i64 x.k, .int .i64 x.d, .slice sa0 sn0 sc0, .int .i64 x.lo, .int .i64 x.hi, .slice sa1 sn1 sc1] 32)) (.cells #[.int .i64 x.k, .int .i64 x.d, .slice sa0 sn0 sc0, .int .i64 x.lo, .int .i64 x.hi, .slice sa1 sn1 sc1] 32)) HG3.out
          · intro _
            rw [← HS2.out]
            exact HEE.out.symm
          · intro h0
            have hle1 := (fwd_n hf i).le s1 HP1.out.le
            have hz := HZ.out (by omega)
            rw [List.flatMap_append, HBB.out h0, ← HS2.out]
            simp only [List.flatMap_cons, List.flatMap_nil, List.append_nil]
            rw [HGT.out.b hz HEE.out.symm]
            exact (rd_app l hle1.1 (hf.le _ hle1.2).1).symm
      · have hE1 : ¬ (E : Int) = 0 := by omega
        have hE2 : ((E : Int) == 0) = false := by simpa using he
        have hE3 : ((E : Int) != 0) = true := by simp [bne, hE2]
        go_wp2_with fail
        go_ret
        have es : skL l sf (p, e) = sf (skN sf i s1) := by
          show skN sf (cS l p e 1).1 (cS l p e 1).2 = _
          rw [← HN.out.1, ← HN.out.2, show n = (i + 1) + (n - (i + 1)) by omega, skN_add, ← HS2.out]
          exact skN_stay hf.stay _ _ (by rw [← HEE.out]; exact he)
        refine ⟨.slice none 0 0, [], rfl, ⟨_, _, _, rfl⟩, (fun w' _ _ => ⟨Fi.RdsK.nil _ _, fun _ h => by cases h⟩), (fun _ h => by cases h), ?_, grown_trans' HGW.out (grown_alloc _ _ _), fun _ h2 => ?_⟩
        · rw [es]; exact HGT.out.ps.keep ((Below.refl (R + 1) w2).alloc hz2' _)
        · rw [es, ← HEE.out] at h2; exact absurd h2 he
    · have hltz : ¬ (i : Int) < (n : Int) := by omega
      obtain rfl : i = n := by omega
      go_wp2_with fail
      go_ret
      refine ⟨vr, rfl, own_sl HOW.out, xs, ?_, (fun x hx => (HOK.out x hx).2), ?_, HG.out, fun h0 h2 => ?_⟩
      · rw [HX.out]
        exact ((own_win HOW.out).imp fun _ r => Fi.RdsK.of_own r).both (Win.all fun x hx => (HOK.out x hx).1.win)
      · have := HP.out
        rw [HN.out.1, HN.out.2] at this
        exact this
      · have hs0 : s1.2 = 0 := Classical.byContradiction fun hn0 => by
          have h3 : (skL l sf (p, e)).2 = s1.2 := by
            show (skN sf (cS l p e 1).1 (cS l p e 1).2).2 = _
            rw [← HN.out.2, skN_stay hf.stay _ _ hn0]
          rw [h3] at h2
          exact hn0 h2
        have hcb := c_bytes l (p, e) h0 (by show (cS l p e 1).2.2 = 0; rw [← HN.out.2]; exact hs0)
        have hb := HBB.out hs0
        have hle0 := (fwd_c l).le (p, e) HPS.out.le
        have hle1 := (fwd_n hf i).le s1 HP1.out.le
        have e1 : (skC l (p, e)).1 = s1.1 := by show (cS l p e 1).2.1 = _; rw [← HN.out.2]
        have e2 : (skL l sf (p, e)).1 = (skN sf i s1).1 := by
          show (skN sf (cS l p e 1).1 (cS l p e 1).2).1 = _
          rw [← HN.out.1, ← HN.out.2]
        rw [HX.out, hb, e2, HN.out.1, hcb.1, e1]
        have e3 : (skN sf (cS l p e 1).1 s1).1 = (skN sf i s1).1 := by rw [← HN.out.1]
        rw [e3]
        exact (rd_app l (by rw [← e1]; exact hle0.1) hle1.1).symm
end Go.Proofs.Ytpdlioidiobbbaa
