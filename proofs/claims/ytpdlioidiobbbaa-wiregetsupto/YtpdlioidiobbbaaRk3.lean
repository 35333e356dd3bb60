/- The reference's reader: where it is, and what it got of each plain part. -/
import Derived.Test.YtpdlioidiobbbaaRg3
namespace Go.Proofs.Ytpdlioidiobbbaa
open Go.RowKit

/-- The reference's reader of l in block K: behind p bytes, with the first error e. -/
structure RP (B K : Nat) (v : Value) (l : Bs) (w : World) (p e : Nat) : Prop where
  b : B ≤ K
  ks : KS w K v p e
  rd : ReadsB B w v l
  le : p ≤ l.length
theorem RP.lt {B K p e : Nat} {v : Value} {l : Bs} {w : World} (h : RP B K v l w p e) : K < w.heap.size := (Array.getElem?_eq_some_iff.1 h.ks).1
theorem RP.go {B K p e p' e' : Nat} {v : Value} {l : Bs} {w w' : World} (h : RP B K v l w p e) (hk : KS w' K v p' e') (hg : w.grownBy w' (some K)) (hp : p' ≤ l.length) : RP B K v l w' p' e' := ⟨h.b, hk, h.rd.keep (grown_B hg h.b h.lt), hp⟩
theorem RP.keep {B K p e : Nat} {v : Value} {l : Bs} {w w' : World} (h : RP B K v l w p e) (hb : Below (K + 1) w w') : RP B K v l w' p e := by
  refine ⟨h.b, ?_, h.rd.keep (hb.mono (Nat.le_succ_of_le h.b)), h.le⟩
  unfold KS
  rw [hb.block K (Nat.lt_succ_self K)]
  exact h.ks
theorem RP.all {B K p e : Nat} {v : Value} {l : Bs} {w : World} (h : RP B K v l w p e) : ∀ w', w.grownBy w' (some K) → Reads w' v l := fun _ hg => (h.rd.keep (grown_B hg h.b h.lt)).1
theorem RP.ktt {B K p e : Nat} {v : Value} {l : Bs} {w w' : World} (h : RP B K v l w p e) (hg : w.grownBy w' (some K)) : KTT [104] w w' :=
  KTT.of_grown hg fun g cs t fr hr hb => by
    simp only [Option.some.injEq] at hr
    subst hr
    rw [show w.heap[K]? = _ from h.ks] at hb
    cases hb
    simp
/-- What was got. -/
structure GK (B K : Nat) (v : Value) (l : Bs) (w w' : World) (s : Sg2) (f : Sg2 → Sg2) (b : Bs) : Prop where
  ps : RP B K v l w' (f s).1 (f s).2
  g : w.grownBy w' (some K)
  b : s.2 = 0 → (f s).2 = 0 → b = rd l s.1 (f s).1
theorem GK.comp {B K : Nat} {v : Value} {l : Bs} {w w1 w2 : World} {s : Sg2} {f g : Sg2 → Sg2} {a b : Bs} (hs : s.1 ≤ l.length) (hf : Fwd l f) (hg : Fwd l g) (h : GK B K v l w w1 s f a) (k : GK B K v l w1 w2 ((f s).1, (f s).2) g b) : GK B K v l w w2 s (fun s => g (f s)) (a ++ b) := by
  refine ⟨k.ps, grown_trans' h.g k.g, fun h0 h2 => ?_⟩
  have h1 : (f s).2 = 0 := Classical.byContradiction fun hn => hn (by have e := hg.stay (f s) hn; have h3 : (g (f s)).2 = 0 := h2; rw [e] at h3; exact h3)
  show a ++ b = rd l s.1 (g (f s)).1
  have k2 := k.b h1 h2
  rw [h.b h0 h1]
  exact (congrArg (rd l s.1 (f s).1 ++ ·) k2).trans (rd_app l (hf.le s hs).1 (hg.le _ (hf.le s hs).2).1).symm
theorem kuint (B K : Nat) (v : Value) (l : Bs) (w : World) (p e : Nat) (h : RP B K v l w p e) :
    Calls Try.prog 59 #[.pointer (some ⟨K, 0, none⟩)] w fun er w' => ∃ n : Nat, er = .returned (.int .u64 (n : Int)) ∧ InU n ∧ GK B K v l w w' (p, e) (skU l) (Num.uv n) := by
  refine (refrd_any w K v l p e h.ks h.rd.1 h.le).mono ?_
  rintro er w' ⟨rfl, h1, g1⟩
  exact ⟨_, rfl, Rd.uS_lt l p e, h.go h1 g1 (Rd.uS_le l p e h.le), g1, fun h0 h2 => u_bytes l (p, e) h0 h2⟩
theorem kcount (B K : Nat) (v : Value) (l : Bs) (w : World) (p e : Nat) (hlb : l.length ≤ 1048576) (h : RP B K v l w p e) :
    Calls Try.prog 62 #[.pointer (some ⟨K, 0, none⟩), .int .i64 1] w fun er w' => er = .returned (.int .i64 (cS l p e 1).1) ∧ RP B K v l w' (cS l p e 1).2.1 (cS l p e 1).2.2 ∧ w.grownBy w' (some K) := by
  refine (count_k w K v l p e 1 h.ks h.all h.le (by omega) (by omega) (Nat.le_trans hlb (by decide))).mono ?_
  rintro er w' ⟨rfl, h1, g1⟩
  exact ⟨rfl, h.go h1 g1 ((fwd_c l).le (p, e) h.le).2, g1⟩
theorem text_bytes (l : Bs) (s : Sg2) (hple : s.1 ≤ l.length) (h0 : s.2 = 0) (h2 : (skT l s).2 = 0) : et (tS l s.1 s.2).1 = rd l s.1 (skT l s).1 := by
  obtain ⟨p, e⟩ := s
  obtain ⟨k1, k2, k3⟩ := cS_facts l p e 1 hple
  have hc : ¬ (cS l p e 1).2.2 ≠ 0 := fun hn => by
    have h3 : (tS l p e).2.2 = 0 := h2
    unfold tS at h3
    rw [if_pos hn] at h3
    exact hn h3
  have hc0 : (cS l p e 1).2.2 = 0 := Classical.not_not.1 hc
  have hb := c_bytes l (p, e) h0 hc0
  have e1 : tS l p e = ((l.drop (cS l p e 1).2.1).take (cS l p e 1).1, (cS l p e 1).2.1 + (cS l p e 1).1, 0) := by unfold tS; rw [if_neg hc]
  have e2 : (skT l (p, e)).1 = (cS l p e 1).2.1 + (cS l p e 1).1 := by show (tS l p e).2.1 = _; rw [e1]
  have hlen : ((l.drop (cS l p e 1).2.1).take (cS l p e 1).1).length = (cS l p e 1).1 := by
    rw [List.length_take, List.length_drop]
    have := k3 hc0
    omega
  show et (tS l p e).1 = rd l p (skT l (p, e)).1
  rw [e2, e1]
  unfold et
  simp only
  rw [hlen, hb.1]
  have hle := (fwd_c l).le (p, e) hple
  have hr := rd_app l (p := p) (q := (cS l p e 1).2.1) (r := (cS l p e 1).2.1 + (cS l p e 1).1) hle.1 (Nat.le_add_right _ _)
  rw [hr]
  show rd l p (cS l p e 1).2.1 ++ _ = _
  congr 1
  unfold rd
  rw [Nat.add_sub_cancel_left]
set_option maxHeartbeats 800000 in
theorem kint (B K : Nat) (v : Value) (l : Bs) (w : World) (p e : Nat) (h : RP B K v l w p e) :
    Calls Try.prog 60 #[.pointer (some ⟨K, 0, none⟩)] w fun er w' => ∃ k : Int, er = .returned (.int .i64 k) ∧ In64 k ∧ GK B K v l w w' (p, e) (skU l) (ei k) := by
  have kU := kuint B K v l w p e h
  clear h
  go_enter Try.func60, Try.ntmps60
  go_wp2_with fail
  refine kU.mono ?_
  rintro er w1 ⟨n, rfl, hn, G⟩
  have hz := hn
  unfold InU at hz
  have fin : ∀ k : Int, k = unz n → ∃ k' : Int, Ending.returned (.int .i64 k) = .returned (.int .i64 k') ∧ In64 k' ∧ GK B K v l w w1 (p, e) (skU l) (ei k') := fun k hk => by
    subst hk
    refine ⟨unz n, rfl, unz_in n hn, ?_⟩
    unfold ei
    rw [zig_unz n hn]
    exact G
  have FIN : Aside _ := fin
  clear G fin kU hn
  by_cases ho : n % 2 = 0
  · have hoz : (n : Int) % 2 = 0 := by omega
    have HZ : Hid _ := And.intro hz ho
    clear ho hz
    go_wp2_with fail
    go_ret
    refine FIN.out _ ?_
    unfold unz
    rw [if_neg (by have := HZ.out.2; omega)]
    have hq := HZ.out.1
    have hu : IntKind.u64.wrap ((n : Int) / 2) = (n : Int) / 2 := by rw [IntKind.wrap_u64]; omega
    rw [hu]
    simp only [← IntWalk.i64_left, IntKind.wrap_i64]
    omega
  · have hoz : ¬ (n : Int) % 2 = 0 := by omega
    have HZ : Hid _ := And.intro hz ho
    clear ho hz
    go_wp2_with fail
    go_ret
    refine FIN.out _ ?_
    unfold unz
    rw [if_pos (by have := HZ.out.2; omega)]
    have hq := HZ.out.1
    have hu : IntKind.u64.wrap ((n : Int) / 2) = (n : Int) / 2 := by rw [IntKind.wrap_u64]; omega
    rw [hu]
    simp only [← IntWalk.i64_left, IntKind.wrap_i64]
    omega
theorem kwhole (B K : Nat) (v : Value) (l : Bs) (w : World) (p e : Nat) (h : RP B K v l w p e) :
    Calls Try.prog 58 #[.pointer (some ⟨K, 0, none⟩)] w fun er w' => ∃ k : Int, er = .returned (.int .i64 k) ∧ In64 k ∧ GK B K v l w w' (p, e) (skU l) (ei k) := by
  have kU := kint B K v l w p e h
  clear h
  go_enter Try.func58, Try.ntmps58
  go_wp2_with fail
  refine kU.mono ?_
  rintro er w1 ⟨k, rfl, hk, G⟩
  go_wp2_with fail
  go_ret
  exact ⟨k, rfl, hk, G⟩
theorem ktext (B K : Nat) (v : Value) (l : Bs) (w : World) (p e : Nat) (hlb : l.length ≤ 1048576) (h : RP B K v l w p e) :
    Calls Try.prog 109 #[.pointer (some ⟨K, 0, none⟩)] w fun er w' => ∃ t : Fi.Str, er = .returned (.string ⟨t.toArray⟩) ∧ t.length ≤ 1048576 ∧ GK B K v l w w' (p, e) (skT l) (et t) := by
  refine (text_k w K v l p e h.ks h.all h.le (Nat.le_trans hlb (by decide))).mono ?_
  rintro er w' ⟨rfl, h1, g1⟩
  refine ⟨_, rfl, ?_, h.go h1 g1 ((fwd_t l).le (p, e) h.le).2, g1, fun h0 h2 => text_bytes l (p, e) h.le h0 h2⟩
  unfold tS
  split
  · exact Nat.zero_le _
  · exact Nat.le_trans (List.length_take_le _ _) (Nat.le_trans (c_le l p e h.le) hlb)
end Go.Proofs.Ytpdlioidiobbbaa

namespace Go.Proofs.Ytpdlioidiobbbaa
open Go.RowKit

set_option maxRecDepth 100000 in
set_option maxHeartbeats 6400000 in
theorem kspan (B R : Nat) (v : Value) (l : Bs) (w : World) (p e : Nat) (_hlb : l.length ≤ 1048576) (h : RP B R v l w p e) :
    Calls Try.prog 65 #[.pointer (some ⟨R, 0, none⟩)] w fun er w' => ∃ F T : Int, er = .returned (.agg #[.int .i64 F, .int .i64 T]) ∧ In64 F ∧ In64 T ∧ GK B R v l w w' (p, e) (skSpan l) (r_span F T) := by
  have hRw := h.lt
  have hple := h.le
  have h0 : RP B R v l (w.alloc (.cells #[.int .i64 0, .int .i64 0] 29)) p e := h.keep ((Below.refl (R + 1) w).alloc hRw _)
  have x0 : BxA (w.alloc (.cells #[.int .i64 0, .int .i64 0] 29)) w.heap.size 29 #[.int .i64 0, .int .i64 0] := BxA.new _ _ _
  have G0 : w.grownBy (w.alloc (.cells #[.int .i64 0, .int .i64 0] 29)) (some R) := grown_alloc _ _ _
  have H0 : Hid _ := h0
  have X0 : Hid _ := x0
  have GG0 : Hid _ := G0
  clear h0 x0 G0 h
  go_enter Try.func65, Try.ntmps65
  go_wp2_with fail
  refine (kint B R v l _ _ _ H0.out).mono ?_
  rintro er w1 ⟨F, rfl, iF, G⟩
  have G1 : Hid (GK B R v l _ w1 _ _ _) := G
  have K := RP.ktt (H0.out) G.g
  have X1 : Hid (BxA w1 w.heap.size 29 #[.int .i64 0, .int .i64 0]) := BxA.grow X0.out G.g (by omega)
  have GG1 : Hid (w.grownBy w1 (some R)) := grown_trans' GG0.out G.g
  clear G K
  go_wp2_with fail
  refine (kint B R v l _ _ _ G1.out.ps).mono ?_
  rintro er w2 ⟨T, rfl, iT, G⟩
  have G2 : Hid (GK B R v l _ w2 _ _ _) := G
  have K := RP.ktt (G1.out.ps) G.g
  have X2 : Hid (BxA w2 w.heap.size 29 #[.int .i64 0, .int .i64 0]) := BxA.grow X1.out G.g (by omega)
  have GG2 : Hid (w.grownBy w2 (some R)) := grown_trans' GG1.out G.g
  clear G K
  have z0 : w2.cell? ⟨w.heap.size, 0, none⟩ = some (.int .i64 0) := X2.out.cell 0 _ rfl
  have f0 : w2.frozen? ⟨w.heap.size, 0, none⟩ = false := X2.out.free 0
  have z1 : w2.cell? ⟨w.heap.size, 1, none⟩ = some (.int .i64 0) := X2.out.cell 1 _ rfl
  have f1 : w2.frozen? ⟨w.heap.size, 1, none⟩ = false := X2.out.free 1
  obtain ⟨Y, hY⟩ : ∃ Y, Y = ((w2.setCell ⟨w.heap.size, 0, none⟩ (.int .i64 F)).setCell ⟨w.heap.size, 1, none⟩ (.int .i64 T)) := ⟨_, rfl⟩
  have gY : w2.grownBy Y (some w.heap.size) := by rw [hY]; exact (grown_trans' grown_setCell grown_setCell)
  have xY : BxA Y w.heap.size 29 #[.int .i64 F, .int .i64 T] := by rw [hY]; exact ((X2.out.set 0 (.int .i64 F)).set 1 (.int .i64 T))
  have HY : Hid (Y = _) := hY
  have GY : Hid (w2.grownBy Y (some w.heap.size)) := gY
  have y0 : Y.cell? ⟨w.heap.size, 0, none⟩ = some (.int .i64 F) := xY.cell 0 _ rfl
  have y1 : Y.cell? ⟨w.heap.size, 1, none⟩ = some (.int .i64 T) := xY.cell 1 _ rfl
  clear hY gY xY
  go_wp2_with fail
  rw [← HY.out]
  refine bodyPost_ret (v := .agg #[.int .i64 F, .int .i64 T]) (by simp [results, Try.results65, go_sem, y0, y1]) rfl ?_
  have KY := BxA.ktt X2.out GY.out
  have bY : Below (R + 1) w2 Y := grown_above GY.out hRw (BxA.lt X2.out)
  have GA1 : GK B R v l w w1 (p, e) _ _ := ⟨G1.out.ps, GG1.out, G1.out.b⟩
  have GA2 := GK.comp hple (fwd_u l) (fwd_u l) GA1 G2.out
  refine ⟨F, T, rfl, iF, iT, ?_⟩
  exact ⟨GA2.ps.keep bY, fill_grown GG2.out GY.out (Nat.le_refl _), fun h0 h2 => by have e := GA2.b h0 h2; first | exact e | (refine Eq.trans ?_ e; simp [r_txt, rl, List.append_assoc]) | (refine Eq.trans ?_ e; simp [r_txt, rl, r_grp, List.append_assoc])⟩
set_option maxRecDepth 100000 in
set_option maxHeartbeats 3200000 in
theorem ktexts (B R : Nat) (v : Value) (l : Bs) (w : World) (p e : Nat) (hlb : l.length ≤ 1048576) (h : RP B R v l w p e) :
    Calls Try.prog 61 #[.pointer (some ⟨R, 0, none⟩)] w fun er w' => ∃ (x : Value) (xs : List Fi.Str), er = .returned x ∧ w'.ownsRow w.heap.size 9 1 x xs.length (xs.flatMap cl_str) ∧ (∀ t ∈ xs, t.length ≤ 1048576) ∧ GK B R v l w w' (p, e) (skTxt l) (r_txt xs) := by
  obtain ⟨i0, hi0, hz0, hz1, hz2⟩ := info_parts Try.inf_str
  have hRw := h.lt
  have hple := h.le
  have kC := kcount B R v l w p e hlb h
  obtain ⟨n, hn⟩ : ∃ n, n = (cS l p e 1).1 := ⟨_, rfl⟩
  obtain ⟨s1, hs1⟩ : ∃ s : Sg2, s = (cS l p e 1).2 := ⟨_, rfl⟩
  have hnl : n ≤ 1048576 := by rw [hn]; exact Nat.le_trans (c_le l p e hple) hlb
  have hne : 0 < n → s1.2 = 0 := fun h => by rw [hs1]; exact c_err l p e hple (by rw [← hn]; exact h)
  have e1 : (cS l p e 1).2.1 = s1.1 := by rw [hs1]
  have e2 : (cS l p e 1).2.2 = s1.2 := by rw [hs1]
  rw [← hn, e1, e2] at kC
  have HN : Hid (n = (cS l p e 1).1 ∧ s1 = (cS l p e 1).2) := ⟨hn, hs1⟩
  have HE : Aside (0 < n → s1.2 = 0) := hne
  have HPS : Hid (RP B R v l w p e) := h
  have HRW : Hid (R < w.heap.size) := hRw
  clear hn hs1 hne e1 e2 h hRw hple
  go_enter Try.func61, Try.ntmps61
  go_wp2_with fail
  refine kC.mono ?_
  rintro er w1 ⟨rfl, h1, g1⟩
  have HP1 : Hid (RP B R v l w1 s1.1 s1.2) := h1
  have HG1 : Hid (w.grownBy w1 (some R)) := g1
  clear kC h1 g1
  go_wp2_with fail
  go_loopg [4, 5] n (fun kx v4 v5 wr => ∃ (i : Nat) (xs : List Fi.Str) (x4 : Value), v5 = .int .i64 (i : Int) ∧ x4 = v4 ∧ i ≤ n ∧ n - i ≤ kx ∧ Hid (xs.length = i) ∧ Hid (wr.ownsRow w.heap.size 9 1 x4 i (xs.flatMap cl_str)) ∧ Hid (∀ x ∈ xs, x.length ≤ 1048576) ∧ Hid (RP B R v l wr (skN (skT l) i s1).1 (skN (skT l) i s1).2) ∧ Hid (w.grownBy wr (some R)) ∧ Hid (s1.2 = 0 → (skN (skT l) i s1).2 = 0 → xs.flatMap et = rd l s1.1 (skN (skT l) i s1).1))
  case atStart => exact ⟨0, [], _, rfl, rfl, by omega, Nat.le_refl _, rfl, ⟨rfl, .inl ⟨rfl, rfl⟩⟩, (fun _ h => by cases h), HP1, HG1, fun _ _ => by show _ = rd l s1.1 s1.1; simp [rd]⟩
  case round =>
    obtain ⟨i, xs, vr, rfl, rfl, hi, hkx, HX, HOW, HOK, HP, HG, HBB⟩ := hrel
    obtain ⟨E, hE⟩ : ∃ E, E = (skN (skT l) i s1).2 := ⟨_, rfl⟩
    have HEE : Hid (E = (skN (skT l) i s1).2) := hE
    have hks := HP.out.ks
    rw [← hE] at hks
    obtain ⟨c0, c1, c2, cf⟩ := hks.cells
    have HKS : Hid _ := hks
    clear hks hE cf c0 c1
    by_cases hlt : i < n
    · have hltz : (i : Int) < (n : Int) := by omega
      by_cases he : E = 0
      · subst he
        have kT := ktext B R v l wr _ _ hlb HP.out
        go_wp2_with fail
        refine kT.mono ?_
        rintro ev w2 ⟨x, rfl, hx, G⟩
        have HGT : Hid _ := G
        have HOW2 : Hid (w2.ownsRow w.heap.size 9 1 vr i (xs.flatMap cl_str)) := (HP.out.ktt G.g).own HOW.out (by decide)
        have HGW : Hid (w.grownBy w2 (some R)) := grown_trans' HG.out G.g
        have hsz2 : w.heap.size ≤ w2.heap.size := HGW.out.size
        have hz2' : R < w2.heap.size := G.ps.lt
        clear kT G
        go_wp2_with (first | (at_builtin; refine wpList_appK rfl _ _ 24 rfl w.heap.size 9 i0 (.string ⟨#[]⟩) 1 16 Try.underlying24 hi0 hz0 hz1 hz2 rfl (by decide) vr i (xs.flatMap cl_str) rfl (World.ownsRow.alloc HOW2.out (.cells #[.string ⟨x.toArray⟩] 9)) (.slice (some ⟨w2.heap.size, 0, none⟩) 1 1) 1 (cl_str x) rfl (by exact lit_rds' w2 [.string ⟨x.toArray⟩] 9 _ rfl) (fun u hu => by unfold cl_str at hu; simp at hu; subst hu; rfl) (by unfold maxLen; omega) (by omega) (Nat.le_trans hsz2 (by simp)) ?_; intro v3 w3 o3 g3; have HO3 : Hid (w3.ownsRow w.heap.size 9 1 v3 (i + 1) (xs.flatMap cl_str ++ cl_str x)) := o3; have HG3 : Hid ((w2.alloc (.cells #[.string ⟨x.toArray⟩] 9)).grownBy w3 vr.ownBlock) := g3; clear o3 g3))
        have BA : Below (R + 1) w2 w3 := by
          refine ((Below.refl (R + 1) w2).alloc hz2' _).grown HG3.out (Nat.le_trans hz2' (by simp)) fun g hg => ?_
          have := (World.ownsRow.lt (World.ownsRow.alloc HOW2.out (.cells #[.string ⟨x.toArray⟩] 9)) g hg).1
          have := HRW.out
          omega
        go_roundg (n - (i + 1))
        case measure => omega
        case rel =>
          have HS2 : skT l (skN (skT l) i s1) = skN (skT l) (i + 1) s1 := (skN_succ (skT l) i s1).symm
          refine ⟨i + 1, xs ++ [x], v3, by go_num, rfl, by omega, Nat.le_refl _, by apply hide; simp [HX.out], ?_, ?_, ?_, ?_, ?_⟩
          · apply hide
            have := HO3.out
            simpa using this
          · intro y hy
            rcases List.mem_append.1 hy with hy | hy
            · exact HOK.out y hy
            · simp at hy
              subst hy
              exact hx
          · apply hide
            rw [← HS2]
            exact HGT.out.ps.keep BA
          · exact grown_new (grown_trans' HGW.out (grown_alloc _ _ _)) (World.ownsRow.alloc HOW2.out (.cells #[.string ⟨x.toArray⟩] 9)) HG3.out
          · intro h0 h2
            have hle1 := (fwd_n (fwd_t l) i).le s1 HP1.out.le
            rw [List.flatMap_append, HBB.out h0 HEE.out.symm]
            rw [← HS2] at h2 ⊢
            simp only [List.flatMap_cons, List.flatMap_nil, List.append_nil]
            have hb := HGT.out.b HEE.out.symm h2
            exact (congrArg (rd l s1.1 (skN (skT l) i s1).1 ++ ·) hb).trans (rd_app l hle1.1 ((fwd_t l).le _ hle1.2).1).symm
      · have hE2 : ((E : Int) == 0) = false := by simpa using he
        go_wp2_with fail
        go_ret
        have es : skTxt l (p, e) = skN (skT l) i s1 := by
          show skN (skT l) (cS l p e 1).1 (cS l p e 1).2 = _
          rw [← HN.out.1, ← HN.out.2, show n = i + (n - i) by omega, skN_add]
          exact skN_stay (fwd_t l).stay _ _ (by rw [← HEE.out]; exact he)
        refine ⟨vr, xs, rfl, by rw [HX.out]; exact HOW.out, HOK.out, ?_, HG.out, fun _ h2 => ?_⟩
        · rw [es]; exact HP.out
        · rw [es, ← HEE.out] at h2; exact absurd h2 he
    · have hltz : ¬ (i : Int) < (n : Int) := by omega
      obtain rfl : i = n := by omega
      go_wp2_with fail
      go_ret
      have es : skTxt l (p, e) = skN (skT l) i s1 := by
        show skN (skT l) (cS l p e 1).1 (cS l p e 1).2 = _
        rw [← HN.out.1, ← HN.out.2]
      refine ⟨vr, rfl, xs, by rw [HX.out]; exact HOW.out, HOK.out, ?_, HG.out, fun h0 h2 => ?_⟩
      · rw [es]; exact HP.out
      · rw [es] at h2 ⊢
        have hs0 : s1.2 = 0 := Classical.byContradiction fun hn0 => by
          rw [skN_stay (fwd_t l).stay _ _ hn0] at h2
          exact hn0 h2
        have hcb := c_bytes l (p, e) h0 (by show (cS l p e 1).2.2 = 0; rw [← HN.out.2]; exact hs0)
        have hle0 := (fwd_c l).le (p, e) HPS.out.le
        have hle1 := (fwd_n (fwd_t l) i).le s1 HP1.out.le
        have e1 : (skC l (p, e)).1 = s1.1 := by show (cS l p e 1).2.1 = _; rw [← HN.out.2]
        show rl et xs = _
        unfold rl
        rw [HX.out, HBB.out hs0 h2]
        have e4 : Num.uv i = rd l p s1.1 := by
          have := hcb.1
          rw [e1] at this
          rw [HN.out.1]
          exact this
        rw [e4]
        exact (rd_app l (by rw [← e1]; exact hle0.1) hle1.1).symm
end Go.Proofs.Ytpdlioidiobbbaa

namespace Go.Proofs.Ytpdlioidiobbbaa
open Go.RowKit

set_option maxRecDepth 100000 in
set_option maxHeartbeats 3200000 in
theorem kseg (B R : Nat) (v : Value) (l : Bs) (w : World) (p e : Nat) (hlb : l.length ≤ 1048576) (h : RP B R v l w p e) :
    Calls Try.prog 64 #[.pointer (some ⟨R, 0, none⟩)] w fun er w' => ∃ x : Sg, er = .returned (.agg #[.int .i64 x.F, .int .i64 x.T, .int .i64 x.V, .int .i64 x.P, .int .i64 x.C]) ∧ x.In ∧ GK B R v l w w' (p, e) (skSeg l) (r_seg x) := by
  have hRw := h.lt
  have hple := h.le
  obtain ⟨W, hW⟩ : ∃ W, W = w.alloc (.cells #[.int .i64 0, .int .i64 0, .int .i64 0, .int .i64 0, .int .i64 0] 38) := ⟨_, rfl⟩
  have h0 : RP B R v l W p e := by rw [hW]; exact h.keep ((Below.refl (R + 1) w).alloc hRw _)
  have x0 : BxA W w.heap.size 38 #[.int .i64 0, .int .i64 0, .int .i64 0, .int .i64 0, .int .i64 0] := by rw [hW]; exact BxA.new _ _ _
  have g0 : w.grownBy W (some R) := by rw [hW]; exact grown_alloc _ _ _
  have HW : Hid (W = _) := hW
  have kS := kspan B R v l W p e hlb h0
  have H0 : Hid _ := And.intro x0 g0
  clear hW h0 x0 g0 h
  go_enter Try.func64, Try.ntmps64
  go_upto_region 1 with fail
  rw [← HW.out]
  go_wp2_with fail
  refine kS.mono ?_
  rintro er w1 ⟨F, T, rfl, iF, iT, G1⟩
  obtain ⟨X, hX⟩ : ∃ X, X = w1.alloc (.cells #[.int .i64 F, .int .i64 T] 29) := ⟨_, rfl⟩
  have hR1 := G1.ps.lt
  have G1' : GK B R v l w X (p, e) (skSpan l) (r_span F T) := by
    refine ⟨?_, ?_, G1.b⟩
    · rw [hX]; exact G1.ps.keep ((Below.refl (R + 1) w1).alloc hR1 _)
    · rw [hX]; exact grown_trans' (grown_trans' H0.out.2 G1.g) (grown_alloc _ _ _)
  have xs : BxA X w1.heap.size 29 #[.int .i64 F, .int .i64 T] := by rw [hX]; exact BxA.new _ _ _
  have xb : BxA X w.heap.size 38 #[.int .i64 0, .int .i64 0, .int .i64 0, .int .i64 0, .int .i64 0] := by
    have := BxA.grow H0.out.1 G1.g (by omega)
    rw [hX]
    unfold BxA
    rw [Below.heap_alloc _ _ _ (BxA.lt this)]
    exact this
  have hlt1 : w.heap.size < w1.heap.size := BxA.lt (BxA.grow H0.out.1 G1.g (by omega))
  have HX : Hid (X = _) := hX
  have k1 := kwhole B R v l X _ _ G1'.ps
  have H1 : Hid _ := And.intro iF (And.intro iT (And.intro G1' (And.intro xs xb)))
  clear kS hX G1 G1' xs xb iF iT
  go_upto_region 2 with fail
  rw [← HX.out]
  go_wp2_with fail
  refine k1.mono ?_
  rintro er w2 ⟨V, rfl, iV, G2⟩
  have k2 := kwhole B R v l w2 _ _ G2.ps
  have H2 : Hid _ := And.intro iV G2
  clear k1 iV G2
  go_wp2_with fail
  refine k2.mono ?_
  rintro er w3 ⟨P, rfl, iP, G3⟩
  have k3 := kwhole B R v l w3 _ _ G3.ps
  have H3 : Hid _ := And.intro iP G3
  clear k2 iP G3
  go_wp2_with fail
  refine k3.mono ?_
  rintro er w4 ⟨C, rfl, iC, G4⟩
  obtain ⟨iF, iT, G1, xs, xb⟩ := H1.out
  have xs4 := BxA.grow (BxA.grow (BxA.grow xs H2.out.2.g (by omega)) H3.out.2.g (by omega)) G4.g (by omega)
  have XB := BxA.grow (BxA.grow (BxA.grow xb H2.out.2.g (by omega)) H3.out.2.g (by omega)) G4.g (by omega)
  have XBH : Hid _ := XB
  have q0 : w4.cell? ⟨w1.heap.size, 0, none⟩ = some (.int .i64 F) := BxA.cell xs4 0 _ rfl
  have q1 : w4.cell? ⟨w1.heap.size, 1, none⟩ = some (.int .i64 T) := BxA.cell xs4 1 _ rfl
  have H4 : Hid _ := And.intro iC G4
  have H1' : Hid _ := And.intro iF (And.intro iT G1)
  have z0 : w4.cell? ⟨w.heap.size, 0, none⟩ = some (.int .i64 0) := BxA.cell XB 0 _ rfl
  have f0 : w4.frozen? ⟨w.heap.size, 0, none⟩ = false := BxA.free XB 0
  have z1 : w4.cell? ⟨w.heap.size, 1, none⟩ = some (.int .i64 0) := BxA.cell XB 1 _ rfl
  have f1 : w4.frozen? ⟨w.heap.size, 1, none⟩ = false := BxA.free XB 1
  have z2 : w4.cell? ⟨w.heap.size, 2, none⟩ = some (.int .i64 0) := BxA.cell XB 2 _ rfl
  have f2 : w4.frozen? ⟨w.heap.size, 2, none⟩ = false := BxA.free XB 2
  have z3 : w4.cell? ⟨w.heap.size, 3, none⟩ = some (.int .i64 0) := BxA.cell XB 3 _ rfl
  have f3 : w4.frozen? ⟨w.heap.size, 3, none⟩ = false := BxA.free XB 3
  have z4 : w4.cell? ⟨w.heap.size, 4, none⟩ = some (.int .i64 0) := BxA.cell XB 4 _ rfl
  have f4 : w4.frozen? ⟨w.heap.size, 4, none⟩ = false := BxA.free XB 4
  obtain ⟨Y, hY⟩ : ∃ Y, Y = (((((w4.setCell ⟨w.heap.size, 0, none⟩ (.int .i64 F)).setCell ⟨w.heap.size, 1, none⟩ (.int .i64 T)).setCell ⟨w.heap.size, 2, none⟩ (.int .i64 V)).setCell ⟨w.heap.size, 3, none⟩ (.int .i64 P)).setCell ⟨w.heap.size, 4, none⟩ (.int .i64 C)) := ⟨_, rfl⟩
  have gY : w4.grownBy Y (some (w.heap.size)) := by rw [hY]; exact (grown_trans' (grown_trans' (grown_trans' (grown_trans' grown_setCell grown_setCell) grown_setCell) grown_setCell) grown_setCell)
  have xY : BxA Y (w.heap.size) 38 #[.int .i64 F, .int .i64 T, .int .i64 V, .int .i64 P, .int .i64 C] := by rw [hY]; exact (BxA.set (BxA.set (BxA.set (BxA.set (BxA.set XB 0 (.int .i64 F)) 1 (.int .i64 T)) 2 (.int .i64 V)) 3 (.int .i64 P)) 4 (.int .i64 C))
  have y0 : Y.cell? ⟨w.heap.size, 0, none⟩ = some (.int .i64 F) := BxA.cell xY 0 _ rfl
  have y1 : Y.cell? ⟨w.heap.size, 1, none⟩ = some (.int .i64 T) := BxA.cell xY 1 _ rfl
  have y2 : Y.cell? ⟨w.heap.size, 2, none⟩ = some (.int .i64 V) := BxA.cell xY 2 _ rfl
  have y3 : Y.cell? ⟨w.heap.size, 3, none⟩ = some (.int .i64 P) := BxA.cell xY 3 _ rfl
  have y4 : Y.cell? ⟨w.heap.size, 4, none⟩ = some (.int .i64 C) := BxA.cell xY 4 _ rfl
  have HY : Hid (Y = _) := hY
  have GY : Hid (w4.grownBy Y (some (w.heap.size))) := gY
  have XY : Hid _ := xY
  clear hY gY xY
  clear k3 iC G4 iF iT G1 xs xb xs4 XB H1
  go_wp2_with fail
  rw [← HY.out]
  refine bodyPost_ret (v := .agg #[.int .i64 F, .int .i64 T, .int .i64 V, .int .i64 P, .int .i64 C]) (by simp [results, Try.results64, go_sem, y0, y1, y2, y3, y4]) rfl ?_
  obtain ⟨iF, iT, G1⟩ := H1'.out
  have bY : Below (R + 1) w4 Y := grown_above GY.out hRw (BxA.lt XBH.out)
  have A2 := GK.comp hple (fwd_span l) (fwd_u l) G1 H2.out.2
  have A3 := GK.comp hple ((fwd_span l).comp (fwd_u l)) (fwd_u l) A2 H3.out.2
  have A4 := GK.comp hple (((fwd_span l).comp (fwd_u l)).comp (fwd_u l)) (fwd_u l) A3 H4.out.2
  refine ⟨⟨F, T, V, P, C⟩, rfl, ⟨iF, iT, H2.out.1, H3.out.1, H4.out.1⟩, ?_⟩
  exact ⟨A4.ps.keep bY, fill_grown A4.g GY.out (Nat.le_refl _), fun h0 h2 => by have e := A4.b h0 h2; simp only [List.append_assoc] at e; exact e⟩
end Go.Proofs.Ytpdlioidiobbbaa

namespace Go.Proofs.Ytpdlioidiobbbaa
open Go.RowKit

/-- What it got. -/
inductive GKB (B K : Nat) (v : Value) (l : Bs) (w : World) (p e : Nat) (er : Ending) (w' : World) : Prop
  | mk (b : Bool) (h : er = .returned (.bool b)) (g : GK B K v l w w' (p, e) (skB l) (eb b)) : GKB B K v l w p e er w'
set_option maxRecDepth 100000 in
set_option maxHeartbeats 3200000 in
theorem kbool (B K : Nat) (v : Value) (l : Bs) (w : World) (p e : Nat) (h : RP B K v l w p e) :
    Calls Try.prog 66 #[.pointer (some ⟨K, 0, none⟩)] w (GKB B K v l w p e) := by
  by_cases he : e = 0
  · subst he
    obtain ⟨c0, c1, c2, f⟩ := h.ks.cells
    obtain ⟨ao, cap, rfl, h1, h2, h3, h4⟩ := id h.rd.1
    unfold maxLen at h2
    have f1 := f 1
    have f2 := f 2
    have hcl := h.rd.1.cells.2.2.2
    have hple := h.le
    have HC : Aside _ := hcl
    have HH : Hid _ := h
    clear hcl h3 h4 f h
    by_cases hlt : p < l.length
    · obtain ⟨b, off, rfl, hcell⟩ := HC.out (by omega)
      have hck := hcell p hlt
      have hcb := (l.getD p 0).toNat_lt
      have hx' : (l.getD p 0).toNat = l[p].toNat := by simp [hlt]
      have hd : l.drop p = l[p] :: l.drop (p + 1) := drop_cons l p hlt
      clear hcell HC
      obtain ⟨x, hx⟩ : ∃ x, x = (l.getD p 0).toNat := ⟨_, rfl⟩
      rw [← hx] at hck hcb
      have HX : Hid (x = l[p].toNat ∧ l.drop p = l[p] :: l.drop (p + 1)) := ⟨hx.trans hx', hd⟩
      have hq : (p : Int) < (l.length : Int) := by omega
      clear hx hx' hd
      by_cases hx1 : 1 < x
      · have hx1' : (1 : Int) < (x : Int) := by omega
        go_enter Try.func66, Try.ntmps66
        go_wp2_with fail
        go_quiet (fail)
        go_wp2_with fail
        go_quiet (fail)
        go_wp2_with fail
        go_ret
        have e : skB l (p, 0) = (p, 12) := by
          unfold skB
          simp only [ne_eq, not_true_eq_false, if_false]
          rw [HX.out.2]
          simp only
          rw [if_pos (by rw [← HX.out.1]; exact hx1)]
        exact .mk false rfl ⟨by rw [e]; exact HH.out.go (heap_setCell_same _ K 2 _ 104 (.int .i64 12) HH.out.ks) (grown_trans' (grown_drewN w _ _) grown_setCell) hple, grown_trans' (grown_drewN w _ _) grown_setCell, fun _ h2 => by rw [e] at h2; cases h2⟩
      · have hx1' : ¬ (1 : Int) < (x : Int) := by omega
        have e : skB l (p, 0) = (p + 1, 0) := by
          unfold skB
          simp only [ne_eq, not_true_eq_false, if_false]
          rw [HX.out.2]
          simp only
          rw [if_neg (by rw [← HX.out.1]; exact hx1)]
        have hby : ∀ q : Bool, (q = true ↔ x = 1) → eb q = rd l p (p + 1) := fun q hq2 => by
          have e2 := HX.out.1
          unfold rd
          rw [HX.out.2, Nat.add_sub_cancel_left]
          show eb q = [l[p]]
          have hX01 : x = 0 ∨ x = 1 := by omega
          rcases hX01 with h0 | h0
          · have hqf : q = false := by cases q with | false => rfl | true => exact absurd (hq2.1 rfl) (by omega)
            rw [hqf]
            show [0] = [l[p]]
            rw [show l[p] = 0 from UInt8.toNat_inj.1 (by rw [← e2, h0]; rfl)]
          · rw [hq2.2 h0]
            show [1] = [l[p]]
            rw [show l[p] = 1 from UInt8.toNat_inj.1 (by rw [← e2, h0]; rfl)]
        have HE : Hid _ := And.intro e hby
        clear e hby
        go_enter Try.func66, Try.ntmps66
        go_wp2_with fail
        go_quiet (fail)
        go_wp2_with fail
        go_quiet (fail)
        go_wp2_with fail
        go_ret
        obtain ⟨e, hby⟩ := HE.out
        refine .mk _ rfl ⟨?_, grown_trans' (grown_drewN w _ _) grown_setCell, fun _ _ => ?_⟩
        · rw [e]
          exact HH.out.go (heap_setCell_same _ K 1 _ 104 _ HH.out.ks) (grown_trans' (grown_drewN w _ _) grown_setCell) (by omega)
        · rw [e]
          exact hby _ (by simp; try omega)
    · have hq : ¬ (p : Int) < (l.length : Int) := by omega
      have hq2 : (l.length : Int) ≤ (p : Int) := by omega
      clear HC
      have e : skB l (p, 0) = (p, 10) := by
        unfold skB
        simp only [ne_eq, not_true_eq_false, if_false]
        rw [List.drop_eq_nil_of_le (by omega)]
      have HE : Hid _ := e
      clear e
      go_enter Try.func66, Try.ntmps66
      go_wp2_with fail
      go_quiet (fail)
      go_wp2_with fail
      go_ret
      exact .mk false rfl ⟨by rw [HE.out]; exact HH.out.go (heap_setCell_same _ K 2 _ 104 (.int .i64 10) HH.out.ks) (grown_trans' (grown_drewN w _ _) grown_setCell) hple, grown_trans' (grown_drewN w _ _) grown_setCell, fun _ h2 => by rw [HE.out] at h2; cases h2⟩
  · obtain ⟨c0, c1, c2, f⟩ := h.ks.cells
    have HH : Hid _ := h
    have he2 : ((e : Int) == 0) = false := by simpa using he
    have he3 : ((e : Int) != 0) = true := by simp [bne, he2]
    clear h f c0 c1
    go_enter Try.func66, Try.ntmps66
    go_wp2_with fail
    go_ret
    have es : skB l (p, e) = (p, e) := by unfold skB; rw [if_pos he]
    exact .mk false rfl ⟨by rw [es]; exact HH.out, ⟨rfl, rfl, rfl, Nat.le_refl _, fun _ _ _ => rfl⟩, fun h0 _ => absurd h0 he⟩
end Go.Proofs.Ytpdlioidiobbbaa
