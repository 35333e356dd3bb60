/- The program's readList, for each type of its items but filters. -/
import Derived.Test.YtpdlioidiobbbaaRg0
import Derived.Laws.AppendOwnNone
import Derived.Deep.DeepAppendWide
import Derived.OneCell
import Derived.Deep.MidRow
namespace Go.Proofs.Ytpdlioidiobbbaa
open Go.RowKit

/-- append(s, x...): s the call's own, x whatever reads as elements, nil too. -/
theorem wpList_appK {P : Program} {w : World} {ops : Array Oper} {rest : List Oper} {o : Oper} {a : Act} {Q : Exit → Act → World → Prop} (hgd : o.guard = none) (s x : Operand) (t : TypeId)
    (ho : o.op = .call { callee := .builtin .append, args := #[s, x], argTypes := #[t, t] })
    (base : Nat) (e : TypeId) (i : TypeInfo) (z : Value) (size bytes : Nat) (ht : P.underlying t = some (.slice e)) (hi : P.info? e = some i) (hz : i.zero = some z)
    (hsize : i.size = size) (hby : i.bytes = bytes) (hzs : z.cells.size = size) (hsz : 0 < size)
    (v : Value) (n : Nat) (xs : List Value) (hs : a.eval s = v) (hown : w.ownsRow base e size v n xs)
    (u : Value) (m : Nat) (news : List Value) (hx : a.eval x = u) (hr : Fi.RdsK size w u m news) (h1 : ∀ u ∈ news, u.oneCell' = true)
    (h63 : n + m ≤ maxLen) (hbytes : ((n + m) + (n + m) / 4 + 192) * bytes ≤ 281474976710656) (hbase : base ≤ w.heap.size)
    (h : ∀ v' w', w'.ownsRow base e size v' (n + m) (xs ++ news) → w.grownBy w' v.ownBlock → wpList P ops Q rest (a.put o.dst v') w') : wpList P ops Q (o :: rest) a w := by
  obtain ⟨ao, cap, rfl, h0, h2, h3, h4, h5⟩ := hr
  cases ao with
  | none =>
    obtain ⟨rfl, rfl⟩ := h4 rfl
    have hn : news = [] := List.eq_nil_of_length_eq_zero (by simpa using h0)
    subst hn
    refine wpList_append_own_none hgd s x t ho base e i size ht hi v n xs hs hown hx ?_
    exact h v w (by simpa using hown) ⟨rfl, rfl, rfl, Nat.le_refl _, fun _ _ _ => rfl⟩
  | some ad =>
    exact wpList_append_own_wide w hgd s x t ho base e i z size bytes ht hi hz hsize hby hzs hsz v n xs hs hown ad m cap news hx h0 (h5 ad rfl) h1 h63 hbytes hbase fun v' w' k1 k2 _ => h v' w' k1 k2
/-- No block has changed, but those of these types. -/
def KTT (T : List TypeId) (w w' : World) : Prop := w.heap.size ≤ w'.heap.size ∧ ∀ (i : Nat) cs t fr, w.heap[i]? = some (.cells cs t fr) → t ∉ T → w'.heap[i]? = some (.cells cs t fr)
theorem KTT.refl (T : List TypeId) (w : World) : KTT T w w := ⟨Nat.le_refl _, fun _ _ _ _ h _ => h⟩
theorem KTT.trans {T : List TypeId} {a b c : World} (h : KTT T a b) (k : KTT T b c) : KTT T a c := ⟨Nat.le_trans h.1 k.1, fun i cs t fr e n => k.2 i cs t fr (h.2 i cs t fr e n) n⟩
theorem KTT.mono {T T' : List TypeId} {a b : World} (h : KTT T a b) (hs : ∀ t, t ∈ T → t ∈ T') : KTT T' a b := ⟨h.1, fun i cs t fr e n => h.2 i cs t fr e fun m => n (hs t m)⟩
theorem KTT.alloc (T : List TypeId) (w : World) (o : Obj) : KTT T w (w.alloc o) := ⟨by simp, fun i cs t fr e _ => by rw [Below.heap_alloc w o i (Array.getElem?_eq_some_iff.1 e).1]; exact e⟩
theorem KTT.of_grown {w w' : World} {r : Option Nat} {T : List TypeId} (hg : w.grownBy w' r) (hr : ∀ (g : Nat) cs t fr, r = some g → w.heap[g]? = some (.cells cs t fr) → t ∈ T) : KTT T w w' :=
  ⟨hg.size, fun i cs t fr e n => by rw [hg.block i (Array.getElem?_eq_some_iff.1 e).1 fun h => n (hr i cs t fr h.symm e)]; exact e⟩
theorem KTT.own {w w' : World} {T : List TypeId} {base e k n : Nat} {v : Value} {xs : List Value} (hk : KTT T w w') (h : w.ownsRow base e k v n xs) (he : e ∉ T) : w'.ownsRow base e k v n xs := by
  refine ⟨h.1, ?_⟩
  rcases h.2 with h2 | ⟨g, cap, cur, rfl, h3, h4, h5⟩
  · exact .inl h2
  · exact .inr ⟨g, cap, cur, rfl, h3, hk.2 g _ _ _ h4 he, h5⟩
theorem own_grow {w w' : World} {T : List TypeId} {base e k n : Nat} {v : Value} {xs : List Value} (h : w.ownsRow base e k v n xs) (hg : w.grownBy w' v.ownBlock) (he : e ∈ T) : KTT T w w' := by
  refine KTT.of_grown hg fun g cs t fr hr hb => ?_
  rcases h.2 with ⟨rfl, _⟩ | ⟨g1, c1, cur1, rfl, _, hh1, _⟩
  · cases hr
  · simp only [Value.ownBlock, Option.some.injEq] at hr
    subst hr
    rw [hh1] at hb
    cases hb
    exact he
theorem PS.ktt {B R p e : Nat} {w w' : World} {l : Bs} (h : PS B w R l p e) (hg : w.grownBy w' (some R)) : KTT [136] w w' := by
  obtain ⟨_, _, lv, hh, _⟩ := h
  refine KTT.of_grown hg fun g cs t fr hr hb => ?_
  simp only [Option.some.injEq] at hr
  subst hr
  rw [hh] at hb
  cases hb
  simp
theorem PS.lt {B R p e : Nat} {w : World} {l : Bs} (h : PS B w R l p e) : R < w.heap.size := by
  obtain ⟨_, _, lv, hh, _⟩ := h
  exact (Array.getElem?_eq_some_iff.1 hh).1
/-- The reader stays where nothing below it and not it has changed. -/
theorem PS.keep {B R p e : Nat} {w w' : World} {l : Bs} (h : PS B w R l p e) (hb : Below (R + 1) w w') : PS B w' R l p e := by
  obtain ⟨h1, h2, lv, hh, hr, he⟩ := h
  refine ⟨h1, h2, lv, ?_, hr.keep (hb.mono (Nat.le_succ_of_le h1)), he⟩
  rw [hb.block R (Nat.lt_succ_self R)]; exact hh
theorem skN_stay {f : Sg2 → Sg2} (h : ∀ s, s.2 ≠ 0 → f s = s) : ∀ n s, s.2 ≠ 0 → skN f n s = s
  | 0, _, _ => rfl
  | n + 1, s, hs => by show skN f n (f s) = s; rw [h s hs]; exact skN_stay h n s hs
theorem skN_succ (f : Sg2 → Sg2) : ∀ n s, skN f (n + 1) s = f (skN f n s)
  | 0, _ => rfl
  | n + 1, s => by show skN f (n + 1) (f s) = _; rw [skN_succ f n (f s)]; rfl
theorem skN_add (f : Sg2 → Sg2) (m : Nat) : ∀ n s, skN f (n + m) s = skN f m (skN f n s)
  | 0, s => by rw [Nat.zero_add]; rfl
  | n + 1, s => by rw [Nat.succ_add]; exact skN_add f m n (f s)
theorem fwd_n {l : Bs} {f : Sg2 → Sg2} (h : Fwd l f) : ∀ n, Fwd l (skN f n)
  | 0 => ⟨fun _ hs => ⟨Nat.le_refl _, hs⟩, fun _ _ => rfl⟩
  | n + 1 => h.comp (fwd_n h n)
/-- What Count moves by. -/
def skC (l : Bs) (s : Sg2) : Sg2 := (cS l s.1 s.2 1).2
theorem fwd_c (l : Bs) : Fwd l (skC l) := by
  have hu := fwd_u l
  refine ⟨fun s hs => ?_, fun s hs => ?_⟩
  · show s.1 ≤ (cS l s.1 s.2 1).2.1 ∧ (cS l s.1 s.2 1).2.1 ≤ l.length
    unfold cS
    split
    · exact hu.le s hs
    · exact hu.le s hs
  · show (cS l s.1 s.2 1).2 = s
    have e : Rd.uS l s.1 s.2 = (0, s.1, s.2) := by unfold Rd.uS; rw [if_pos hs]
    unfold cS
    rw [e, if_neg (fun h => hs h.1)]
theorem fwd_l {l : Bs} {f : Sg2 → Sg2} (h : Fwd l f) : Fwd l (skL l f) :=
  ⟨fun s hs => ⟨Nat.le_trans ((fwd_c l).le s hs).1 ((fwd_n h _).le _ ((fwd_c l).le s hs).2).1, ((fwd_n h _).le _ ((fwd_c l).le s hs).2).2⟩, fun s hs => by
    show skN f _ (skC l s) = s
    rw [(fwd_c l).stay s hs]
    exact (fwd_n h _).stay s hs⟩
theorem c_bytes (l : Bs) (s : Sg2) (h0 : s.2 = 0) (h : (skC l s).2 = 0) : Num.uv (cS l s.1 s.2 1).1 = rd l s.1 (skC l s).1 ∧ (cS l s.1 s.2 1).1 ≤ l.length := by
  have e : (cS l s.1 s.2 1) = Rd.uS l s.1 s.2 ∧ ¬ lim (lf l (Rd.uS l s.1 s.2).2.1 0) 1 < (Rd.uS l s.1 s.2).1 := by
    have h2 : (cS l s.1 s.2 1).2.2 = 0 := h
    unfold cS at h2 ⊢
    split at h2
    · cases h2
    · rename_i hn
      rw [if_neg hn]
      exact ⟨rfl, fun hc => hn ⟨h2, hc⟩⟩
  refine ⟨?_, ?_⟩
  · show _ = rd l s.1 (cS l s.1 s.2 1).2.1
    rw [e.1]
    exact u_bytes l s h0 (by show (Rd.uS l s.1 s.2).2.2 = 0; rw [← e.1]; exact h)
  · rw [e.1]
    have h3 := e.2
    have h4 : lim (lf l (Rd.uS l s.1 s.2).2.1 0) 1 ≤ l.length := by
      refine Nat.le_trans (lim_le _ _) ?_
      unfold lf
      simp
    exact Nat.le_trans (Nat.le_of_not_lt h3) h4
theorem c_le (l : Bs) (p e : Nat) (hp : p ≤ l.length) : (cS l p e 1).1 ≤ l.length := by
  obtain ⟨h1, h2, h3⟩ := cS_facts l p e 1 hp
  by_cases h : (cS l p e 1).2.2 = 0
  · exact Nat.le_trans (Nat.le_add_left _ _) (h3 h)
  · rw [h2 h]; exact Nat.zero_le _
theorem c_err (l : Bs) (p e : Nat) (hp : p ≤ l.length) (h : 0 < (cS l p e 1).1) : (cS l p e 1).2.2 = 0 := by
  obtain ⟨h1, h2, h3⟩ := cS_facts l p e 1 hp
  exact Classical.byContradiction fun hn => by rw [h2 hn] at h; exact absurd h (Nat.lt_irrefl 0)
theorem lit_rds (w : World) (cs : List Value) (t : TypeId) : Fi.RdsK cs.length (w.alloc (.cells cs.toArray t)) (.slice (some ⟨w.heap.size, 0, none⟩) 1 1) 1 cs := by
  refine ⟨some ⟨w.heap.size, 0, none⟩, 1, rfl, by simp, Nat.le_refl _, by decide, (fun h => by cases h), ?_⟩
  rintro ad ⟨rfl⟩ j u hj
  rw [Addr.add_mid]
  simpa using hj
theorem lit_rds' (w : World) (cs : List Value) (t : TypeId) (g : Nat) (hg : g = w.heap.size) : Fi.RdsK cs.length (w.alloc (.cells cs.toArray t)) (.slice (some ⟨g, 0, none⟩) 1 1) 1 cs := by subst hg; exact lit_rds w cs t
theorem grown_new {w wr w2 : World} {R : Nat} {v : Value} {e k n : Nat} {xs : List Value} (hg : w.grownBy wr (some R)) (ho : wr.ownsRow w.heap.size e k v n xs) (h : wr.grownBy w2 v.ownBlock) : w.grownBy w2 (some R) := by
  refine ⟨h.os.trans hg.os, h.tape.trans hg.tape, h.output.trans hg.output, Nat.le_trans hg.size h.size, fun i hi hr => ?_⟩
  rw [h.block i (Nat.lt_of_lt_of_le hi hg.size) fun e => ?_, hg.block i hi hr]
  rcases ho.2 with ⟨rfl, _⟩ | ⟨g, cap, cur, rfl, hb, _⟩
  · cases e
  · simp only [Value.ownBlock, Option.some.injEq] at e
    omega
theorem grown_alloc (w : World) (R : Option Nat) (o : Obj) : w.grownBy (w.alloc o) R := ⟨rfl, rfl, rfl, by simp, fun i hi _ => Below.heap_alloc w o i hi⟩
theorem Try.inf_str : (Try.prog.info? 9).map (fun i => (i.zero, i.size, i.bytes)) = some (some (.string ⟨#[]⟩), 1, 16) := by kernel_rfl
set_option maxRecDepth 100000 in
set_option maxHeartbeats 3200000 in
theorem rl_str (B R : Nat) (l : Bs) (w : World) (p e : Nat) (sf : Sg2 → Sg2) (gg : Fi.Str → Bs) (Ok : World → Fi.Str → Prop)  (hlb : l.length ≤ 1048576) (hf : Fwd l sf) (h : PS B w R l p e)
    (hkeep : ∀ x w w', Ok w x → KTT [136, 9] w w' → Ok w' x)
    (hone : ∀ w1 p1 e1, KTT [136, 9] w w1 → PS B w1 R l p1 e1 → Calls Try.prog 96 #[.pointer (some ⟨R, 0, none⟩)] w1 fun ev w' => ∃ x, ev = .returned (.string ⟨x.toArray⟩) ∧ Ok w' x ∧ Got B R l w1 w' (p1, e1) sf (gg x)) :
    Calls Try.prog 95 #[.pointer (some ⟨R, 0, none⟩), .func (.func 96) #[.pointer (some ⟨R, 0, none⟩)] #[]] w fun ev w' => ∃ (v : Value) (xs : List (Fi.Str)), ev = .returned v ∧ w'.ownsRow w.heap.size 9 1 v xs.length (xs.flatMap cl_str) ∧ (∀ x ∈ xs, Ok w' x) ∧ Got B R l w w' (p, e) (skL l sf) (Num.uv xs.length ++ xs.flatMap gg) := by
  obtain ⟨i0, hi0, hz0, hz1, hz2⟩ := info_parts Try.inf_str
  have hRw := h.lt
  have hple := h.le
  have kC := count_p B w R l p e 1 h (by omega) (by omega) (Nat.le_trans hlb (by decide))
  have kt0 : KTT [136, 9] w w := KTT.refl _ _
  obtain ⟨n, hn⟩ : ∃ n, n = (cS l p e 1).1 := ⟨_, rfl⟩
  obtain ⟨s1, hs1⟩ : ∃ s : Sg2, s = (cS l p e 1).2 := ⟨_, rfl⟩
  have hnl : n ≤ 1048576 := by rw [hn]; exact Nat.le_trans (c_le l p e hple) hlb
  have hne : 0 < n → s1.2 = 0 := fun h => by rw [hs1]; exact c_err l p e hple (by rw [← hn]; exact h)
  have e1 : (cS l p e 1).2.1 = s1.1 := by rw [hs1]
  have e2 : (cS l p e 1).2.2 = s1.2 := by rw [hs1]
  rw [← hn, e1, e2] at kC
  have HN : Hid (n = (cS l p e 1).1 ∧ s1 = (cS l p e 1).2) := ⟨hn, hs1⟩
  have HE : Aside (0 < n → s1.2 = 0) := hne
  have HO : Aside _ := hone
  have HKP : Aside _ := hkeep
  have HPS : Hid (PS B w R l p e) := h
  have HRW : Hid (R < w.heap.size) := hRw
  clear hn hs1 hne e1 e2 hone hkeep h hRw hple kt0
  go_enter Try.func95, Try.ntmps95
  go_wp2_with fail
  refine kC.mono ?_
  rintro er w1 ⟨rfl, h1, g1⟩
  have HP1 : Hid (PS B w1 R l s1.1 s1.2) := h1
  have HG1 : Hid (w.grownBy w1 (some R)) := g1
  have HK1 : Hid (KTT [136, 9] w w1) := (HPS.out.ktt g1).mono fun t ht => by simp at ht; simp [ht]
  clear kC h1 g1
  go_wp2_with fail
  go_loopg [5, 9] n (fun kx v5 v9 wr => ∃ (i : Nat) (xs : List (Fi.Str)) (x5 : Value), v9 = .int .i64 (i : Int) ∧ x5 = v5 ∧ i ≤ n ∧ n - i ≤ kx ∧ Hid (xs.length = i) ∧ Hid (wr.ownsRow w.heap.size 9 1 x5 i (xs.flatMap cl_str)) ∧ Hid (∀ x ∈ xs, Ok wr x) ∧ Hid (PS B wr R l (skN sf i s1).1 (skN sf i s1).2) ∧ Hid (w.grownBy wr (some R)) ∧ Hid (KTT [136, 9] w wr) ∧ Hid (0 < n → (skN sf i s1).2 = 0) ∧ Hid (s1.2 = 0 → xs.flatMap gg = rd l s1.1 (skN sf i s1).1))
  case atStart => exact ⟨0, [], _, rfl, rfl, by omega, Nat.le_refl _, rfl, ⟨rfl, .inl ⟨rfl, rfl⟩⟩, (fun _ h => by cases h), HP1, HG1, HK1, HE.out, fun _ => by show _ = rd l s1.1 s1.1; simp [rd]⟩
  case round =>
    obtain ⟨i, xs, vr, rfl, rfl, hi, hkx, HX, HOW, HOK, HP, HG, HK, HZ, HBB⟩ := hrel
    by_cases hlt : i < n
    · have hltz : (i : Int) < (n : Int) := by omega
      have kO := HO.out wr _ _ HK.out HP.out
      go_wp2_with fail
      refine kO.mono ?_
      rintro ev w2 ⟨x, rfl, hok, G⟩
      have HS2 : Hid (sf (skN sf i s1) = skN sf (i + 1) s1) := (skN_succ sf i s1).symm
      obtain ⟨E, hE⟩ : ∃ E, E = (sf (skN sf i s1)).2 := ⟨_, rfl⟩
      have HEE : Hid (E = (sf (skN sf i s1)).2) := hE
      have HGT : Hid (Got B R l wr w2 (skN sf i s1) sf (gg x)) := G
      have HXO : Hid (Ok w2 x) := hok
      have hz2' : R < w2.heap.size := G.ps.lt
      obtain ⟨a2, c2, hh2, -, -, -⟩ := G.ps.shape
      rw [← hE] at hh2
      have c1 : w2.cell? ⟨R, 1, none⟩ = some (.int .i64 (E : Int)) := BxA.cell (t := 136) hh2 1 _ rfl
      have HKR : Hid (KTT [136, 9] wr w2) := (HP.out.ktt G.g).mono fun t ht => by simp at ht; simp [ht]
      have HGW : Hid (w.grownBy w2 (some R)) := grown_trans' HG.out G.g
      have HOW2 : Hid (w2.ownsRow w.heap.size 9 1 vr i (xs.flatMap cl_str)) := (HP.out.ktt G.g).own HOW.out (by decide)
      have hsz2 : w.heap.size ≤ w2.heap.size := HGW.out.size
      clear kO hE hok G hh2
      have HCL : Hid (cl_str x = [.string ⟨x.toArray⟩]) := by apply hide; simp only [cl_str]
      by_cases he : E = 0
      · subst he
        go_wp2_with (first | (at_builtin; refine wpList_appK rfl _ _ 24 rfl w.heap.size 9 i0 (.string ⟨#[]⟩) 1 16 Try.underlying24 hi0 hz0 hz1 hz2 rfl (by decide) vr i (xs.flatMap cl_str) rfl ((World.ownsRow.alloc HOW2.out (.cells #[.string ⟨x.toArray⟩] 9))) (.slice (some ⟨w2.heap.size, 0, none⟩) 1 1) 1 (cl_str x) rfl (by rw [HCL.out]; exact lit_rds' w2 [.string ⟨x.toArray⟩] 9 _ (by simp)) (fun u hu => by rw [HCL.out] at hu; simp at hu; subst hu; rfl) (by unfold maxLen; omega) (by omega) (Nat.le_trans hsz2 (by simp)) ?_; intro v3 w3 o3 g3; have HO3 : Hid (w3.ownsRow w.heap.size 9 1 v3 (i + 1) (xs.flatMap cl_str ++ cl_str x)) := o3; have HG3 : Hid ((w2.alloc (.cells #[.string ⟨x.toArray⟩] 9)).grownBy w3 vr.ownBlock) := g3; clear o3 g3))
        have KA : KTT [136, 9] w2 w3 := (KTT.alloc _ w2 (.cells #[.string ⟨x.toArray⟩] 9)).trans (own_grow (World.ownsRow.alloc HOW2.out (.cells #[.string ⟨x.toArray⟩] 9)) HG3.out (by simp))
        have BA : Below (R + 1) w2 w3 := by
          refine ((Below.refl (R + 1) w2).alloc hz2' (.cells #[.string ⟨x.toArray⟩] 9)).grown HG3.out (Nat.le_trans hz2' (by simp)) fun g hg => ?_
          have := (World.ownsRow.lt (World.ownsRow.alloc HOW2.out (.cells #[.string ⟨x.toArray⟩] 9)) g hg).1
          have := HRW.out
          omega
        go_roundg (n - (i + 1))
        case measure => omega
        case rel =>
          refine ⟨i + 1, xs ++ [x], v3, by go_num, rfl, by omega, Nat.le_refl _, by apply hide; simp [HX.out], ?_, ?_, ?_, ?_, HK.out.trans (HKR.out.trans KA), ?_, ?_⟩
          · apply hide
            have := HO3.out
            simpa using this
          · intro y hy
            rcases List.mem_append.1 hy with hy | hy
            · exact HKP.out y wr w3 (HOK.out y hy) (HKR.out.trans KA)
            · simp at hy
              subst hy
              exact HKP.out _ w2 w3 HXO.out KA
          · apply hide
            rw [← HS2.out]
            exact HGT.out.ps.keep BA
          · exact grown_new (grown_trans' HGW.out (grown_alloc _ _ _)) (World.ownsRow.alloc HOW2.out (.cells #[.string ⟨x.toArray⟩] 9)) HG3.out
          · intro _
            rw [← HS2.out]
            exact HEE.out.symm
          · intro h0
            have hle1 := (fwd_n hf i).le s1 HP1.out.le
            have hz := HZ.out (by omega)
            rw [List.flatMap_append, HBB.out h0, ← HS2.out]
            simp only [List.flatMap_cons, List.flatMap_nil, List.append_nil]
            rw [HGT.out.b hz HEE.out.symm]
            exact (rd_app l hle1.1 (hf.le _ hle1.2).1).symm
      · have hE1 : ¬ (E : Int) = 0 := by omega
        have hE2 : ((E : Int) == 0) = false := by simpa using he
        have hE3 : ((E : Int) != 0) = true := by simp [bne, hE2]
        go_wp2_with fail
        go_ret
        have es : skL l sf (p, e) = sf (skN sf i s1) := by
          show skN sf (cS l p e 1).1 (cS l p e 1).2 = _
          rw [← HN.out.1, ← HN.out.2, show n = (i + 1) + (n - (i + 1)) by omega, skN_add, ← HS2.out]
          exact skN_stay hf.stay _ _ (by rw [← HEE.out]; exact he)
        refine ⟨.slice none 0 0, [], rfl, ⟨rfl, .inl ⟨rfl, rfl⟩⟩, (fun _ h => by cases h), ?_, HGW.out, fun _ h2 => ?_⟩
        · rw [es]; exact HGT.out.ps
        · rw [es, ← HEE.out] at h2; exact absurd h2 he
    · have hltz : ¬ (i : Int) < (n : Int) := by omega
      obtain rfl : i = n := by omega
      go_wp2_with fail
      go_ret
      refine ⟨vr, rfl, xs, by rw [HX.out]; exact HOW.out, (by first | exact HOK.out | exact fun a b h => HOK.out (a, b) h), ?_, HG.out, fun h0 h2 => ?_⟩
      · have := HP.out
        rw [HN.out.1, HN.out.2] at this
        exact this
      · have hs0 : s1.2 = 0 := Classical.byContradiction fun hn0 => by
          have h3 : (skL l sf (p, e)).2 = s1.2 := by
            show (skN sf (cS l p e 1).1 (cS l p e 1).2).2 = _
            rw [← HN.out.2, skN_stay hf.stay _ _ hn0]
          rw [h3] at h2
          exact hn0 h2
        have hcb := c_bytes l (p, e) h0 (by show (cS l p e 1).2.2 = 0; rw [← HN.out.2]; exact hs0)
        have hb := HBB.out hs0
        have hle0 := (fwd_c l).le (p, e) HPS.out.le
        have hle1 := (fwd_n hf i).le s1 HP1.out.le
        have e1 : (skC l (p, e)).1 = s1.1 := by show (cS l p e 1).2.1 = _; rw [← HN.out.2]
        have e2 : (skL l sf (p, e)).1 = (skN sf i s1).1 := by
          show (skN sf (cS l p e 1).1 (cS l p e 1).2).1 = _
          rw [← HN.out.1, ← HN.out.2]
        rw [HX.out, hb, e2, HN.out.1, hcb.1, e1]
        have e3 : (skN sf (cS l p e 1).1 s1).1 = (skN sf i s1).1 := by rw [← HN.out.1]
        rw [e3]
        exact (rd_app l (by rw [← e1]; exact hle0.1) hle1.1).symm
theorem Try.inf_i64 : (Try.prog.info? 2).map (fun i => (i.zero, i.size, i.bytes)) = some (some (.int .i64 0), 1, 8) := by kernel_rfl
set_option maxRecDepth 100000 in
set_option maxHeartbeats 3200000 in
theorem rl_i64 (B R : Nat) (l : Bs) (w : World) (p e : Nat) (sf : Sg2 → Sg2) (gg : Int → Bs) (Ok : World → Int → Prop)  (hlb : l.length ≤ 1048576) (hf : Fwd l sf) (h : PS B w R l p e)
    (hkeep : ∀ x w w', Ok w x → KTT [136, 2] w w' → Ok w' x)
    (hone : ∀ w1 p1 e1, KTT [136, 2] w w1 → PS B w1 R l p1 e1 → Calls Try.prog 93 #[.pointer (some ⟨R, 0, none⟩)] w1 fun ev w' => ∃ x, ev = .returned (.int .i64 x) ∧ Ok w' x ∧ Got B R l w1 w' (p1, e1) sf (gg x)) :
    Calls Try.prog 97 #[.pointer (some ⟨R, 0, none⟩), .func (.func 93) #[.pointer (some ⟨R, 0, none⟩)] #[]] w fun ev w' => ∃ (v : Value) (xs : List (Int)), ev = .returned v ∧ w'.ownsRow w.heap.size 2 1 v xs.length (xs.flatMap cl_i64) ∧ (∀ x ∈ xs, Ok w' x) ∧ Got B R l w w' (p, e) (skL l sf) (Num.uv xs.length ++ xs.flatMap gg) := by
  obtain ⟨i0, hi0, hz0, hz1, hz2⟩ := info_parts Try.inf_i64
  have hRw := h.lt
  have hple := h.le
  have kC := count_p B w R l p e 1 h (by omega) (by omega) (Nat.le_trans hlb (by decide))
  have kt0 : KTT [136, 2] w w := KTT.refl _ _
  obtain ⟨n, hn⟩ : ∃ n, n = (cS l p e 1).1 := ⟨_, rfl⟩
  obtain ⟨s1, hs1⟩ : ∃ s : Sg2, s = (cS l p e 1).2 := ⟨_, rfl⟩
  have hnl : n ≤ 1048576 := by rw [hn]; exact Nat.le_trans (c_le l p e hple) hlb
  have hne : 0 < n → s1.2 = 0 := fun h => by rw [hs1]; exact c_err l p e hple (by rw [← hn]; exact h)
  have e1 : (cS l p e 1).2.1 = s1.1 := by rw [hs1]
  have e2 : (cS l p e 1).2.2 = s1.2 := by rw [hs1]
  rw [← hn, e1, e2] at kC
  have HN : Hid (n = (cS l p e 1).1 ∧ s1 = (cS l p e 1).2) := ⟨hn, hs1⟩
  have HE : Aside (0 < n → s1.2 = 0) := hne
  have HO : Aside _ := hone
  have HKP : Aside _ := hkeep
  have HPS : Hid (PS B w R l p e) := h
  have HRW : Hid (R < w.heap.size) := hRw
  clear hn hs1 hne e1 e2 hone hkeep h hRw hple kt0
  go_enter Try.func97, Try.ntmps97
  go_wp2_with fail
  refine kC.mono ?_
  rintro er w1 ⟨rfl, h1, g1⟩
  have HP1 : Hid (PS B w1 R l s1.1 s1.2) := h1
  have HG1 : Hid (w.grownBy w1 (some R)) := g1
  have HK1 : Hid (KTT [136, 2] w w1) := (HPS.out.ktt g1).mono fun t ht => by simp at ht; simp [ht]
  clear kC h1 g1
  go_wp2_with fail
  go_loopg [5, 9] n (fun kx v5 v9 wr => ∃ (i : Nat) (xs : List (Int)) (x5 : Value), v9 = .int .i64 (i : Int) ∧ x5 = v5 ∧ i ≤ n ∧ n - i ≤ kx ∧ Hid (xs.length = i) ∧ Hid (wr.ownsRow w.heap.size 2 1 x5 i (xs.flatMap cl_i64)) ∧ Hid (∀ x ∈ xs, Ok wr x) ∧ Hid (PS B wr R l (skN sf i s1).1 (skN sf i s1).2) ∧ Hid (w.grownBy wr (some R)) ∧ Hid (KTT [136, 2] w wr) ∧ Hid (0 < n → (skN sf i s1).2 = 0) ∧ Hid (s1.2 = 0 → xs.flatMap gg = rd l s1.1 (skN sf i s1).1))
  case atStart => exact ⟨0, [], _, rfl, rfl, by omega, Nat.le_refl _, rfl, ⟨rfl, .inl ⟨rfl, rfl⟩⟩, (fun _ h => by cases h), HP1, HG1, HK1, HE.out, fun _ => by show _ = rd l s1.1 s1.1; simp [rd]⟩
  case round =>
    obtain ⟨i, xs, vr, rfl, rfl, hi, hkx, HX, HOW, HOK, HP, HG, HK, HZ, HBB⟩ := hrel
    by_cases hlt : i < n
    · have hltz : (i : Int) < (n : Int) := by omega
      have kO := HO.out wr _ _ HK.out HP.out
      go_wp2_with fail
      refine kO.mono ?_
      rintro ev w2 ⟨x, rfl, hok, G⟩
      have HS2 : Hid (sf (skN sf i s1) = skN sf (i + 1) s1) := (skN_succ sf i s1).symm
      obtain ⟨E, hE⟩ : ∃ E, E = (sf (skN sf i s1)).2 := ⟨_, rfl⟩
      have HEE : Hid (E = (sf (skN sf i s1)).2) := hE
      have HGT : Hid (Got B R l wr w2 (skN sf i s1) sf (gg x)) := G
      have HXO : Hid (Ok w2 x) := hok
      have hz2' : R < w2.heap.size := G.ps.lt
      obtain ⟨a2, c2, hh2, -, -, -⟩ := G.ps.shape
      rw [← hE] at hh2
      have c1 : w2.cell? ⟨R, 1, none⟩ = some (.int .i64 (E : Int)) := BxA.cell (t := 136) hh2 1 _ rfl
      have HKR : Hid (KTT [136, 2] wr w2) := (HP.out.ktt G.g).mono fun t ht => by simp at ht; simp [ht]
      have HGW : Hid (w.grownBy w2 (some R)) := grown_trans' HG.out G.g
      have HOW2 : Hid (w2.ownsRow w.heap.size 2 1 vr i (xs.flatMap cl_i64)) := (HP.out.ktt G.g).own HOW.out (by decide)
      have hsz2 : w.heap.size ≤ w2.heap.size := HGW.out.size
      clear kO hE hok G hh2
      have HCL : Hid (cl_i64 x = [.int .i64 x]) := by apply hide; simp only [cl_i64]
      by_cases he : E = 0
      · subst he
        go_wp2_with (first | (at_builtin; refine wpList_appK rfl _ _ 25 rfl w.heap.size 2 i0 (.int .i64 0) 1 8 Try.underlying25 hi0 hz0 hz1 hz2 rfl (by decide) vr i (xs.flatMap cl_i64) rfl ((World.ownsRow.alloc HOW2.out (.cells #[.int .i64 x] 2))) (.slice (some ⟨w2.heap.size, 0, none⟩) 1 1) 1 (cl_i64 x) rfl (by rw [HCL.out]; exact lit_rds' w2 [.int .i64 x] 2 _ (by simp)) (fun u hu => by rw [HCL.out] at hu; simp at hu; subst hu; rfl) (by unfold maxLen; omega) (by omega) (Nat.le_trans hsz2 (by simp)) ?_; intro v3 w3 o3 g3; have HO3 : Hid (w3.ownsRow w.heap.size 2 1 v3 (i + 1) (xs.flatMap cl_i64 ++ cl_i64 x)) := o3; have HG3 : Hid ((w2.alloc (.cells #[.int .i64 x] 2)).grownBy w3 vr.ownBlock) := g3; clear o3 g3))
        have KA : KTT [136, 2] w2 w3 := (KTT.alloc _ w2 (.cells #[.int .i64 x] 2)).trans (own_grow (World.ownsRow.alloc HOW2.out (.cells #[.int .i64 x] 2)) HG3.out (by simp))
        have BA : Below (R + 1) w2 w3 := by
          refine ((Below.refl (R + 1) w2).alloc hz2' (.cells #[.int .i64 x] 2)).grown HG3.out (Nat.le_trans hz2' (by simp)) fun g hg => ?_
          have := (World.ownsRow.lt (World.ownsRow.alloc HOW2.out (.cells #[.int .i64 x] 2)) g hg).1
          have := HRW.out
          omega
        go_roundg (n - (i + 1))
        case measure => omega
        case rel =>
          refine ⟨i + 1, xs ++ [x], v3, by go_num, rfl, by omega, Nat.le_refl _, by apply hide; simp [HX.out], ?_, ?_, ?_, ?_, HK.out.trans (HKR.out.trans KA), ?_, ?_⟩
          · apply hide
            have := HO3.out
            simpa using this
          · intro y hy
            rcases List.mem_append.1 hy with hy | hy
            · exact HKP.out y wr w3 (HOK.out y hy) (HKR.out.trans KA)
            · simp at hy
              subst hy
              exact HKP.out _ w2 w3 HXO.out KA
          · apply hide
            rw [← HS2.out]
            exact HGT.out.ps.keep BA
          · exact grown_new (grown_trans' HGW.out (grown_alloc _ _ _)) (World.ownsRow.alloc HOW2.out (.cells #[.int .i64 x] 2)) HG3.out
          · intro _
            rw [← HS2.out]
            exact HEE.out.symm
          · intro h0
            have hle1 := (fwd_n hf i).le s1 HP1.out.le
            have hz := HZ.out (by omega)
            rw [List.flatMap_append, HBB.out h0, ← HS2.out]
            simp only [List.flatMap_cons, List.flatMap_nil, List.append_nil]
            rw [HGT.out.b hz HEE.out.symm]
            exact (rd_app l hle1.1 (hf.le _ hle1.2).1).symm
      · have hE1 : ¬ (E : Int) = 0 := by omega
        have hE2 : ((E : Int) == 0) = false := by simpa using he
        have hE3 : ((E : Int) != 0) = true := by simp [bne, hE2]
        go_wp2_with fail
        go_ret
        have es : skL l sf (p, e) = sf (skN sf i s1) := by
          show skN sf (cS l p e 1).1 (cS l p e 1).2 = _
          rw [← HN.out.1, ← HN.out.2, show n = (i + 1) + (n - (i + 1)) by omega, skN_add, ← HS2.out]
          exact skN_stay hf.stay _ _ (by rw [← HEE.out]; exact he)
        refine ⟨.slice none 0 0, [], rfl, ⟨rfl, .inl ⟨rfl, rfl⟩⟩, (fun _ h => by cases h), ?_, HGW.out, fun _ h2 => ?_⟩
        · rw [es]; exact HGT.out.ps
        · rw [es, ← HEE.out] at h2; exact absurd h2 he
    · have hltz : ¬ (i : Int) < (n : Int) := by omega
      obtain rfl : i = n := by omega
      go_wp2_with fail
      go_ret
      refine ⟨vr, rfl, xs, by rw [HX.out]; exact HOW.out, (by first | exact HOK.out | exact fun a b h => HOK.out (a, b) h), ?_, HG.out, fun h0 h2 => ?_⟩
      · have := HP.out
        rw [HN.out.1, HN.out.2] at this
        exact this
      · have hs0 : s1.2 = 0 := Classical.byContradiction fun hn0 => by
          have h3 : (skL l sf (p, e)).2 = s1.2 := by
            show (skN sf (cS l p e 1).1 (cS l p e 1).2).2 = _
            rw [← HN.out.2, skN_stay hf.stay _ _ hn0]
          rw [h3] at h2
          exact hn0 h2
        have hcb := c_bytes l (p, e) h0 (by show (cS l p e 1).2.2 = 0; rw [← HN.out.2]; exact hs0)
        have hb := HBB.out hs0
        have hle0 := (fwd_c l).le (p, e) HPS.out.le
        have hle1 := (fwd_n hf i).le s1 HP1.out.le
        have e1 : (skC l (p, e)).1 = s1.1 := by show (cS l p e 1).2.1 = _; rw [← HN.out.2]
        have e2 : (skL l sf (p, e)).1 = (skN sf i s1).1 := by
          show (skN sf (cS l p e 1).1 (cS l p e 1).2).1 = _
          rw [← HN.out.1, ← HN.out.2]
        rw [HX.out, hb, e2, HN.out.1, hcb.1, e1]
        have e3 : (skN sf (cS l p e 1).1 s1).1 = (skN sf i s1).1 := by rw [← HN.out.1]
        rw [e3]
        exact (rd_app l (by rw [← e1]; exact hle0.1) hle1.1).symm
theorem Try.inf_int : (Try.prog.info? 3).map (fun i => (i.zero, i.size, i.bytes)) = some (some (.int .i64 0), 1, 8) := by kernel_rfl
set_option maxRecDepth 100000 in
set_option maxHeartbeats 3200000 in
theorem rl_int (B R : Nat) (l : Bs) (w : World) (p e : Nat) (sf : Sg2 → Sg2) (gg : Int → Bs) (Ok : World → Int → Prop)  (hlb : l.length ≤ 1048576) (hf : Fwd l sf) (h : PS B w R l p e)
    (hkeep : ∀ x w w', Ok w x → KTT [136, 3] w w' → Ok w' x)
    (hone : ∀ w1 p1 e1, KTT [136, 3] w w1 → PS B w1 R l p1 e1 → Calls Try.prog 37 #[.pointer (some ⟨R, 0, none⟩)] w1 fun ev w' => ∃ x, ev = .returned (.int .i64 x) ∧ Ok w' x ∧ Got B R l w1 w' (p1, e1) sf (gg x)) :
    Calls Try.prog 102 #[.pointer (some ⟨R, 0, none⟩), .func (.func 37) #[.pointer (some ⟨R, 0, none⟩)] #[]] w fun ev w' => ∃ (v : Value) (xs : List (Int)), ev = .returned v ∧ w'.ownsRow w.heap.size 3 1 v xs.length (xs.flatMap cl_int) ∧ (∀ x ∈ xs, Ok w' x) ∧ Got B R l w w' (p, e) (skL l sf) (Num.uv xs.length ++ xs.flatMap gg) := by
  obtain ⟨i0, hi0, hz0, hz1, hz2⟩ := info_parts Try.inf_int
  have hRw := h.lt
  have hple := h.le
  have kC := count_p B w R l p e 1 h (by omega) (by omega) (Nat.le_trans hlb (by decide))
  have kt0 : KTT [136, 3] w w := KTT.refl _ _
  obtain ⟨n, hn⟩ : ∃ n, n = (cS l p e 1).1 := ⟨_, rfl⟩
  obtain ⟨s1, hs1⟩ : ∃ s : Sg2, s = (cS l p e 1).2 := ⟨_, rfl⟩
  have hnl : n ≤ 1048576 := by rw [hn]; exact Nat.le_trans (c_le l p e hple) hlb
  have hne : 0 < n → s1.2 = 0 := fun h => by rw [hs1]; exact c_err l p e hple (by rw [← hn]; exact h)
  have e1 : (cS l p e 1).2.1 = s1.1 := by rw [hs1]
  have e2 : (cS l p e 1).2.2 = s1.2 := by rw [hs1]
  rw [← hn, e1, e2] at kC
  have HN : Hid (n = (cS l p e 1).1 ∧ s1 = (cS l p e 1).2) := ⟨hn, hs1⟩
  have HE : Aside (0 < n → s1.2 = 0) := hne
  have HO : Aside _ := hone
  have HKP : Aside _ := hkeep
  have HPS : Hid (PS B w R l p e) := h
  have HRW : Hid (R < w.heap.size) := hRw
  clear hn hs1 hne e1 e2 hone hkeep h hRw hple kt0
  go_enter Try.func102, Try.ntmps102
  go_wp2_with fail
  refine kC.mono ?_
  rintro er w1 ⟨rfl, h1, g1⟩
  have HP1 : Hid (PS B w1 R l s1.1 s1.2) := h1
  have HG1 : Hid (w.grownBy w1 (some R)) := g1
  have HK1 : Hid (KTT [136, 3] w w1) := (HPS.out.ktt g1).mono fun t ht => by simp at ht; simp [ht]
  clear kC h1 g1
  go_wp2_with fail
  go_loopg [5, 9] n (fun kx v5 v9 wr => ∃ (i : Nat) (xs : List (Int)) (x5 : Value), v9 = .int .i64 (i : Int) ∧ x5 = v5 ∧ i ≤ n ∧ n - i ≤ kx ∧ Hid (xs.length = i) ∧ Hid (wr.ownsRow w.heap.size 3 1 x5 i (xs.flatMap cl_int)) ∧ Hid (∀ x ∈ xs, Ok wr x) ∧ Hid (PS B wr R l (skN sf i s1).1 (skN sf i s1).2) ∧ Hid (w.grownBy wr (some R)) ∧ Hid (KTT [136, 3] w wr) ∧ Hid (0 < n → (skN sf i s1).2 = 0) ∧ Hid (s1.2 = 0 → xs.flatMap gg = rd l s1.1 (skN sf i s1).1))
  case atStart => exact ⟨0, [], _, rfl, rfl, by omega, Nat.le_refl _, rfl, ⟨rfl, .inl ⟨rfl, rfl⟩⟩, (fun _ h => by cases h), HP1, HG1, HK1, HE.out, fun _ => by show _ = rd l s1.1 s1.1; simp [rd]⟩
  case round =>
    obtain ⟨i, xs, vr, rfl, rfl, hi, hkx, HX, HOW, HOK, HP, HG, HK, HZ, HBB⟩ := hrel
    by_cases hlt : i < n
    · have hltz : (i : Int) < (n : Int) := by omega
      have kO := HO.out wr _ _ HK.out HP.out
      go_wp2_with fail
      refine kO.mono ?_
      rintro ev w2 ⟨x, rfl, hok, G⟩
      have HS2 : Hid (sf (skN sf i s1) = skN sf (i + 1) s1) := (skN_succ sf i s1).symm
      obtain ⟨E, hE⟩ : ∃ E, E = (sf (skN sf i s1)).2 := ⟨_, rfl⟩
      have HEE : Hid (E = (sf (skN sf i s1)).2) := hE
      have HGT : Hid (Got B R l wr w2 (skN sf i s1) sf (gg x)) := G
      have HXO : Hid (Ok w2 x) := hok
      have hz2' : R < w2.heap.size := G.ps.lt
      obtain ⟨a2, c2, hh2, -, -, -⟩ := G.ps.shape
      rw [← hE] at hh2
      have c1 : w2.cell? ⟨R, 1, none⟩ = some (.int .i64 (E : Int)) := BxA.cell (t := 136) hh2 1 _ rfl
      have HKR : Hid (KTT [136, 3] wr w2) := (HP.out.ktt G.g).mono fun t ht => by simp at ht; simp [ht]
      have HGW : Hid (w.grownBy w2 (some R)) := grown_trans' HG.out G.g
      have HOW2 : Hid (w2.ownsRow w.heap.size 3 1 vr i (xs.flatMap cl_int)) := (HP.out.ktt G.g).own HOW.out (by decide)
      have hsz2 : w.heap.size ≤ w2.heap.size := HGW.out.size
      clear kO hE hok G hh2
      have HCL : Hid (cl_int x = [.int .i64 x]) := by apply hide; simp only [cl_int]
      by_cases he : E = 0
      · subst he
        go_wp2_with (first | (at_builtin; refine wpList_appK rfl _ _ 123 rfl w.heap.size 3 i0 (.int .i64 0) 1 8 Try.underlying123 hi0 hz0 hz1 hz2 rfl (by decide) vr i (xs.flatMap cl_int) rfl ((World.ownsRow.alloc HOW2.out (.cells #[.int .i64 x] 3))) (.slice (some ⟨w2.heap.size, 0, none⟩) 1 1) 1 (cl_int x) rfl (by rw [HCL.out]; exact lit_rds' w2 [.int .i64 x] 3 _ (by simp)) (fun u hu => by rw [HCL.out] at hu; simp at hu; subst hu; rfl) (by unfold maxLen; omega) (by omega) (Nat.le_trans hsz2 (by simp)) ?_; intro v3 w3 o3 g3; have HO3 : Hid (w3.ownsRow w.heap.size 3 1 v3 (i + 1) (xs.flatMap cl_int ++ cl_int x)) := o3; have HG3 : Hid ((w2.alloc (.cells #[.int .i64 x] 3)).grownBy w3 vr.ownBlock) := g3; clear o3 g3))
        have KA : KTT [136, 3] w2 w3 := (KTT.alloc _ w2 (.cells #[.int .i64 x] 3)).trans (own_grow (World.ownsRow.alloc HOW2.out (.cells #[.int .i64 x] 3)) HG3.out (by simp))
        have BA : Below (R + 1) w2 w3 := by
          refine ((Below.refl (R + 1) w2).alloc hz2' (.cells #[.int .i64 x] 3)).grown HG3.out (Nat.le_trans hz2' (by simp)) fun g hg => ?_
          have := (World.ownsRow.lt (World.ownsRow.alloc HOW2.out (.cells #[.int .i64 x] 3)) g hg).1
          have := HRW.out
          omega
        go_roundg (n - (i + 1))
        case measure => omega
        case rel =>
          refine ⟨i + 1, xs ++ [x], v3, by go_num, rfl, by omega, Nat.le_refl _, by apply hide; simp [HX.out], ?_, ?_, ?_, ?_, HK.out.trans (HKR.out.trans KA), ?_, ?_⟩
          · apply hide
            have := HO3.out
            simpa using this
          · intro y hy
            rcases List.mem_append.1 hy with hy | hy
            · exact HKP.out y wr w3 (HOK.out y hy) (HKR.out.trans KA)
            · simp at hy
              subst hy
              exact HKP.out _ w2 w3 HXO.out KA
          · apply hide
            rw [← HS2.out]
            exact HGT.out.ps.keep BA
          · exact grown_new (grown_trans' HGW.out (grown_alloc _ _ _)) (World.ownsRow.alloc HOW2.out (.cells #[.int .i64 x] 3)) HG3.out
          · intro _
            rw [← HS2.out]
            exact HEE.out.symm
          · intro h0
            have hle1 := (fwd_n hf i).le s1 HP1.out.le
            have hz := HZ.out (by omega)
            rw [List.flatMap_append, HBB.out h0, ← HS2.out]
            simp only [List.flatMap_cons, List.flatMap_nil, List.append_nil]
            rw [HGT.out.b hz HEE.out.symm]
            exact (rd_app l hle1.1 (hf.le _ hle1.2).1).symm
      · have hE1 : ¬ (E : Int) = 0 := by omega
        have hE2 : ((E : Int) == 0) = false := by simpa using he
        have hE3 : ((E : Int) != 0) = true := by simp [bne, hE2]
        go_wp2_with fail
        go_ret
        have es : skL l sf (p, e) = sf (skN sf i s1) := by
          show skN sf (cS l p e 1).1 (cS l p e 1).2 = _
          rw [← HN.out.1, ← HN.out.2, show n = (i + 1) + (n - (i + 1)) by omega, skN_add, ← HS2.out]
          exact skN_stay hf.stay _ _ (by rw [← HEE.out]; exact he)
        refine ⟨.slice none 0 0, [], rfl, ⟨rfl, .inl ⟨rfl, rfl⟩⟩, (fun _ h => by cases h), ?_, HGW.out, fun _ h2 => ?_⟩
        · rw [es]; exact HGT.out.ps
        · rw [es, ← HEE.out] at h2; exact absurd h2 he
    · have hltz : ¬ (i : Int) < (n : Int) := by omega
      obtain rfl : i = n := by omega
      go_wp2_with fail
      go_ret
      refine ⟨vr, rfl, xs, by rw [HX.out]; exact HOW.out, (by first | exact HOK.out | exact fun a b h => HOK.out (a, b) h), ?_, HG.out, fun h0 h2 => ?_⟩
      · have := HP.out
        rw [HN.out.1, HN.out.2] at this
        exact this
      · have hs0 : s1.2 = 0 := Classical.byContradiction fun hn0 => by
          have h3 : (skL l sf (p, e)).2 = s1.2 := by
            show (skN sf (cS l p e 1).1 (cS l p e 1).2).2 = _
            rw [← HN.out.2, skN_stay hf.stay _ _ hn0]
          rw [h3] at h2
          exact hn0 h2
        have hcb := c_bytes l (p, e) h0 (by show (cS l p e 1).2.2 = 0; rw [← HN.out.2]; exact hs0)
        have hb := HBB.out hs0
        have hle0 := (fwd_c l).le (p, e) HPS.out.le
        have hle1 := (fwd_n hf i).le s1 HP1.out.le
        have e1 : (skC l (p, e)).1 = s1.1 := by show (cS l p e 1).2.1 = _; rw [← HN.out.2]
        have e2 : (skL l sf (p, e)).1 = (skN sf i s1).1 := by
          show (skN sf (cS l p e 1).1 (cS l p e 1).2).1 = _
          rw [← HN.out.1, ← HN.out.2]
        rw [HX.out, hb, e2, HN.out.1, hcb.1, e1]
        have e3 : (skN sf (cS l p e 1).1 s1).1 = (skN sf i s1).1 := by rw [← HN.out.1]
        rw [e3]
        exact (rd_app l (by rw [← e1]; exact hle0.1) hle1.1).symm
theorem Try.inf_agg : (Try.prog.info? 128).map (fun i => (i.zero, i.size, i.bytes)) = some (some (.agg #[.int .i64 0, .int .i64 0]), 2, 16) := by kernel_rfl
set_option maxRecDepth 100000 in
set_option maxHeartbeats 3200000 in
theorem rl_agg (B R : Nat) (l : Bs) (w : World) (p e : Nat) (sf : Sg2 → Sg2) (gg : Int × Int → Bs) (Ok : World → Int × Int → Prop)  (hlb : l.length ≤ 1048576) (hf : Fwd l sf) (h : PS B w R l p e)
    (hkeep : ∀ x w w', Ok w x → KTT [136, 128] w w' → Ok w' x)
    (hone : ∀ w1 p1 e1, KTT [136, 128] w w1 → PS B w1 R l p1 e1 → Calls Try.prog 104 #[.pointer (some ⟨R, 0, none⟩)] w1 fun ev w' => ∃ x, ev = .returned (.agg #[.int .i64 x.1, .int .i64 x.2]) ∧ Ok w' x ∧ Got B R l w1 w' (p1, e1) sf (gg x)) :
    Calls Try.prog 103 #[.pointer (some ⟨R, 0, none⟩), .func (.func 104) #[.pointer (some ⟨R, 0, none⟩)] #[]] w fun ev w' => ∃ (v : Value) (xs : List (Int × Int)), ev = .returned v ∧ w'.ownsRow w.heap.size 128 2 v xs.length (xs.flatMap cl_agg) ∧ (∀ x ∈ xs, Ok w' x) ∧ Got B R l w w' (p, e) (skL l sf) (Num.uv xs.length ++ xs.flatMap gg) := by
  obtain ⟨i0, hi0, hz0, hz1, hz2⟩ := info_parts Try.inf_agg
  have hRw := h.lt
  have hple := h.le
  have kC := count_p B w R l p e 1 h (by omega) (by omega) (Nat.le_trans hlb (by decide))
  have kt0 : KTT [136, 128] w w := KTT.refl _ _
  obtain ⟨n, hn⟩ : ∃ n, n = (cS l p e 1).1 := ⟨_, rfl⟩
  obtain ⟨s1, hs1⟩ : ∃ s : Sg2, s = (cS l p e 1).2 := ⟨_, rfl⟩
  have hnl : n ≤ 1048576 := by rw [hn]; exact Nat.le_trans (c_le l p e hple) hlb
  have hne : 0 < n → s1.2 = 0 := fun h => by rw [hs1]; exact c_err l p e hple (by rw [← hn]; exact h)
  have e1 : (cS l p e 1).2.1 = s1.1 := by rw [hs1]
  have e2 : (cS l p e 1).2.2 = s1.2 := by rw [hs1]
  rw [← hn, e1, e2] at kC
  have HN : Hid (n = (cS l p e 1).1 ∧ s1 = (cS l p e 1).2) := ⟨hn, hs1⟩
  have HE : Aside (0 < n → s1.2 = 0) := hne
  have HO : Aside _ := hone
  have HKP : Aside _ := hkeep
  have HPS : Hid (PS B w R l p e) := h
  have HRW : Hid (R < w.heap.size) := hRw
  clear hn hs1 hne e1 e2 hone hkeep h hRw hple kt0
  go_enter Try.func103, Try.ntmps103
  go_wp2_with fail
  refine kC.mono ?_
  rintro er w1 ⟨rfl, h1, g1⟩
  have HP1 : Hid (PS B w1 R l s1.1 s1.2) := h1
  have HG1 : Hid (w.grownBy w1 (some R)) := g1
  have HK1 : Hid (KTT [136, 128] w w1) := (HPS.out.ktt g1).mono fun t ht => by simp at ht; simp [ht]
  clear kC h1 g1
  go_wp2_with fail
  go_loopg [5, 9] n (fun kx v5 v9 wr => ∃ (i : Nat) (xs : List (Int × Int)) (x5 : Value), v9 = .int .i64 (i : Int) ∧ x5 = v5 ∧ i ≤ n ∧ n - i ≤ kx ∧ Hid (xs.length = i) ∧ Hid (wr.ownsRow w.heap.size 128 2 x5 i (xs.flatMap cl_agg)) ∧ Hid (∀ x ∈ xs, Ok wr x) ∧ Hid (PS B wr R l (skN sf i s1).1 (skN sf i s1).2) ∧ Hid (w.grownBy wr (some R)) ∧ Hid (KTT [136, 128] w wr) ∧ Hid (0 < n → (skN sf i s1).2 = 0) ∧ Hid (s1.2 = 0 → xs.flatMap gg = rd l s1.1 (skN sf i s1).1))
  case atStart => exact ⟨0, [], _, rfl, rfl, by omega, Nat.le_refl _, rfl, ⟨rfl, .inl ⟨rfl, rfl⟩⟩, (fun _ h => by cases h), HP1, HG1, HK1, HE.out, fun _ => by show _ = rd l s1.1 s1.1; simp [rd]⟩
  case round =>
    obtain ⟨i, xs, vr, rfl, rfl, hi, hkx, HX, HOW, HOK, HP, HG, HK, HZ, HBB⟩ := hrel
    by_cases hlt : i < n
    · have hltz : (i : Int) < (n : Int) := by omega
      have kO := HO.out wr _ _ HK.out HP.out
      go_wp2_with fail
      refine kO.mono ?_
      rintro ev w2 ⟨x, rfl, hok, G⟩
      have HS2 : Hid (sf (skN sf i s1) = skN sf (i + 1) s1) := (skN_succ sf i s1).symm
      obtain ⟨E, hE⟩ : ∃ E, E = (sf (skN sf i s1)).2 := ⟨_, rfl⟩
      have HEE : Hid (E = (sf (skN sf i s1)).2) := hE
      have HGT : Hid (Got B R l wr w2 (skN sf i s1) sf (gg x)) := G
      have HXO : Hid (Ok w2 x) := hok
      have hz2' : R < w2.heap.size := G.ps.lt
      obtain ⟨a2, c2, hh2, -, -, -⟩ := G.ps.shape
      rw [← hE] at hh2
      have c1 : w2.cell? ⟨R, 1, none⟩ = some (.int .i64 (E : Int)) := BxA.cell (t := 136) hh2 1 _ rfl
      have HKR : Hid (KTT [136, 128] wr w2) := (HP.out.ktt G.g).mono fun t ht => by simp at ht; simp [ht]
      have HGW : Hid (w.grownBy w2 (some R)) := grown_trans' HG.out G.g
      have HOW2 : Hid (w2.ownsRow w.heap.size 128 2 vr i (xs.flatMap cl_agg)) := (HP.out.ktt G.g).own HOW.out (by decide)
      have hsz2 : w.heap.size ≤ w2.heap.size := HGW.out.size
      clear kO hE hok G hh2
      have HCL : Hid (cl_agg x = [.int .i64 x.1, .int .i64 x.2]) := by apply hide; simp only [cl_agg]
      by_cases he : E = 0
      · subst he
        go_wp2_with (first | (at_builtin; refine wpList_appK rfl _ _ 34 rfl w.heap.size 128 i0 (.agg #[.int .i64 0, .int .i64 0]) 2 16 Try.underlying34 hi0 hz0 hz1 hz2 rfl (by decide) vr i (xs.flatMap cl_agg) rfl ((World.ownsRow.alloc (World.ownsRow.alloc HOW2.out (.cells #[.int .i64 x.1, .int .i64 x.2] 128)) (.cells #[.int .i64 x.1, .int .i64 x.2] 128))) (.slice (some ⟨w2.heap.size + 1, 0, none⟩) 1 1) 1 (cl_agg x) rfl (by rw [HCL.out]; exact lit_rds' (w2.alloc (.cells #[.int .i64 x.1, .int .i64 x.2] 128)) [.int .i64 x.1, .int .i64 x.2] 128 _ (by simp)) (fun u hu => by rw [HCL.out] at hu; simp at hu; rcases hu with rfl | rfl <;> rfl) (by unfold maxLen; omega) (by omega) (Nat.le_trans hsz2 (by simp; omega)) ?_; intro v3 w3 o3 g3; have HO3 : Hid (w3.ownsRow w.heap.size 128 2 v3 (i + 1) (xs.flatMap cl_agg ++ cl_agg x)) := o3; have HG3 : Hid (((w2.alloc (.cells #[.int .i64 x.1, .int .i64 x.2] 128)).alloc (.cells #[.int .i64 x.1, .int .i64 x.2] 128)).grownBy w3 vr.ownBlock) := g3; clear o3 g3))
        have KA : KTT [136, 128] w2 w3 := ((KTT.alloc _ w2 (.cells #[.int .i64 x.1, .int .i64 x.2] 128)).trans (KTT.alloc _ (w2.alloc (.cells #[.int .i64 x.1, .int .i64 x.2] 128)) (.cells #[.int .i64 x.1, .int .i64 x.2] 128))).trans (own_grow (World.ownsRow.alloc (World.ownsRow.alloc HOW2.out (.cells #[.int .i64 x.1, .int .i64 x.2] 128)) (.cells #[.int .i64 x.1, .int .i64 x.2] 128)) HG3.out (by simp))
        have BA : Below (R + 1) w2 w3 := by
          refine (((Below.refl (R + 1) w2).alloc hz2' (.cells #[.int .i64 x.1, .int .i64 x.2] 128)).alloc (Nat.le_trans hz2' (by simp)) (.cells #[.int .i64 x.1, .int .i64 x.2] 128)).grown HG3.out (Nat.le_trans hz2' (by simp; omega)) fun g hg => ?_
          have := (World.ownsRow.lt (World.ownsRow.alloc (World.ownsRow.alloc HOW2.out (.cells #[.int .i64 x.1, .int .i64 x.2] 128)) (.cells #[.int .i64 x.1, .int .i64 x.2] 128)) g hg).1
          have := HRW.out
          omega
        go_roundg (n - (i + 1))
        case measure => omega
        case rel =>
          refine ⟨i + 1, xs ++ [x], v3, by go_num, rfl, by omega, Nat.le_refl _, by apply hide; simp [HX.out], ?_, ?_, ?_, ?_, HK.out.trans (HKR.out.trans KA), ?_, ?_⟩
          · apply hide
            have := HO3.out
            simpa using this
          · intro y hy
            rcases List.mem_append.1 hy with hy | hy
            · exact HKP.out y wr w3 (HOK.out y hy) (HKR.out.trans KA)
            · simp at hy
              subst hy
              exact HKP.out _ w2 w3 HXO.out KA
          · apply hide
            rw [← HS2.out]
            exact HGT.out.ps.keep BA
          · exact grown_new (grown_trans' (grown_trans' HGW.out (grown_alloc _ _ _)) (grown_alloc _ _ _)) (World.ownsRow.alloc (World.ownsRow.alloc HOW2.out (.cells #[.int .i64 x.1, .int .i64 x.2] 128)) (.cells #[.int .i64 x.1, .int .i64 x.2] 128)) HG3.out
          · intro _
            rw [← HS2.out]
            exact HEE.out.symm
          · intro h0
            have hle1 := (fwd_n hf i).le s1 HP1.out.le
            have hz := HZ.out (by omega)
            rw [List.flatMap_append, HBB.out h0, ← HS2.out]
            simp only [List.flatMap_cons, List.flatMap_nil, List.append_nil]
            rw [HGT.out.b hz HEE.out.symm]
            exact (rd_app l hle1.1 (hf.le _ hle1.2).1).symm
      · have hE1 : ¬ (E : Int) = 0 := by omega
        have hE2 : ((E : Int) == 0) = false := by simpa using he
        have hE3 : ((E : Int) != 0) = true := by simp [bne, hE2]
        go_wp2_with fail
        go_ret
        have es : skL l sf (p, e) = sf (skN sf i s1) := by
          show skN sf (cS l p e 1).1 (cS l p e 1).2 = _
          rw [← HN.out.1, ← HN.out.2, show n = (i + 1) + (n - (i + 1)) by omega, skN_add, ← HS2.out]
          exact skN_stay hf.stay _ _ (by rw [← HEE.out]; exact he)
        refine ⟨.slice none 0 0, [], rfl, ⟨rfl, .inl ⟨rfl, rfl⟩⟩, (fun _ h => by cases h), ?_, grown_trans' HGW.out (grown_alloc _ _ _), fun _ h2 => ?_⟩
        · rw [es]; exact HGT.out.ps.keep ((Below.refl (R + 1) w2).alloc hz2' _)
        · rw [es, ← HEE.out] at h2; exact absurd h2 he
    · have hltz : ¬ (i : Int) < (n : Int) := by omega
      obtain rfl : i = n := by omega
      go_wp2_with fail
      go_ret
      refine ⟨vr, rfl, xs, by rw [HX.out]; exact HOW.out, (by first | exact HOK.out | exact fun a b h => HOK.out (a, b) h), ?_, HG.out, fun h0 h2 => ?_⟩
      · have := HP.out
        rw [HN.out.1, HN.out.2] at this
        exact this
      · have hs0 : s1.2 = 0 := Classical.byContradiction fun hn0 => by
          have h3 : (skL l sf (p, e)).2 = s1.2 := by
            show (skN sf (cS l p e 1).1 (cS l p e 1).2).2 = _
            rw [← HN.out.2, skN_stay hf.stay _ _ hn0]
          rw [h3] at h2
          exact hn0 h2
        have hcb := c_bytes l (p, e) h0 (by show (cS l p e 1).2.2 = 0; rw [← HN.out.2]; exact hs0)
        have hb := HBB.out hs0
        have hle0 := (fwd_c l).le (p, e) HPS.out.le
        have hle1 := (fwd_n hf i).le s1 HP1.out.le
        have e1 : (skC l (p, e)).1 = s1.1 := by show (cS l p e 1).2.1 = _; rw [← HN.out.2]
        have e2 : (skL l sf (p, e)).1 = (skN sf i s1).1 := by
          show (skN sf (cS l p e 1).1 (cS l p e 1).2).1 = _
          rw [← HN.out.1, ← HN.out.2]
        rw [HX.out, hb, e2, HN.out.1, hcb.1, e1]
        have e3 : (skN sf (cS l p e 1).1 s1).1 = (skN sf i s1).1 := by rw [← HN.out.1]
        rw [e3]
        exact (rd_app l (by rw [← e1]; exact hle0.1) hle1.1).symm
theorem Try.inf_seg : (Try.prog.info? 38).map (fun i => (i.zero, i.size, i.bytes)) = some (some (.agg #[.int .i64 0, .int .i64 0, .int .i64 0, .int .i64 0, .int .i64 0]), 5, 40) := by kernel_rfl
set_option maxRecDepth 100000 in
set_option maxHeartbeats 3200000 in
theorem rl_seg (B R : Nat) (l : Bs) (w : World) (p e : Nat) (sf : Sg2 → Sg2) (gg : Sg → Bs) (Ok : World → Sg → Prop)  (hlb : l.length ≤ 1048576) (hf : Fwd l sf) (h : PS B w R l p e)
    (hkeep : ∀ x w w', Ok w x → KTT [136, 38] w w' → Ok w' x)
    (hone : ∀ w1 p1 e1, KTT [136, 38] w w1 → PS B w1 R l p1 e1 → Calls Try.prog 53 #[.pointer (some ⟨R, 0, none⟩)] w1 fun ev w' => ∃ x, ev = .returned (.agg #[.int .i64 x.F, .int .i64 x.T, .int .i64 x.V, .int .i64 x.P, .int .i64 x.C]) ∧ Ok w' x ∧ Got B R l w1 w' (p1, e1) sf (gg x)) :
    Calls Try.prog 52 #[.pointer (some ⟨R, 0, none⟩), .func (.func 53) #[.pointer (some ⟨R, 0, none⟩)] #[]] w fun ev w' => ∃ (v : Value) (xs : List (Sg)), ev = .returned v ∧ w'.ownsRow w.heap.size 38 5 v xs.length (xs.flatMap cl_seg) ∧ (∀ x ∈ xs, Ok w' x) ∧ Got B R l w w' (p, e) (skL l sf) (Num.uv xs.length ++ xs.flatMap gg) := by
  obtain ⟨i0, hi0, hz0, hz1, hz2⟩ := info_parts Try.inf_seg
  have hRw := h.lt
  have hple := h.le
  have kC := count_p B w R l p e 1 h (by omega) (by omega) (Nat.le_trans hlb (by decide))
  have kt0 : KTT [136, 38] w w := KTT.refl _ _
  obtain ⟨n, hn⟩ : ∃ n, n = (cS l p e 1).1 := ⟨_, rfl⟩
  obtain ⟨s1, hs1⟩ : ∃ s : Sg2, s = (cS l p e 1).2 := ⟨_, rfl⟩
  have hnl : n ≤ 1048576 := by rw [hn]; exact Nat.le_trans (c_le l p e hple) hlb
  have hne : 0 < n → s1.2 = 0 := fun h => by rw [hs1]; exact c_err l p e hple (by rw [← hn]; exact h)
  have e1 : (cS l p e 1).2.1 = s1.1 := by rw [hs1]
  have e2 : (cS l p e 1).2.2 = s1.2 := by rw [hs1]
  rw [← hn, e1, e2] at kC
  have HN : Hid (n = (cS l p e 1).1 ∧ s1 = (cS l p e 1).2) := ⟨hn, hs1⟩
  have HE : Aside (0 < n → s1.2 = 0) := hne
  have HO : Aside _ := hone
  have HKP : Aside _ := hkeep
  have HPS : Hid (PS B w R l p e) := h
  have HRW : Hid (R < w.heap.size) := hRw
  clear hn hs1 hne e1 e2 hone hkeep h hRw hple kt0
  go_enter Try.func52, Try.ntmps52
  go_wp2_with fail
  refine kC.mono ?_
  rintro er w1 ⟨rfl, h1, g1⟩
  have HP1 : Hid (PS B w1 R l s1.1 s1.2) := h1
  have HG1 : Hid (w.grownBy w1 (some R)) := g1
  have HK1 : Hid (KTT [136, 38] w w1) := (HPS.out.ktt g1).mono fun t ht => by simp at ht; simp [ht]
  clear kC h1 g1
  go_wp2_with fail
  go_loopg [5, 9] n (fun kx v5 v9 wr => ∃ (i : Nat) (xs : List (Sg)) (x5 : Value), v9 = .int .i64 (i : Int) ∧ x5 = v5 ∧ i ≤ n ∧ n - i ≤ kx ∧ Hid (xs.length = i) ∧ Hid (wr.ownsRow w.heap.size 38 5 x5 i (xs.flatMap cl_seg)) ∧ Hid (∀ x ∈ xs, Ok wr x) ∧ Hid (PS B wr R l (skN sf i s1).1 (skN sf i s1).2) ∧ Hid (w.grownBy wr (some R)) ∧ Hid (KTT [136, 38] w wr) ∧ Hid (0 < n → (skN sf i s1).2 = 0) ∧ Hid (s1.2 = 0 → xs.flatMap gg = rd l s1.1 (skN sf i s1).1))
  case atStart => exact ⟨0, [], _, rfl, rfl, by omega, Nat.le_refl _, rfl, ⟨rfl, .inl ⟨rfl, rfl⟩⟩, (fun _ h => by cases h), HP1, HG1, HK1, HE.out, fun _ => by show _ = rd l s1.1 s1.1; simp [rd]⟩
  case round =>
    obtain ⟨i, xs, vr, rfl, rfl, hi, hkx, HX, HOW, HOK, HP, HG, HK, HZ, HBB⟩ := hrel
    by_cases hlt : i < n
    · have hltz : (i : Int) < (n : Int) := by omega
      have kO := HO.out wr _ _ HK.out HP.out
      go_wp2_with fail
      refine kO.mono ?_
      rintro ev w2 ⟨x, rfl, hok, G⟩
      have HS2 : Hid (sf (skN sf i s1) = skN sf (i + 1) s1) := (skN_succ sf i s1).symm
      obtain ⟨E, hE⟩ : ∃ E, E = (sf (skN sf i s1)).2 := ⟨_, rfl⟩
      have HEE : Hid (E = (sf (skN sf i s1)).2) := hE
      have HGT : Hid (Got B R l wr w2 (skN sf i s1) sf (gg x)) := G
      have HXO : Hid (Ok w2 x) := hok
      have hz2' : R < w2.heap.size := G.ps.lt
      obtain ⟨a2, c2, hh2, -, -, -⟩ := G.ps.shape
      rw [← hE] at hh2
      have c1 : w2.cell? ⟨R, 1, none⟩ = some (.int .i64 (E : Int)) := BxA.cell (t := 136) hh2 1 _ rfl
      have HKR : Hid (KTT [136, 38] wr w2) := (HP.out.ktt G.g).mono fun t ht => by simp at ht; simp [ht]
      have HGW : Hid (w.grownBy w2 (some R)) := grown_trans' HG.out G.g
      have HOW2 : Hid (w2.ownsRow w.heap.size 38 5 vr i (xs.flatMap cl_seg)) := (HP.out.ktt G.g).own HOW.out (by decide)
      have hsz2 : w.heap.size ≤ w2.heap.size := HGW.out.size
      clear kO hE hok G hh2
      have HCL : Hid (cl_seg x = [.int .i64 x.F, .int .i64 x.T, .int .i64 x.V, .int .i64 x.P, .int .i64 x.C]) := by apply hide; simp only [cl_seg]
      by_cases he : E = 0
      · subst he
        go_wp2_with (first | (at_builtin; refine wpList_appK rfl _ _ 43 rfl w.heap.size 38 i0 (.agg #[.int .i64 0, .int .i64 0, .int .i64 0, .int .i64 0, .int .i64 0]) 5 40 Try.underlying43 hi0 hz0 hz1 hz2 rfl (by decide) vr i (xs.flatMap cl_seg) rfl ((World.ownsRow.alloc (World.ownsRow.alloc HOW2.out (.cells #[.int .i64 x.F, .int .i64 x.T, .int .i64 x.V, .int .i64 x.P, .int .i64 x.C] 38)) (.cells #[.int .i64 x.F, .int .i64 x.T, .int .i64 x.V, .int .i64 x.P, .int .i64 x.C] 38))) (.slice (some ⟨w2.heap.size + 1, 0, none⟩) 1 1) 1 (cl_seg x) rfl (by rw [HCL.out]; exact lit_rds' (w2.alloc (.cells #[.int .i64 x.F, .int .i64 x.T, .int .i64 x.V, .int .i64 x.P, .int .i64 x.C] 38)) [.int .i64 x.F, .int .i64 x.T, .int .i64 x.V, .int .i64 x.P, .int .i64 x.C] 38 _ (by simp)) (fun u hu => by rw [HCL.out] at hu; simp at hu; rcases hu with rfl | rfl | rfl | rfl | rfl <;> rfl) (by unfold maxLen; omega) (by omega) (Nat.le_trans hsz2 (by simp; omega)) ?_; intro v3 w3 o3 g3; have HO3 : Hid (w3.ownsRow w.heap.size 38 5 v3 (i + 1) (xs.flatMap cl_seg ++ cl_seg x)) := o3; have HG3 : Hid (((w2.alloc (.cells #[.int .i64 x.F, .int .i64 x.T, .int .i64 x.V, .int .i64 x.P, .int .i64 x.C] 38)).alloc (.cells #[.int .i64 x.F, .int .i64 x.T, .int .i64 x.V, .int .i64 x.P, .int .i64 x.C] 38)).grownBy w3 vr.ownBlock) := g3; clear o3 g3))
        have KA : KTT [136, 38] w2 w3 := ((KTT.alloc _ w2 (.cells #[.int .i64 x.F, .int .i64 x.T, .int .i64 x.V, .int .i64 x.P, .int .i64 x.C] 38)).trans (KTT.alloc _ (w2.alloc (.cells #[.int .i64 x.F, .int .i64 x.T, .int .i64 x.V, .int .i64 x.P, .int .i64 x.C] 38)) (.cells #[.int .i64 x.F, .int .i64 x.T, .int .i64 x.V, .int .i64 x.P, .int .i64 x.C] 38))).trans (own_grow (World.ownsRow.alloc (World.ownsRow.alloc HOW2.out (.cells #[.int .i64 x.F, .int .i64 x.T, .int .i64 x.V, .int .i64 x.P, .int .i64 x.C] 38)) (.cells #[.int .i64 x.F, .int .i64 x.T, .int .i64 x.V, .int .i64 x.P, .int .i64 x.C] 38)) HG3.out (by simp))
        have BA : Below (R + 1) w2 w3 := by
          refine (((Below.refl (R + 1) w2).alloc hz2' (.cells #[.int .i64 x.F, .int .i64 x.T, .int .i64 x.V, .int .i64 x.P, .int .i64 x.C] 38)).alloc (Nat.le_trans hz2' (by simp)) (.cells #[.int .i64 x.F, .int .i64 x.T, .int .i64 x.V, .int .i64 x.P, .int .i64 x.C] 38)).grown HG3.out (Nat.le_trans hz2' (by simp; omega)) fun g hg => ?_
          have := (World.ownsRow.lt (World.ownsRow.alloc (World.ownsRow.alloc HOW2.out (.cells #[.int .i64 x.F, .int .i64 x.T, .int .i64 x.V, .int .i64 x.P, .int .i64 x.C] 38)) (.cells #[.int .i64 x.F, .int .i64 x.T, .int .i64 x.V, .int .i64 x.P, .int .i64 x.C] 38)) g hg).1
          have := HRW.out
          omega
        go_roundg (n - (i + 1))
        case measure => omega
        case rel =>
          refine ⟨i + 1, xs ++ [x], v3, by go_num, rfl, by omega, Nat.le_refl _, by apply hide; simp [HX.out], ?_, ?_, ?_, ?_, HK.out.trans (HKR.out.trans KA), ?_, ?_⟩
          · apply hide
            have := HO3.out
            simpa using this
          · intro y hy
            rcases List.mem_append.1 hy with hy | hy
            · exact HKP.out y wr w3 (HOK.out y hy) (HKR.out.trans KA)
            · simp at hy
              subst hy
              exact HKP.out _ w2 w3 HXO.out KA
          · apply hide
            rw [← HS2.out]
            exact HGT.out.ps.keep BA
          · exact grown_new (grown_trans' (grown_trans' HGW.out (grown_alloc _ _ _)) (grown_alloc _ _ _)) (World.ownsRow.alloc (World.ownsRow.alloc HOW2.out (.cells #[.int .i64 x.F, .int .i64 x.T, .int .i64 x.V, .int .i64 x.P, .int .i64 x.C] 38)) (.cells #[.int .i64 x.F, .int .i64 x.T, .int .i64 x.V, .int .i64 x.P, .int .i64 x.C] 38)) HG3.out
          · intro _
            rw [← HS2.out]
            exact HEE.out.symm
          · intro h0
            have hle1 := (fwd_n hf i).le s1 HP1.out.le
            have hz := HZ.out (by omega)
            rw [List.flatMap_append, HBB.out h0, ← HS2.out]
            simp only [List.flatMap_cons, List.flatMap_nil, List.append_nil]
            rw [HGT.out.b hz HEE.out.symm]
            exact (rd_app l hle1.1 (hf.le _ hle1.2).1).symm
      · have hE1 : ¬ (E : Int) = 0 := by omega
        have hE2 : ((E : Int) == 0) = false := by simpa using he
        have hE3 : ((E : Int) != 0) = true := by simp [bne, hE2]
        go_wp2_with fail
        go_ret
        have es : skL l sf (p, e) = sf (skN sf i s1) := by
          show skN sf (cS l p e 1).1 (cS l p e 1).2 = _
          rw [← HN.out.1, ← HN.out.2, show n = (i + 1) + (n - (i + 1)) by omega, skN_add, ← HS2.out]
          exact skN_stay hf.stay _ _ (by rw [← HEE.out]; exact he)
        refine ⟨.slice none 0 0, [], rfl, ⟨rfl, .inl ⟨rfl, rfl⟩⟩, (fun _ h => by cases h), ?_, grown_trans' HGW.out (grown_alloc _ _ _), fun _ h2 => ?_⟩
        · rw [es]; exact HGT.out.ps.keep ((Below.refl (R + 1) w2).alloc hz2' _)
        · rw [es, ← HEE.out] at h2; exact absurd h2 he
    · have hltz : ¬ (i : Int) < (n : Int) := by omega
      obtain rfl : i = n := by omega
      go_wp2_with fail
      go_ret
      refine ⟨vr, rfl, xs, by rw [HX.out]; exact HOW.out, (by first | exact HOK.out | exact fun a b h => HOK.out (a, b) h), ?_, HG.out, fun h0 h2 => ?_⟩
      · have := HP.out
        rw [HN.out.1, HN.out.2] at this
        exact this
      · have hs0 : s1.2 = 0 := Classical.byContradiction fun hn0 => by
          have h3 : (skL l sf (p, e)).2 = s1.2 := by
            show (skN sf (cS l p e 1).1 (cS l p e 1).2).2 = _
            rw [← HN.out.2, skN_stay hf.stay _ _ hn0]
          rw [h3] at h2
          exact hn0 h2
        have hcb := c_bytes l (p, e) h0 (by show (cS l p e 1).2.2 = 0; rw [← HN.out.2]; exact hs0)
        have hb := HBB.out hs0
        have hle0 := (fwd_c l).le (p, e) HPS.out.le
        have hle1 := (fwd_n hf i).le s1 HP1.out.le
        have e1 : (skC l (p, e)).1 = s1.1 := by show (cS l p e 1).2.1 = _; rw [← HN.out.2]
        have e2 : (skL l sf (p, e)).1 = (skN sf i s1).1 := by
          show (skN sf (cS l p e 1).1 (cS l p e 1).2).1 = _
          rw [← HN.out.1, ← HN.out.2]
        rw [HX.out, hb, e2, HN.out.1, hcb.1, e1]
        have e3 : (skN sf (cS l p e 1).1 s1).1 = (skN sf i s1).1 := by rw [← HN.out.1]
        rw [e3]
        exact (rd_app l (by rw [← e1]; exact hle0.1) hle1.1).symm
theorem Try.inf_set : (Try.prog.info? 123).map (fun i => (i.zero, i.size, i.bytes)) = some (some (.slice none 0 0), 1, 24) := by kernel_rfl
set_option maxRecDepth 100000 in
set_option maxHeartbeats 3200000 in
theorem rl_set (B R : Nat) (l : Bs) (w : World) (p e : Nat) (sf : Sg2 → Sg2) (gg : Value × List Int → Bs) (Ok : World → Value × List Int → Prop) (bx : Nat) (hlb : l.length ≤ 1048576) (hf : Fwd l sf) (h : PS B w R l p e)
    (hkeep : ∀ x w w', Ok w x → KTT [136, 123] w w' → Ok w' x) (hsl : ∀ x w, Ok w x → (∃ a n c, x.1 = .slice a n c))
    (hone : ∀ w1 p1 e1, KTT [136, 123] w w1 → PS B w1 R l p1 e1 → Calls Try.prog 101 #[.pointer (some ⟨bx, 0, none⟩)] w1 fun ev w' => ∃ x, ev = .returned (x.1) ∧ Ok w' x ∧ Got B R l w1 w' (p1, e1) sf (gg x)) :
    Calls Try.prog 100 #[.pointer (some ⟨R, 0, none⟩), .func (.func 101) #[] #[.pointer (some ⟨bx, 0, none⟩)]] w fun ev w' => ∃ (v : Value) (xs : List (Value × List Int)), ev = .returned v ∧ w'.ownsRow w.heap.size 123 1 v xs.length (xs.flatMap cl_set) ∧ (∀ x ∈ xs, Ok w' x) ∧ Got B R l w w' (p, e) (skL l sf) (Num.uv xs.length ++ xs.flatMap gg) := by
  obtain ⟨i0, hi0, hz0, hz1, hz2⟩ := info_parts Try.inf_set
  have hRw := h.lt
  have hple := h.le
  have kC := count_p B w R l p e 1 h (by omega) (by omega) (Nat.le_trans hlb (by decide))
  have kt0 : KTT [136, 123] w w := KTT.refl _ _
  obtain ⟨n, hn⟩ : ∃ n, n = (cS l p e 1).1 := ⟨_, rfl⟩
  obtain ⟨s1, hs1⟩ : ∃ s : Sg2, s = (cS l p e 1).2 := ⟨_, rfl⟩
  have hnl : n ≤ 1048576 := by rw [hn]; exact Nat.le_trans (c_le l p e hple) hlb
  have hne : 0 < n → s1.2 = 0 := fun h => by rw [hs1]; exact c_err l p e hple (by rw [← hn]; exact h)
  have e1 : (cS l p e 1).2.1 = s1.1 := by rw [hs1]
  have e2 : (cS l p e 1).2.2 = s1.2 := by rw [hs1]
  rw [← hn, e1, e2] at kC
  have HN : Hid (n = (cS l p e 1).1 ∧ s1 = (cS l p e 1).2) := ⟨hn, hs1⟩
  have HE : Aside (0 < n → s1.2 = 0) := hne
  have HO : Aside _ := hone
  have HKP : Aside _ := hkeep
  have HPS : Hid (PS B w R l p e) := h
  have HRW : Hid (R < w.heap.size) := hRw
  clear hn hs1 hne e1 e2 hone hkeep h hRw hple kt0
  go_enter Try.func100, Try.ntmps100
  go_wp2_with fail
  refine kC.mono ?_
  rintro er w1 ⟨rfl, h1, g1⟩
  have HP1 : Hid (PS B w1 R l s1.1 s1.2) := h1
  have HG1 : Hid (w.grownBy w1 (some R)) := g1
  have HK1 : Hid (KTT [136, 123] w w1) := (HPS.out.ktt g1).mono fun t ht => by simp at ht; simp [ht]
  clear kC h1 g1
  go_wp2_with fail
  go_loopg [5, 9] n (fun kx v5 v9 wr => ∃ (i : Nat) (xs : List (Value × List Int)) (x5 : Value), v9 = .int .i64 (i : Int) ∧ x5 = v5 ∧ i ≤ n ∧ n - i ≤ kx ∧ Hid (xs.length = i) ∧ Hid (wr.ownsRow w.heap.size 123 1 x5 i (xs.flatMap cl_set)) ∧ Hid (∀ x ∈ xs, Ok wr x) ∧ Hid (PS B wr R l (skN sf i s1).1 (skN sf i s1).2) ∧ Hid (w.grownBy wr (some R)) ∧ Hid (KTT [136, 123] w wr) ∧ Hid (0 < n → (skN sf i s1).2 = 0) ∧ Hid (s1.2 = 0 → xs.flatMap gg = rd l s1.1 (skN sf i s1).1))
  case atStart => exact ⟨0, [], _, rfl, rfl, by omega, Nat.le_refl _, rfl, ⟨rfl, .inl ⟨rfl, rfl⟩⟩, (fun _ h => by cases h), HP1, HG1, HK1, HE.out, fun _ => by show _ = rd l s1.1 s1.1; simp [rd]⟩
  case round =>
    obtain ⟨i, xs, vr, rfl, rfl, hi, hkx, HX, HOW, HOK, HP, HG, HK, HZ, HBB⟩ := hrel
    by_cases hlt : i < n
    · have hltz : (i : Int) < (n : Int) := by omega
      have kO := HO.out wr _ _ HK.out HP.out
      go_wp2_with fail
      refine kO.mono ?_
      rintro ev w2 ⟨x, rfl, hok, G⟩
      have HS2 : Hid (sf (skN sf i s1) = skN sf (i + 1) s1) := (skN_succ sf i s1).symm
      obtain ⟨E, hE⟩ : ∃ E, E = (sf (skN sf i s1)).2 := ⟨_, rfl⟩
      have HEE : Hid (E = (sf (skN sf i s1)).2) := hE
      have HGT : Hid (Got B R l wr w2 (skN sf i s1) sf (gg x)) := G
      have HXO : Hid (Ok w2 x) := hok
      have hz2' : R < w2.heap.size := G.ps.lt
      obtain ⟨a2, c2, hh2, -, -, -⟩ := G.ps.shape
      rw [← hE] at hh2
      have c1 : w2.cell? ⟨R, 1, none⟩ = some (.int .i64 (E : Int)) := BxA.cell (t := 136) hh2 1 _ rfl
      have HKR : Hid (KTT [136, 123] wr w2) := (HP.out.ktt G.g).mono fun t ht => by simp at ht; simp [ht]
      have HGW : Hid (w.grownBy w2 (some R)) := grown_trans' HG.out G.g
      have HOW2 : Hid (w2.ownsRow w.heap.size 123 1 vr i (xs.flatMap cl_set)) := (HP.out.ktt G.g).own HOW.out (by decide)
      have hsz2 : w.heap.size ≤ w2.heap.size := HGW.out.size
      clear kO hE hok G hh2
      obtain ⟨sa0, sn0, sc0, se0⟩ := (hsl x w2 HXO.out)
      have HCL : Hid (cl_set x = [.slice sa0 sn0 sc0]) := by apply hide; simp only [cl_set, se0]
      rw [se0]
      clear se0
      by_cases he : E = 0
      · subst he
        go_wp2_with (first | (at_builtin; refine wpList_appK rfl _ _ 33 rfl w.heap.size 123 i0 (.slice none 0 0) 1 24 Try.underlying33 hi0 hz0 hz1 hz2 rfl (by decide) vr i (xs.flatMap cl_set) rfl ((World.ownsRow.alloc HOW2.out (.cells #[.slice sa0 sn0 sc0] 123))) (.slice (some ⟨w2.heap.size, 0, none⟩) 1 1) 1 (cl_set x) rfl (by rw [HCL.out]; exact lit_rds' w2 [.slice sa0 sn0 sc0] 123 _ (by simp)) (fun u hu => by rw [HCL.out] at hu; simp at hu; subst hu; rfl) (by unfold maxLen; omega) (by omega) (Nat.le_trans hsz2 (by simp)) ?_; intro v3 w3 o3 g3; have HO3 : Hid (w3.ownsRow w.heap.size 123 1 v3 (i + 1) (xs.flatMap cl_set ++ cl_set x)) := o3; have HG3 : Hid ((w2.alloc (.cells #[.slice sa0 sn0 sc0] 123)).grownBy w3 vr.ownBlock) := g3; clear o3 g3))
        have KA : KTT [136, 123] w2 w3 := (KTT.alloc _ w2 (.cells #[.slice sa0 sn0 sc0] 123)).trans (own_grow (World.ownsRow.alloc HOW2.out (.cells #[.slice sa0 sn0 sc0] 123)) HG3.out (by simp))
        have BA : Below (R + 1) w2 w3 := by
          refine ((Below.refl (R + 1) w2).alloc hz2' (.cells #[.slice sa0 sn0 sc0] 123)).grown HG3.out (Nat.le_trans hz2' (by simp)) fun g hg => ?_
          have := (World.ownsRow.lt (World.ownsRow.alloc HOW2.out (.cells #[.slice sa0 sn0 sc0] 123)) g hg).1
          have := HRW.out
          omega
        go_roundg (n - (i + 1))
        case measure => omega
        case rel =>
          refine ⟨i + 1, xs ++ [x], v3, by go_num, rfl, by omega, Nat.le_refl _, by apply hide; simp [HX.out], ?_, ?_, ?_, ?_, HK.out.trans (HKR.out.trans KA), ?_, ?_⟩
          · apply hide
            have := HO3.out
            simpa using this
          · intro y hy
            rcases List.mem_append.1 hy with hy | hy
            · exact HKP.out y wr w3 (HOK.out y hy) (HKR.out.trans KA)
            · simp at hy
              subst hy
              exact HKP.out _ w2 w3 HXO.out KA
          · apply hide
            rw [← HS2.out]
            exact HGT.out.ps.keep BA
          · exact grown_new (grown_trans' HGW.out (grown_alloc _ _ _)) (World.ownsRow.alloc HOW2.out (.cells #[.slice sa0 sn0 sc0] 123)) HG3.out
          · intro _
            rw [← HS2.out]
            exact HEE.out.symm
          · intro h0
            have hle1 := (fwd_n hf i).le s1 HP1.out.le
            have hz := HZ.out (by omega)
            rw [List.flatMap_append, HBB.out h0, ← HS2.out]
            simp only [List.flatMap_cons, List.flatMap_nil, List.append_nil]
            rw [HGT.out.b hz HEE.out.symm]
            exact (rd_app l hle1.1 (hf.le _ hle1.2).1).symm
      · have hE1 : ¬ (E : Int) = 0 := by omega
        have hE2 : ((E : Int) == 0) = false := by simpa using he
        have hE3 : ((E : Int) != 0) = true := by simp [bne, hE2]
        go_wp2_with fail
        go_ret
        have es : skL l sf (p, e) = sf (skN sf i s1) := by
          show skN sf (cS l p e 1).1 (cS l p e 1).2 = _
          rw [← HN.out.1, ← HN.out.2, show n = (i + 1) + (n - (i + 1)) by omega, skN_add, ← HS2.out]
          exact skN_stay hf.stay _ _ (by rw [← HEE.out]; exact he)
        refine ⟨.slice none 0 0, [], rfl, ⟨rfl, .inl ⟨rfl, rfl⟩⟩, (fun _ h => by cases h), ?_, HGW.out, fun _ h2 => ?_⟩
        · rw [es]; exact HGT.out.ps
        · rw [es, ← HEE.out] at h2; exact absurd h2 he
    · have hltz : ¬ (i : Int) < (n : Int) := by omega
      obtain rfl : i = n := by omega
      go_wp2_with fail
      go_ret
      refine ⟨vr, rfl, xs, by rw [HX.out]; exact HOW.out, (by first | exact HOK.out | exact fun a b h => HOK.out (a, b) h), ?_, HG.out, fun h0 h2 => ?_⟩
      · have := HP.out
        rw [HN.out.1, HN.out.2] at this
        exact this
      · have hs0 : s1.2 = 0 := Classical.byContradiction fun hn0 => by
          have h3 : (skL l sf (p, e)).2 = s1.2 := by
            show (skN sf (cS l p e 1).1 (cS l p e 1).2).2 = _
            rw [← HN.out.2, skN_stay hf.stay _ _ hn0]
          rw [h3] at h2
          exact hn0 h2
        have hcb := c_bytes l (p, e) h0 (by show (cS l p e 1).2.2 = 0; rw [← HN.out.2]; exact hs0)
        have hb := HBB.out hs0
        have hle0 := (fwd_c l).le (p, e) HPS.out.le
        have hle1 := (fwd_n hf i).le s1 HP1.out.le
        have e1 : (skC l (p, e)).1 = s1.1 := by show (cS l p e 1).2.1 = _; rw [← HN.out.2]
        have e2 : (skL l sf (p, e)).1 = (skN sf i s1).1 := by
          show (skN sf (cS l p e 1).1 (cS l p e 1).2).1 = _
          rw [← HN.out.1, ← HN.out.2]
        rw [HX.out, hb, e2, HN.out.1, hcb.1, e1]
        have e3 : (skN sf (cS l p e 1).1 s1).1 = (skN sf i s1).1 := by rw [← HN.out.1]
        rw [e3]
        exact (rd_app l (by rw [← e1]; exact hle0.1) hle1.1).symm
theorem Try.inf_prt : (Try.prog.info? 87).map (fun i => (i.zero, i.size, i.bytes)) = some (some (.agg #[.int .u64 0, .int .i64 0, .slice none 0 0]), 3, 40) := by kernel_rfl
set_option maxRecDepth 100000 in
set_option maxHeartbeats 3200000 in
theorem rl_prt (B R : Nat) (l : Bs) (w : World) (p e : Nat) (sf : Sg2 → Sg2) (gg : Pt → Bs) (Ok : World → Pt → Prop)  (hlb : l.length ≤ 1048576) (hf : Fwd l sf) (h : PS B w R l p e)
    (hkeep : ∀ x w w', Ok w x → KTT [136, 87] w w' → Ok w' x) (hsl : ∀ x w, Ok w x → (∃ a n c, x.tv = .slice a n c))
    (hone : ∀ w1 p1 e1, KTT [136, 87] w w1 → PS B w1 R l p1 e1 → Calls Try.prog 108 #[.pointer (some ⟨R, 0, none⟩)] w1 fun ev w' => ∃ x, ev = .returned (.agg #[.int .u64 (x.n : Nat), .int .i64 x.v, x.tv]) ∧ Ok w' x ∧ Got B R l w1 w' (p1, e1) sf (gg x)) :
    Calls Try.prog 107 #[.pointer (some ⟨R, 0, none⟩), .func (.func 108) #[.pointer (some ⟨R, 0, none⟩)] #[]] w fun ev w' => ∃ (v : Value) (xs : List (Pt)), ev = .returned v ∧ w'.ownsRow w.heap.size 87 3 v xs.length (xs.flatMap cl_prt) ∧ (∀ x ∈ xs, Ok w' x) ∧ Got B R l w w' (p, e) (skL l sf) (Num.uv xs.length ++ xs.flatMap gg) := by
  obtain ⟨i0, hi0, hz0, hz1, hz2⟩ := info_parts Try.inf_prt
  have hRw := h.lt
  have hple := h.le
  have kC := count_p B w R l p e 1 h (by omega) (by omega) (Nat.le_trans hlb (by decide))
  have kt0 : KTT [136, 87] w w := KTT.refl _ _
  obtain ⟨n, hn⟩ : ∃ n, n = (cS l p e 1).1 := ⟨_, rfl⟩
  obtain ⟨s1, hs1⟩ : ∃ s : Sg2, s = (cS l p e 1).2 := ⟨_, rfl⟩
  have hnl : n ≤ 1048576 := by rw [hn]; exact Nat.le_trans (c_le l p e hple) hlb
  have hne : 0 < n → s1.2 = 0 := fun h => by rw [hs1]; exact c_err l p e hple (by rw [← hn]; exact h)
  have e1 : (cS l p e 1).2.1 = s1.1 := by rw [hs1]
  have e2 : (cS l p e 1).2.2 = s1.2 := by rw [hs1]
  rw [← hn, e1, e2] at kC
  have HN : Hid (n = (cS l p e 1).1 ∧ s1 = (cS l p e 1).2) := ⟨hn, hs1⟩
  have HE : Aside (0 < n → s1.2 = 0) := hne
  have HO : Aside _ := hone
  have HKP : Aside _ := hkeep
  have HPS : Hid (PS B w R l p e) := h
  have HRW : Hid (R < w.heap.size) := hRw
  clear hn hs1 hne e1 e2 hone hkeep h hRw hple kt0
  go_enter Try.func107, Try.ntmps107
  go_wp2_with fail
  refine kC.mono ?_
  rintro er w1 ⟨rfl, h1, g1⟩
  have HP1 : Hid (PS B w1 R l s1.1 s1.2) := h1
  have HG1 : Hid (w.grownBy w1 (some R)) := g1
  have HK1 : Hid (KTT [136, 87] w w1) := (HPS.out.ktt g1).mono fun t ht => by simp at ht; simp [ht]
  clear kC h1 g1
  go_wp2_with fail
  go_loopg [5, 9] n (fun kx v5 v9 wr => ∃ (i : Nat) (xs : List (Pt)) (x5 : Value), v9 = .int .i64 (i : Int) ∧ x5 = v5 ∧ i ≤ n ∧ n - i ≤ kx ∧ Hid (xs.length = i) ∧ Hid (wr.ownsRow w.heap.size 87 3 x5 i (xs.flatMap cl_prt)) ∧ Hid (∀ x ∈ xs, Ok wr x) ∧ Hid (PS B wr R l (skN sf i s1).1 (skN sf i s1).2) ∧ Hid (w.grownBy wr (some R)) ∧ Hid (KTT [136, 87] w wr) ∧ Hid (0 < n → (skN sf i s1).2 = 0) ∧ Hid (s1.2 = 0 → xs.flatMap gg = rd l s1.1 (skN sf i s1).1))
  case atStart => exact ⟨0, [], _, rfl, rfl, by omega, Nat.le_refl _, rfl, ⟨rfl, .inl ⟨rfl, rfl⟩⟩, (fun _ h => by cases h), HP1, HG1, HK1, HE.out, fun _ => by show _ = rd l s1.1 s1.1; simp [rd]⟩
  case round =>
    obtain ⟨i, xs, vr, rfl, rfl, hi, hkx, HX, HOW, HOK, HP, HG, HK, HZ, HBB⟩ := hrel
    by_cases hlt : i < n
    · have hltz : (i : Int) < (n : Int) := by omega
      have kO := HO.out wr _ _ HK.out HP.out
      go_wp2_with fail
      refine kO.mono ?_
      rintro ev w2 ⟨x, rfl, hok, G⟩
      have HS2 : Hid (sf (skN sf i s1) = skN sf (i + 1) s1) := (skN_succ sf i s1).symm
      obtain ⟨E, hE⟩ : ∃ E, E = (sf (skN sf i s1)).2 := ⟨_, rfl⟩
      have HEE : Hid (E = (sf (skN sf i s1)).2) := hE
      have HGT : Hid (Got B R l wr w2 (skN sf i s1) sf (gg x)) := G
      have HXO : Hid (Ok w2 x) := hok
      have hz2' : R < w2.heap.size := G.ps.lt
      obtain ⟨a2, c2, hh2, -, -, -⟩ := G.ps.shape
      rw [← hE] at hh2
      have c1 : w2.cell? ⟨R, 1, none⟩ = some (.int .i64 (E : Int)) := BxA.cell (t := 136) hh2 1 _ rfl
      have HKR : Hid (KTT [136, 87] wr w2) := (HP.out.ktt G.g).mono fun t ht => by simp at ht; simp [ht]
      have HGW : Hid (w.grownBy w2 (some R)) := grown_trans' HG.out G.g
      have HOW2 : Hid (w2.ownsRow w.heap.size 87 3 vr i (xs.flatMap cl_prt)) := (HP.out.ktt G.g).own HOW.out (by decide)
      have hsz2 : w.heap.size ≤ w2.heap.size := HGW.out.size
      clear kO hE hok G hh2
      obtain ⟨sa0, sn0, sc0, se0⟩ := (hsl x w2 HXO.out)
      have HCL : Hid (cl_prt x = [.int .u64 (x.n : Nat), .int .i64 x.v, .slice sa0 sn0 sc0]) := by apply hide; simp only [cl_prt, se0]
      rw [se0]
      clear se0
      by_cases he : E = 0
      · subst he
        go_wp2_with (first | (at_builtin; refine wpList_appK rfl _ _ 75 rfl w.heap.size 87 i0 (.agg #[.int .u64 0, .int .i64 0, .slice none 0 0]) 3 40 Try.underlying75 hi0 hz0 hz1 hz2 rfl (by decide) vr i (xs.flatMap cl_prt) rfl ((World.ownsRow.alloc (World.ownsRow.alloc HOW2.out (.cells #[.int .u64 (x.n : Nat), .int .i64 x.v, .slice sa0 sn0 sc0] 87)) (.cells #[.int .u64 (x.n : Nat), .int .i64 x.v, .slice sa0 sn0 sc0] 87))) (.slice (some ⟨w2.heap.size + 1, 0, none⟩) 1 1) 1 (cl_prt x) rfl (by rw [HCL.out]; exact lit_rds' (w2.alloc (.cells #[.int .u64 (x.n : Nat), .int .i64 x.v, .slice sa0 sn0 sc0] 87)) [.int .u64 (x.n : Nat), .int .i64 x.v, .slice sa0 sn0 sc0] 87 _ (by simp)) (fun u hu => by rw [HCL.out] at hu; simp at hu; rcases hu with rfl | rfl | rfl <;> rfl) (by unfold maxLen; omega) (by omega) (Nat.le_trans hsz2 (by simp; omega)) ?_; intro v3 w3 o3 g3; have HO3 : Hid (w3.ownsRow w.heap.size 87 3 v3 (i + 1) (xs.flatMap cl_prt ++ cl_prt x)) := o3; have HG3 : Hid (((w2.alloc (.cells #[.int .u64 (x.n : Nat), .int .i64 x.v, .slice sa0 sn0 sc0] 87)).alloc (.cells #[.int .u64 (x.n : Nat), .int .i64 x.v, .slice sa0 sn0 sc0] 87)).grownBy w3 vr.ownBlock) := g3; clear o3 g3))
        have KA : KTT [136, 87] w2 w3 := ((KTT.alloc _ w2 (.cells #[.int .u64 (x.n : Nat), .int .i64 x.v, .slice sa0 sn0 sc0] 87)).trans (KTT.alloc _ (w2.alloc (.cells #[.int .u64 (x.n : Nat), .int .i64 x.v, .slice sa0 sn0 sc0] 87)) (.cells #[.int .u64 (x.n : Nat), .int .i64 x.v, .slice sa0 sn0 sc0] 87))).trans (own_grow (World.ownsRow.alloc (World.ownsRow.alloc HOW2.out (.cells #[.int .u64 (x.n : Nat), .int .i64 x.v, .slice sa0 sn0 sc0] 87)) (.cells #[.int .u64 (x.n : Nat), .int .i64 x.v, .slice sa0 sn0 sc0] 87)) HG3.out (by simp))
        have BA : Below (R + 1) w2 w3 := by
          refine (((Below.refl (R + 1) w2).alloc hz2' (.cells #[.int .u64 (x.n : Nat), .int .i64 x.v, .slice sa0 sn0 sc0] 87)).alloc (Nat.le_trans hz2' (by simp)) (.cells #[.int .u64 (x.n : Nat), .int .i64 x.v, .slice sa0 sn0 sc0] 87)).grown HG3.out (Nat.le_trans hz2' (by simp; omega)) fun g hg => ?_
          have := (World.ownsRow.lt (World.ownsRow.alloc (World.ownsRow.alloc HOW2.out (.cells #[.int .u64 (x.n : Nat), .int .i64 x.v, .slice sa0 sn0 sc0] 87)) (.cells #[.int .u64 (x.n : Nat), .int .i64 x.v, .slice sa0 sn0 sc0] 87)) g hg).1
          have := HRW.out
          omega
        go_roundg (n - (i + 1))
        case measure => omega
        case rel =>
          refine ⟨i + 1, xs ++ [x], v3, by go_num, rfl, by omega, Nat.le_refl _, by apply hide; simp [HX.out], ?_, ?_, ?_, ?_, HK.out.trans (HKR.out.trans KA), ?_, ?_⟩
          · apply hide
            have := HO3.out
            simpa using this
          · intro y hy
            rcases List.mem_append.1 hy with hy | hy
            · exact HKP.out y wr w3 (HOK.out y hy) (HKR.out.trans KA)
            · simp at hy
              subst hy
              exact HKP.out _ w2 w3 HXO.out KA
          · apply hide
            rw [← HS2.out]
            exact HGT.out.ps.keep BA
          · exact grown_new (grown_trans' (grown_trans' HGW.out (grown_alloc _ _ _)) (grown_alloc _ _ _)) (World.ownsRow.alloc (World.ownsRow.alloc HOW2.out (.cells #[.int .u64 (x.n : Nat), .int .i64 x.v, .slice sa0 sn0 sc0] 87)) (.cells #[.int .u64 (x.n : Nat), .int .i64 x.v, .slice sa0 sn0 sc0] 87)) HG3.out
          · intro _
            rw [← HS2.out]
            exact HEE.out.symm
          · intro h0
            have hle1 := (fwd_n hf i).le s1 HP1.out.le
            have hz := HZ.out (by omega)
            rw [List.flatMap_append, HBB.out h0, ← HS2.out]
            simp only [List.flatMap_cons, List.flatMap_nil, List.append_nil]
            rw [HGT.out.b hz HEE.out.symm]
            exact (rd_app l hle1.1 (hf.le _ hle1.2).1).symm
      · have hE1 : ¬ (E : Int) = 0 := by omega
        have hE2 : ((E : Int) == 0) = false := by simpa using he
        have hE3 : ((E : Int) != 0) = true := by simp [bne, hE2]
        go_wp2_with fail
        go_ret
        have es : skL l sf (p, e) = sf (skN sf i s1) := by
          show skN sf (cS l p e 1).1 (cS l p e 1).2 = _
          rw [← HN.out.1, ← HN.out.2, show n = (i + 1) + (n - (i + 1)) by omega, skN_add, ← HS2.out]
          exact skN_stay hf.stay _ _ (by rw [← HEE.out]; exact he)
        refine ⟨.slice none 0 0, [], rfl, ⟨rfl, .inl ⟨rfl, rfl⟩⟩, (fun _ h => by cases h), ?_, grown_trans' HGW.out (grown_alloc _ _ _), fun _ h2 => ?_⟩
        · rw [es]; exact HGT.out.ps.keep ((Below.refl (R + 1) w2).alloc hz2' _)
        · rw [es, ← HEE.out] at h2; exact absurd h2 he
    · have hltz : ¬ (i : Int) < (n : Int) := by omega
      obtain rfl : i = n := by omega
      go_wp2_with fail
      go_ret
      refine ⟨vr, rfl, xs, by rw [HX.out]; exact HOW.out, (by first | exact HOK.out | exact fun a b h => HOK.out (a, b) h), ?_, HG.out, fun h0 h2 => ?_⟩
      · have := HP.out
        rw [HN.out.1, HN.out.2] at this
        exact this
      · have hs0 : s1.2 = 0 := Classical.byContradiction fun hn0 => by
          have h3 : (skL l sf (p, e)).2 = s1.2 := by
            show (skN sf (cS l p e 1).1 (cS l p e 1).2).2 = _
            rw [← HN.out.2, skN_stay hf.stay _ _ hn0]
          rw [h3] at h2
          exact hn0 h2
        have hcb := c_bytes l (p, e) h0 (by show (cS l p e 1).2.2 = 0; rw [← HN.out.2]; exact hs0)
        have hb := HBB.out hs0
        have hle0 := (fwd_c l).le (p, e) HPS.out.le
        have hle1 := (fwd_n hf i).le s1 HP1.out.le
        have e1 : (skC l (p, e)).1 = s1.1 := by show (cS l p e 1).2.1 = _; rw [← HN.out.2]
        have e2 : (skL l sf (p, e)).1 = (skN sf i s1).1 := by
          show (skN sf (cS l p e 1).1 (cS l p e 1).2).1 = _
          rw [← HN.out.1, ← HN.out.2]
        rw [HX.out, hb, e2, HN.out.1, hcb.1, e1]
        have e3 : (skN sf (cS l p e 1).1 s1).1 = (skN sf i s1).1 := by rw [← HN.out.1]
        rw [e3]
        exact (rd_app l (by rw [← e1]; exact hle0.1) hle1.1).symm
theorem Try.inf_grp : (Try.prog.info? 77).map (fun i => (i.zero, i.size, i.bytes)) = some (some (.agg #[.int .i64 0, .int .i64 0, .slice none 0 0, .slice none 0 0]), 4, 64) := by kernel_rfl
set_option maxRecDepth 100000 in
set_option maxHeartbeats 3200000 in
theorem rl_grp (B R : Nat) (l : Bs) (w : World) (p e : Nat) (sf : Sg2 → Sg2) (gg : Gp → Bs) (Ok : World → Gp → Prop)  (hlb : l.length ≤ 1048576) (hf : Fwd l sf) (h : PS B w R l p e)
    (hkeep : ∀ x w w', Ok w x → KTT [136, 77] w w' → Ok w' x) (hsl : ∀ x w, Ok w x → (∃ a n c, x.dv = .slice a n c) ∧ (∃ a n c, x.pv = .slice a n c))
    (hone : ∀ w1 p1 e1, KTT [136, 77] w w1 → PS B w1 R l p1 e1 → Calls Try.prog 56 #[.pointer (some ⟨R, 0, none⟩)] w1 fun ev w' => ∃ x, ev = .returned (.agg #[.int .i64 x.s, .int .i64 x.b, x.dv, x.pv]) ∧ Ok w' x ∧ Got B R l w1 w' (p1, e1) sf (gg x)) :
    Calls Try.prog 55 #[.pointer (some ⟨R, 0, none⟩), .func (.func 56) #[.pointer (some ⟨R, 0, none⟩)] #[]] w fun ev w' => ∃ (v : Value) (xs : List (Gp)), ev = .returned v ∧ w'.ownsRow w.heap.size 77 4 v xs.length (xs.flatMap cl_grp) ∧ (∀ x ∈ xs, Ok w' x) ∧ Got B R l w w' (p, e) (skL l sf) (Num.uv xs.length ++ xs.flatMap gg) := by
  obtain ⟨i0, hi0, hz0, hz1, hz2⟩ := info_parts Try.inf_grp
  have hRw := h.lt
  have hple := h.le
  have kC := count_p B w R l p e 1 h (by omega) (by omega) (Nat.le_trans hlb (by decide))
  have kt0 : KTT [136, 77] w w := KTT.refl _ _
  obtain ⟨n, hn⟩ : ∃ n, n = (cS l p e 1).1 := ⟨_, rfl⟩
  obtain ⟨s1, hs1⟩ : ∃ s : Sg2, s = (cS l p e 1).2 := ⟨_, rfl⟩
  have hnl : n ≤ 1048576 := by rw [hn]; exact Nat.le_trans (c_le l p e hple) hlb
  have hne : 0 < n → s1.2 = 0 := fun h => by rw [hs1]; exact c_err l p e hple (by rw [← hn]; exact h)
  have e1 : (cS l p e 1).2.1 = s1.1 := by rw [hs1]
  have e2 : (cS l p e 1).2.2 = s1.2 := by rw [hs1]
  rw [← hn, e1, e2] at kC
  have HN : Hid (n = (cS l p e 1).1 ∧ s1 = (cS l p e 1).2) := ⟨hn, hs1⟩
  have HE : Aside (0 < n → s1.2 = 0) := hne
  have HO : Aside _ := hone
  have HKP : Aside _ := hkeep
  have HPS : Hid (PS B w R l p e) := h
  have HRW : Hid (R < w.heap.size) := hRw
  clear hn hs1 hne e1 e2 hone hkeep h hRw hple kt0
  go_enter Try.func55, Try.ntmps55
  go_wp2_with fail
  refine kC.mono ?_
  rintro er w1 ⟨rfl, h1, g1⟩
  have HP1 : Hid (PS B w1 R l s1.1 s1.2) := h1
  have HG1 : Hid (w.grownBy w1 (some R)) := g1
  have HK1 : Hid (KTT [136, 77] w w1) := (HPS.out.ktt g1).mono fun t ht => by simp at ht; simp [ht]
  clear kC h1 g1
  go_wp2_with fail
  go_loopg [5, 9] n (fun kx v5 v9 wr => ∃ (i : Nat) (xs : List (Gp)) (x5 : Value), v9 = .int .i64 (i : Int) ∧ x5 = v5 ∧ i ≤ n ∧ n - i ≤ kx ∧ Hid (xs.length = i) ∧ Hid (wr.ownsRow w.heap.size 77 4 x5 i (xs.flatMap cl_grp)) ∧ Hid (∀ x ∈ xs, Ok wr x) ∧ Hid (PS B wr R l (skN sf i s1).1 (skN sf i s1).2) ∧ Hid (w.grownBy wr (some R)) ∧ Hid (KTT [136, 77] w wr) ∧ Hid (0 < n → (skN sf i s1).2 = 0) ∧ Hid (s1.2 = 0 → xs.flatMap gg = rd l s1.1 (skN sf i s1).1))
  case atStart => exact ⟨0, [], _, rfl, rfl, by omega, Nat.le_refl _, rfl, ⟨rfl, .inl ⟨rfl, rfl⟩⟩, (fun _ h => by cases h), HP1, HG1, HK1, HE.out, fun _ => by show _ = rd l s1.1 s1.1; simp [rd]⟩
  case round =>
    obtain ⟨i, xs, vr, rfl, rfl, hi, hkx, HX, HOW, HOK, HP, HG, HK, HZ, HBB⟩ := hrel
    by_cases hlt : i < n
    · have hltz : (i : Int) < (n : Int) := by omega
      have kO := HO.out wr _ _ HK.out HP.out
      go_wp2_with fail
      refine kO.mono ?_
      rintro ev w2 ⟨x, rfl, hok, G⟩
      have HS2 : Hid (sf (skN sf i s1) = skN sf (i + 1) s1) := (skN_succ sf i s1).symm
      obtain ⟨E, hE⟩ : ∃ E, E = (sf (skN sf i s1)).2 := ⟨_, rfl⟩
      have HEE : Hid (E = (sf (skN sf i s1)).2) := hE
      have HGT : Hid (Got B R l wr w2 (skN sf i s1) sf (gg x)) := G
      have HXO : Hid (Ok w2 x) := hok
      have hz2' : R < w2.heap.size := G.ps.lt
      obtain ⟨a2, c2, hh2, -, -, -⟩ := G.ps.shape
      rw [← hE] at hh2
      have c1 : w2.cell? ⟨R, 1, none⟩ = some (.int .i64 (E : Int)) := BxA.cell (t := 136) hh2 1 _ rfl
      have HKR : Hid (KTT [136, 77] wr w2) := (HP.out.ktt G.g).mono fun t ht => by simp at ht; simp [ht]
      have HGW : Hid (w.grownBy w2 (some R)) := grown_trans' HG.out G.g
      have HOW2 : Hid (w2.ownsRow w.heap.size 77 4 vr i (xs.flatMap cl_grp)) := (HP.out.ktt G.g).own HOW.out (by decide)
      have hsz2 : w.heap.size ≤ w2.heap.size := HGW.out.size
      clear kO hE hok G hh2
      obtain ⟨sa0, sn0, sc0, se0⟩ := (hsl x w2 HXO.out).1
      obtain ⟨sa1, sn1, sc1, se1⟩ := (hsl x w2 HXO.out).2
      have HCL : Hid (cl_grp x = [.int .i64 x.s, .int .i64 x.b, .slice sa0 sn0 sc0, .slice sa1 sn1 sc1]) := by apply hide; simp only [cl_grp, se0, se1]
      rw [se0, se1]
      clear se0 se1
      by_cases he : E = 0
      · subst he
        go_wp2_with (first | (at_builtin; refine wpList_appK rfl _ _ 44 rfl w.heap.size 77 i0 (.agg #[.int .i64 0, .int .i64 0, .slice none 0 0, .slice none 0 0]) 4 64 Try.underlying44 hi0 hz0 hz1 hz2 rfl (by decide) vr i (xs.flatMap cl_grp) rfl ((World.ownsRow.alloc (World.ownsRow.alloc HOW2.out (.cells #[.int .i64 x.s, .int .i64 x.b, .slice sa0 sn0 sc0, .slice sa1 sn1 sc1] 77)) (.cells #[.int .i64 x.s, .int .i64 x.b, .slice sa0 sn0 sc0, .slice sa1 sn1 sc1] 77))) (.slice (some ⟨w2.heap.size + 1, 0, none⟩) 1 1) 1 (cl_grp x) rfl (by rw [HCL.out]; exact lit_rds' (w2.alloc (.cells #[.int .i64 x.s, .int .i64 x.b, .slice sa0 sn0 sc0, .slice sa1 sn1 sc1] 77)) [.int .i64 x.s, .int .i64 x.b, .slice sa0 sn0 sc0, .slice sa1 sn1 sc1] 77 _ (by simp)) (fun u hu => by rw [HCL.out] at hu; simp at hu; rcases hu with rfl | rfl | rfl | rfl <;> rfl) (by unfold maxLen; omega) (by omega) (Nat.le_trans hsz2 (by simp; omega)) ?_; intro v3 w3 o3 g3; have HO3 : Hid (w3.ownsRow w.heap.size 77 4 v3 (i + 1) (xs.flatMap cl_grp ++ cl_grp x)) := o3; have HG3 : Hid (((w2.alloc (.cells #[.int .i64 x.s, .int .i64 x.b, .slice sa0 sn0 sc0, .slice sa1 sn1 sc1] 77)).alloc (.cells #[.int .i64 x.s, .int .i64 x.b, .slice sa0 sn0 sc0, .slice sa1 sn1 sc1] 77)).grownBy w3 vr.ownBlock) := g3; clear o3 g3))
        have KA : KTT [136, 77] w2 w3 := ((KTT.alloc _ w2 (.cells #[.int .i64 x.s, .int .i64 x.b, .slice sa0 sn0 sc0, .slice sa1 sn1 sc1] 77)).trans (KTT.alloc _ (w2.alloc (.cells #[.int .i64 x.s, .int .i64 x.b, .slice sa0 sn0 sc0, .slice sa1 sn1 sc1] 77)) (.cells #[.int .i64 x.s, .int .i64 x.b, .slice sa0 sn0 sc0, .slice sa1 sn1 sc1] 77))).trans (own_grow (World.ownsRow.alloc (World.ownsRow.alloc HOW2.out (.cells #[.int .i64 x.s, .int .i64 x.b, .slice sa0 sn0 sc0, .slice sa1 sn1 sc1] 77)) (.cells #[.int .i64 x.s, .int .i64 x.b, .slice sa0 sn0 sc0, .slice sa1 sn1 sc1] 77)) HG3.out (by simp))
        have BA : Below (R + 1) w2 w3 := by
          refine (((Below.refl (R + 1) w2).alloc hz2' (.cells #[.int .i64 x.s, .int .i64 x.b, .slice sa0 sn0 sc0, .slice sa1 sn1 sc1] 77)).alloc (Nat.le_trans hz2' (by simp)) (.cells #[.int .i64 x.s, .int .i64 x.b, .slice sa0 sn0 sc0, .slice sa1 sn1 sc1] 77)).grown HG3.out (Nat.le_trans hz2' (by simp; omega)) fun g hg => ?_
          have := (World.ownsRow.lt (World.ownsRow.alloc (World.ownsRow.alloc HOW2.out (.cells #[.int .i64 x.s, .int .i64 x.b, .slice sa0 sn0 sc0, .slice sa1 sn1 sc1] 77)) (.cells #[.int .i64 x.s, .int .i64 x.b, .slice sa0 sn0 sc0, .slice sa1 sn1 sc1] 77)) g hg).1
          have := HRW.out
          omega
        go_roundg (n - (i + 1))
        case measure => omega
        case rel =>
          refine ⟨i + 1, xs ++ [x], v3, by go_num, rfl, by omega, Nat.le_refl _, by apply hide; simp [HX.out], ?_, ?_, ?_, ?_, HK.out.trans (HKR.out.trans KA), ?_, ?_⟩
          · apply hide
            have := HO3.out
            simpa using this
          · intro y hy
            rcases List.mem_append.1 hy with hy | hy
            · exact HKP.out y wr w3 (HOK.out y hy) (HKR.out.trans KA)
            · simp at hy
              subst hy
              exact HKP.out _ w2 w3 HXO.out KA
          · apply hide
            rw [← HS2.out]
            exact HGT.out.ps.keep BA
          · exact grown_new (grown_trans' (grown_trans' HGW.out (grown_alloc _ _ _)) (grown_alloc _ _ _)) (World.ownsRow.alloc (World.ownsRow.alloc HOW2.out (.cells #[.int .i64 x.s, .int .i64 x.b, .slice sa0 sn0 sc0, .slice sa1 sn1 sc1] 77)) (.cells #[.int .i64 x.s, .int .i64 x.b, .slice sa0 sn0 sc0, .slice sa1 sn1 sc1] 77)) HG3.out
          · intro _
            rw [← HS2.out]
            exact HEE.out.symm
          · intro h0
            have hle1 := (fwd_n hf i).le s1 HP1.out.le
            have hz := HZ.out (by omega)
            rw [List.flatMap_append, HBB.out h0, ← HS2.out]
            simp only [List.flatMap_cons, List.flatMap_nil, List.append_nil]
            rw [HGT.out.b hz HEE.out.symm]
            exact (rd_app l hle1.1 (hf.le _ hle1.2).1).symm
      · have hE1 : ¬ (E : Int) = 0 := by omega
        have hE2 : ((E : Int) == 0) = false := by simpa using he
        have hE3 : ((E : Int) != 0) = true := by simp [bne, hE2]
        go_wp2_with fail
        go_ret
        have es : skL l sf (p, e) = sf (skN sf i s1) := by
          show skN sf (cS l p e 1).1 (cS l p e 1).2 = _
          rw [← HN.out.1, ← HN.out.2, show n = (i + 1) + (n - (i + 1)) by omega, skN_add, ← HS2.out]
          exact skN_stay hf.stay _ _ (by rw [← HEE.out]; exact he)
        refine ⟨.slice none 0 0, [], rfl, ⟨rfl, .inl ⟨rfl, rfl⟩⟩, (fun _ h => by cases h), ?_, grown_trans' HGW.out (grown_alloc _ _ _), fun _ h2 => ?_⟩
        · rw [es]; exact HGT.out.ps.keep ((Below.refl (R + 1) w2).alloc hz2' _)
        · rw [es, ← HEE.out] at h2; exact absurd h2 he
    · have hltz : ¬ (i : Int) < (n : Int) := by omega
      obtain rfl : i = n := by omega
      go_wp2_with fail
      go_ret
      refine ⟨vr, rfl, xs, by rw [HX.out]; exact HOW.out, (by first | exact HOK.out | exact fun a b h => HOK.out (a, b) h), ?_, HG.out, fun h0 h2 => ?_⟩
      · have := HP.out
        rw [HN.out.1, HN.out.2] at this
        exact this
      · have hs0 : s1.2 = 0 := Classical.byContradiction fun hn0 => by
          have h3 : (skL l sf (p, e)).2 = s1.2 := by
            show (skN sf (cS l p e 1).1 (cS l p e 1).2).2 = _
            rw [← HN.out.2, skN_stay hf.stay _ _ hn0]
          rw [h3] at h2
          exact hn0 h2
        have hcb := c_bytes l (p, e) h0 (by show (cS l p e 1).2.2 = 0; rw [← HN.out.2]; exact hs0)
        have hb := HBB.out hs0
        have hle0 := (fwd_c l).le (p, e) HPS.out.le
        have hle1 := (fwd_n hf i).le s1 HP1.out.le
        have e1 : (skC l (p, e)).1 = s1.1 := by show (cS l p e 1).2.1 = _; rw [← HN.out.2]
        have e2 : (skL l sf (p, e)).1 = (skN sf i s1).1 := by
          show (skN sf (cS l p e 1).1 (cS l p e 1).2).1 = _
          rw [← HN.out.1, ← HN.out.2]
        rw [HX.out, hb, e2, HN.out.1, hcb.1, e1]
        have e3 : (skN sf (cS l p e 1).1 s1).1 = (skN sf i s1).1 := by rw [← HN.out.1]
        rw [e3]
        exact (rd_app l (by rw [← e1]; exact hle0.1) hle1.1).symm
end Go.Proofs.Ytpdlioidiobbbaa
