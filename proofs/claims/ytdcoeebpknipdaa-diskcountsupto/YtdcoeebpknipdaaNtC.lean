/- The law's book: a call is noted. -/
import Derived.Test.YtdcoeebpknipdaaNtD
namespace Go.Proofs.Ytdcoeebpknipdaa
open Go.RowKit Go.Maps Go.Sort

theorem set_same {α : Type} {l : List α} {i : Nat} {x : α} (h : l[i]? = some x) : l.set i x = l := by
  obtain ⟨hi, e⟩ := List.getElem?_eq_some_iff.1 h
  rw [← e, List.set_getElem_self]
theorem BkV.sync1 {w : World} {b : Nat} {G : Nat → Prop} {E : List Fl} {nv bv : Value} {g n c : Nat} (h : BkV w b G E nv bv (.slice (some ⟨g, 0, none⟩) n c)) {i : Nat} {f : Fl} (hi : E[i]? = some f) {w3 : World} (hw3 : w3.heap = (w.setCell ⟨g, i, none⟩ (.int .i64 (f.bs.length : Int))).heap) (ho : w3.os = w.os ∧ w3.tape = w.tape ∧ w3.output = w.output) : Bk w3 b G (E.set i ⟨f.nm, f.bs, f.bs.length⟩) ∧ Fr G w w3 := by
  have gs0 := grown_setCell (w := w) (R := g) (j := i) (u := .int .i64 (f.bs.length : Int))
  have gs : w.grownBy w3 (some g) := ⟨ho.1, ho.2.1, ho.2.2, by rw [hw3]; exact gs0.size, fun i hi hr => by rw [hw3]; exact gs0.block i hi hr⟩
  have ht := h.t
  have hg : Value.ownBlock (.slice (some ⟨g, 0, none⟩) n c) = some g := rfl
  have hE : (E.set i ⟨f.nm, f.bs, f.bs.length⟩).map Fl.nm = E.map Fl.nm := by
    rw [List.map_set]
    exact set_same (by simp [hi])
  have hB : (E.set i ⟨f.nm, f.bs, f.bs.length⟩).map Fl.bs = E.map Fl.bs := by
    rw [List.map_set]
    exact set_same (by simp [hi])
  have hS : iv ((E.set i ⟨f.nm, f.bs, f.bs.length⟩).map fun x => (x.sy : Int)) = (iv (E.map fun x => (x.sy : Int))).set i (.int .i64 (f.bs.length : Int)) := by
    unfold iv
    rw [List.map_set, List.map_set]
  have hne := ht.ne
  refine ⟨⟨nv, bv, .slice (some ⟨g, 0, none⟩) n c, ?_⟩, Fr.of_grown gs fun j hj => .inl (by cases hj; exact h.gy g rfl)⟩
  refine ⟨?_, ?_, ?_, ?_, h.ap, h.gb, h.gn, h.gv, h.gy, by rw [List.length_set]; exact h.few, fun i hi => Nat.lt_of_lt_of_le (h.lt i hi) gs.size⟩
  · have := h.x
    unfold BxA at this ⊢
    rw [gs.block b h.x.lt (fun e => hne.2.2.1 (hg.trans e.symm))]
    exact this
  · rw [hE]
    exact h.n.keep fun r hr => gs.block r (h.n.lt r hr).2 fun e => hne.2.2.2.1 r hr (hg.trans e.symm)
  · rw [hB]
    exact h.bb.keep fun r hr => gs.block r (h.bb.lt r hr).2 fun e => hne.2.2.2.2 r hr (hg.trans e.symm)
  · rw [hS]
    exact (h.y.set i _).keep fun r _ => by rw [hw3]
set_option maxRecDepth 100000 in
set_option maxHeartbeats 3200000 in
theorem note_syn (w : World) (b d N : Nat) (G F : Nat → Prop) (E : List Fl) (s : St) (K M : Int) (A B : Str) (u : Value) (hK1 : -9223372036854775808 ≤ K) (hK2 : K ≤ 9223372036854775807) (hk : absN K % 6 = 3) (hA : A.length ≤ maxLen) (hB : Bk w b G E) (hD : Dk w d F N s) (hap : ∀ i, G i → ¬ F i) (hop : s.ops < 1000000) :
    Calls Try.prog 16 #[.pointer (some ⟨b, 0, none⟩), .pointer (some ⟨d, 0, none⟩), .agg #[.int .i64 K, .string ⟨A.toArray⟩, .string ⟨B.toArray⟩, u, .int .i64 M]] w fun e w' => ∃ z, At1 E (nmK A.length) z ∧ e = .returned (.bool (decide ((s.sync (nmK A.length)).1 = 0) == decide (0 ≤ z))) ∧ Nt w w' b d G F N (s.sync (nmK A.length)).2 (if 0 ≤ z then E.set z.toNat ⟨(E.getD z.toNat ⟨[], [], 0⟩).nm, (E.getD z.toNat ⟨[], [], 0⟩).bs, (E.getD z.toNat ⟨[], [], 0⟩).bs.length⟩ else E) := by
  unfold maxLen at hA
  obtain ⟨W, hW⟩ : ∃ W, W = w.alloc (.cells #[.int .i64 K, .string ⟨A.toArray⟩, .string ⟨B.toArray⟩, u, .int .i64 M] 31) := ⟨_, rfl⟩
  have bW : Below w.heap.size w W := by rw [hW]; exact (Below.refl _ _).alloc (Nat.le_refl _) _
  have hx : BxA W w.heap.size 31 #[.int .i64 K, .string ⟨A.toArray⟩, .string ⟨B.toArray⟩, u, .int .i64 M] := by rw [hW]; exact BxA.new _ _ _
  have kN := name_any W A.length (by omega)
  have hsz := str_size A
  obtain ⟨nm, hnm⟩ : ∃ nm, nm = nmK A.length := ⟨_, rfl⟩
  have hnl : nm.length ≤ maxLen := by
    have := (nmK_facts A.length).2
    rw [← hnm] at this
    simp only [nmL, List.mem_cons, List.not_mem_nil, or_false] at this
    unfold maxLen
    rcases this with rfl | rfl | rfl | rfl | rfl <;> simp
  rw [← hnm] at kN
  rw [← hnm]
  have HW : Hid (W = _) := hW
  have HX : Hid (BxA W w.heap.size 31 #[.int .i64 K, .string ⟨A.toArray⟩, .string ⟨B.toArray⟩, u, .int .i64 M]) := hx
  have HK : Hid _ := And.intro hK1 hK2
  have HBW : Hid (Below w.heap.size w W) := bW
  have HB : Hid (Bk w b G E) := hB
  have HD : Hid (Dk w d F N s) := hD
  have HAP : Hid (∀ i, G i → ¬ F i) := hap
  have HNL : Hid _ := hnl
  have hc1 := hx.cell 1 _ rfl
  clear hW hx hnm hnl bW hB hD hap hK1 hK2
  go_enter Try.func16, Try.ntmps16
  go_wp2_with fail
  rw [← HW.out]
  go_wp2_with fail
  refine kN.mono ?_
  rintro e w1 ⟨rfl, b1⟩
  have HB1 : Hid (Below w.heap.size w w1) := HBW.out.trans (b1.mono HBW.out.size)
  have HX1 : Hid (BxA w1 w.heap.size 31 #[.int .i64 K, .string ⟨A.toArray⟩, .string ⟨B.toArray⟩, u, .int .i64 M]) := by
    apply hide
    have := HX.out
    unfold BxA at this ⊢
    rw [b1.block _ HX.out.lt]
    exact this
  have hc0 := HX1.out.cell 0 _ rfl
  have kAt := at_any w1 b G E nm (HB.out.below HB1.out)
  have kAb := abs_any w1 K HK.out.1 HK.out.2
  have hab : (absN K : Int) % 6 = 3 := by omega
  clear kN b1 hc1
  go_wp2_with fail
  refine kAt.mono ?_
  rintro e w1' ⟨z, rfl, hz, rfl⟩
  have HZ : Hid (At1 E nm z) := hz
  have hzb := hz.lt
  have hzg := hz.ge
  have hfew := HB.out.few
  have kR := sync_any w1' d N F s nm (HD.out.below HB1.out) HNL.out hop
  obtain ⟨cd, hcd⟩ : ∃ cd, cd = (s.sync nm).1 := ⟨_, rfl⟩
  rw [← hcd] at kR
  have HCD : Hid (cd = (s.sync nm).1) := hcd
  clear kAt hz hcd
  go_wp2_with fail
  refine kAb.mono ?_
  rintro e w1'' ⟨rfl, rfl⟩
  clear kAb
  go_wp2_with fail
  refine kR.mono ?_
  rintro e w2 ⟨rfl, d2, fr2⟩
  have HD2 : Hid (Dk w2 d F N (s.sync nm).2) := d2
  have HF2 : Hid (Fr F w1'' w2) := fr2
  have HB2 : Hid (Bk w2 b G E) := (HB.out.below HB1.out).other fr2 HAP.out
  clear kR d2 fr2
  have hcz := code_dec cd
  by_cases h0 : 0 ≤ z
  · obtain ⟨i, hi⟩ : ∃ i : Nat, z = (i : Int) := ⟨z.toNat, by omega⟩
    subst hi
    have hil : i < E.length := by omega
    obtain ⟨f, hf⟩ : ∃ f, E[i]? = some f := ⟨E[i], List.getElem?_eq_getElem hil⟩
    have HGD : Hid (E.getD i ⟨[], [], 0⟩ = f) := by apply hide; simp [List.getD, hf]
    obtain ⟨nv, bv', yv, hv⟩ := HB2.out
    obtain ⟨g2, c2, hv2, r2, -, k2, m2⟩ := hv.bb.get (i := i) (u := .string ⟨f.bs.toArray⟩) (by simp [sv, hf])
    obtain ⟨g3, c3, hv3, r3, fz3, k3, m3⟩ := hv.y.get (i := i) (u := .int .i64 (f.sy : Int)) (by simp [iv, hf])
    simp only [sv_length, iv_length, List.length_map] at hv2 hv3 k2 k3
    subst hv2 hv3
    unfold maxLen at m2 m3
    have cb1 := hv.x.cell 1 _ rfl
    have cb2 := hv.x.cell 2 _ rfl
    obtain ⟨n, hn⟩ : ∃ n, n = f.bs.length := ⟨_, rfl⟩
    have hfs : (⟨f.bs.toArray⟩ : ByteArray).size = n := by rw [str_size, hn]
    have HN : Hid (n = f.bs.length) := hn
    have HV : Hid _ := hv
    have HF : Hid (E[i]? = some f) := hf
    clear hv hf hn
    go_wp2_with fail
    go_region
    have A3 := HV.out.sync1 HF.out (w3 := (w2.setCell ⟨g3, i, none⟩ (.int .i64 (n : Int))).drew) (by rw [HN.out]; rfl) ⟨rfl, rfl, rfl⟩
    have H3 : Hid _ := A3
    clear A3
    go_wp2_with fail
    go_ret
    refine ⟨_, HZ.out, ?_, ?_⟩
    · rw [← HCD.out]
      simp [code_beq]
    · rw [if_pos (by omega)]
      simp only [Int.toNat_natCast]
      rw [HGD.out]
      exact Nt.two HB1.out HD2.out HF2.out (fun _ h => .inl h) HAP.out HB.out.lt H3.out.1 (fun _ h => .inl h) H3.out.2
  · go_wp2_with fail
    go_ret
    refine ⟨_, HZ.out, ?_, ?_⟩
    · rw [← HCD.out]
      simp [code_beq]
    · rw [if_neg (by omega)]
      exact Nt.two HB1.out HD2.out HF2.out (fun _ h => .inl h) HAP.out HB.out.lt HB2.out (fun _ h => .inl h) (Fr.refl _ _)
end Go.Proofs.Ytdcoeebpknipdaa
