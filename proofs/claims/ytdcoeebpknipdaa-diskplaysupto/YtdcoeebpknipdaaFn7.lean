/- Contracts: operations are counted, begun; files are opened. -/
import Derived.Test.YtdcoeebpknipdaaFn6
namespace Go.Proofs.Ytdcoeebpknipdaa
open Go.RowKit Go.Maps

set_option maxRecDepth 100000 in
set_option maxHeartbeats 1600000 in
theorem count_any (w : World) (d N : Nat) (F : Nat → Prop) (s : St) (h : Dk w d F N s) (hop : s.ops < 1000000) :
    Calls Try.prog 50 #[.pointer (some ⟨d, 0, none⟩)] w fun e w' => e = .returned (.int .i64 (s.count.1 : Nat)) ∧ Dk w' d F N s.count.2 ∧ Fr F w w' := by
  obtain ⟨mo, Z, hz⟩ := h
  have c1 := hz.b.cell 1 _ rfl
  have f1 := hz.b.free 1
  have hw1 : wrap64 ((s.ops : Int) + 1) = (s.ops : Int) + 1 := by rw [← IntWalk.i64_left, IntKind.wrap_i64]; omega
  obtain ⟨W, hW⟩ : ∃ W, W = w.setCell ⟨d, 1, none⟩ (.int .i64 ((s.ops : Int) + 1)) := ⟨_, rfl⟩
  have hzW : DkZ W d F N s.tick mo Z := by
    rw [hW]
    exact hz.box s.tick (by have := hz.b.set 1 (.int .i64 ((s.ops : Int) + 1)); exact this) (fun i hi => Below.heap_setCell _ _ _ _ hi) (by simp) rfl (by show s.ops + 1 ≤ 1000000; omega)
  have HF : Hid (Fr F w W) := by apply hide; rw [hW]; exact setd_fr hz
  have c3 : W.cell? ⟨d, 3, none⟩ = some (.bool s.set) := hzW.b.cell 3 _ rfl
  have c4 : W.cell? ⟨d, 4, none⟩ = some (.int .i64 s.op) := hzW.b.cell 4 _ rfl
  have c5 : W.cell? ⟨d, 5, none⟩ = some (.int .i64 s.part) := hzW.b.cell 5 _ rfl
  have kC := cut_any W d N F s.tick s.part ⟨mo, Z, hzW⟩
  have HD : Hid (Dk W d F N s.tick) := ⟨mo, Z, hzW⟩
  obtain ⟨n, hn⟩ : ∃ n, n = s.ops := ⟨_, rfl⟩
  obtain ⟨b, hb⟩ : ∃ b, b = s.set := ⟨_, rfl⟩
  obtain ⟨o, ho⟩ : ∃ o, o = s.op := ⟨_, rfl⟩
  obtain ⟨p, hp⟩ : ∃ p, p = s.part := ⟨_, rfl⟩
  have HS : Hid (n = s.ops ∧ b = s.set ∧ o = s.op ∧ p = s.part) := ⟨hn, hb, ho, hp⟩
  rw [show (#[Value.map mo, .int .i64 (s.ops : Int), .bool s.off, .bool s.set, .int .i64 s.op, .int .i64 s.part] : Array Value)[1] = .int .i64 (n : Int) by rw [hn]; rfl] at c1
  rw [← hn] at hw1 hW hop
  rw [← hb] at c3
  rw [← ho] at c4
  rw [← hp] at c5 kC
  have HW : Hid (W = _) := hW
  clear hz hzW hW hn hb ho hp
  have hno : s.count = if s.set = true ∧ (s.ops : Int) = s.op then (122, s.tick.cut s.part) else (0, s.tick) := rfl
  rw [← HS.out.1, ← HS.out.2.1, ← HS.out.2.2.1, ← HS.out.2.2.2] at hno
  cases b
  case false =>
    have HN : Hid (s.count = (0, s.tick)) := by apply hide; rw [hno]; simp
    clear hno
    go_enter Try.func50, Try.ntmps50
    go_upto_region 3 with fail
    rw [← HW.out]
    go_wp2_with fail
    go_ret
    rw [HN.out]
    exact ⟨rfl, HD.out, HF.out⟩
  case true =>
    by_cases he : (n : Int) = o
    · have HN : Hid (s.count = (122, s.tick.cut p)) := by apply hide; rw [hno, if_pos ⟨rfl, he⟩]
      clear hno
      subst he
      go_enter Try.func50, Try.ntmps50
      go_upto_region 3 with fail
      rw [← HW.out]
      go_wp2_with fail
      refine kC.mono ?_
      rintro e w2 ⟨rfl, hd2, hf2⟩
      have H2 : Hid _ := And.intro hd2 hf2
      clear hd2 hf2 kC
      go_wp2_with fail
      go_ret
      rw [HN.out]
      exact ⟨rfl, H2.out.1, HF.out.trans H2.out.2 fun _ _ h => h⟩
    · have HN : Hid (s.count = (0, s.tick)) := by apply hide; rw [hno, if_neg (fun h => he h.2)]
      have he2 : ((n : Int) == o) = false := by simpa using he
      clear hno
      go_enter Try.func50, Try.ntmps50
      go_upto_region 3 with fail
      rw [← HW.out]
      go_wp2_with fail
      go_ret
      rw [HN.out]
      exact ⟨rfl, HD.out, HF.out⟩
set_option maxHeartbeats 800000 in
theorem begins_any (w : World) (d N base : Nat) (F : Nat → Prop) (s : St) (t : Str) (v : Value) (ns : List Str) (h : Dk w d F N s) (hv : w.ownsRow base 9 1 v ns.length (sv ns)) (hb : base ≤ w.heap.size) (hF : ∀ r, v.ownBlock = some r → ¬ F r) (hn : ns.length ≤ 10) (hl : ∀ t ∈ ns, t.length ≤ maxLen) (ht : t.length ≤ maxLen) (hop : s.ops < 1000000) :
    Calls Try.prog 51 #[.pointer (some ⟨d, 0, none⟩), .string ⟨t.toArray⟩, v] w fun e w' => e = .returned (.int .i64 ((s.begins t ns).1 : Nat)) ∧ Dk w' d F N (s.begins t ns).2 ∧ Fr (fun i => F i ∨ v.ownBlock = some i) w w' := by
  have kR := refusesFile_any w d N base F s t v ns h hv hb hF hn hl ht
  have HD : Hid (Dk w d F N s) := h
  have HF : Hid _ := hF
  clear h hv hF hl ht
  go_enter Try.func51, Try.ntmps51
  go_wp2_with fail
  refine kR.mono ?_
  rintro e w1 ⟨rfl, g1⟩
  have hd1 : Dk w1 d F N s := by
    obtain ⟨mo, Z, hz⟩ := HD.out
    exact ⟨mo, Z, hz.frame g1.size fun i hi => g1.block i (hz.lt i hi) fun e => HF.out i e.symm hi⟩
  have kC := count_any w1 d N F s hd1 hop
  have HD1 : Hid (Dk w1 d F N s) := hd1
  have HG1 : Hid (Fr (fun i => F i ∨ v.ownBlock = some i) w w1) := Fr.of_grown g1 fun j hj => .inl (.inr hj)
  obtain ⟨c, hc⟩ : ∃ c, c = rfF s t ns := ⟨_, rfl⟩
  rw [← hc]
  have HC : Hid (c = rfF s t ns) := hc
  clear hd1 g1 kR hc
  by_cases h0 : c = 0
  · subst h0
    have HB : Hid (s.begins t ns = s.count) := by apply hide; unfold St.begins; rw [← HC.out]; rfl
    go_wp2_with fail
    refine kC.mono ?_
    rintro e w2 ⟨rfl, hd2, hf2⟩
    have H2 : Hid _ := And.intro hd2 hf2
    clear hd2 hf2 kC
    go_wp2_with fail
    go_ret
    rw [HB.out]
    exact ⟨rfl, H2.out.1, HG1.out.trans H2.out.2 fun _ _ h => .inl h⟩
  · have HB : Hid (s.begins t ns = (c, s)) := by apply hide; unfold St.begins; rw [← HC.out, if_pos h0]
    have hE2 : ((c : Int) == 0) = false := by simpa using h0
    have hE3 : ((c : Int) != 0) = true := by simp [bne, hE2]
    go_wp2_with fail
    go_ret
    rw [HB.out]
    exact ⟨rfl, HD1.out, HG1.out⟩
end Go.Proofs.Ytdcoeebpknipdaa
