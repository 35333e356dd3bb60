/- The walk of DictParses. -/
import Derived.Test.YtfhldldcfdimhaaTells
import Derived.Test.YtfhldldcfdimhaaAwake
import Derived.Test.YtfhldldcfdimhaaRPs
namespace Go.Proofs.Ytfhldldcfdimhaa
open Go.RowKit Go.Shelf Go.Sort

set_option maxRecDepth 100000 in
set_option maxHeartbeats 1600000 in
theorem parses_law (w : World) (v : Value) (l : List UInt8) (h : Reads w v l) (hbig : l.length ≤ 1048576) (va : Value) (asks : List Str) (ha : Rds w va (sv asks)) (_hb : asks.length * 16 ≤ 140737488351232) :
    Calls Try.prog 4 #[v, va] w fun e w' => e = .returned (.bool true) ∧ Below w.heap.size w w' := by
  have hA := awake_any w
  obtain ⟨ao, n, cap, rfl⟩ := h.sl
  obtain ⟨aa, na, ca, rfl⟩ : ∃ a n c, va = .slice a n c := by obtain ⟨ao, cap, rfl, _⟩ := ha; exact ⟨_, _, _, rfl⟩
  obtain ⟨E, hE⟩ : ∃ E, E = en l (fnl l).1 (fnl l).2.1 := ⟨_, rfl⟩
  obtain ⟨F, hF⟩ : ∃ F, F = (fnl l).2.2 := ⟨_, rfl⟩
  have HE : Hid (E = en l (fnl l).1 (fnl l).2.1) := hE
  have HF : Hid (F = (fnl l).2.2) := hF
  clear hE hF
  go_enter Try.func4, Try.ntmps4
  go_wp2_with fail
  refine hA.mono ?_
  rintro e w1 ⟨rfl, b1⟩
  have kP := parse_any w1 _ l (h.below b1) (by omega)
  rw [← HE.out, ← HF.out] at kP
  clear hA
  go_wp2_with fail
  refine kP.mono ?_
  rintro e w2 ⟨h2, b2⟩
  have bw2 := b1.trans (b2.mono b1.size)
  have kR := refparse_any w2 _ l (h.below bw2) hbig
  rw [← HE.out, ← HF.out] at kR
  clear kP
  rcases h2 with ⟨hz, rfl⟩ | ⟨hz, hn, rfl⟩ | ⟨hz, ts, D, hs, rfl, hd⟩
  · have hzi : ¬ (E : Int) = 0 := by omega
    have hzb : ((E : Int) == 0) = false := by rw [beq_eq_false_iff_ne]; omega
    have hzn : ((E : Int) != 0) = true := by unfold bne; rw [hzb]; rfl
    go_wp2_with fail
    refine kR.mono ?_
    rintro e w3 ⟨h3, b3⟩
    have bw3 := bw2.trans (b3.mono bw2.size)
    rcases h3 with ⟨_, rfl⟩ | ⟨hz', _⟩ | ⟨hz', _⟩
    · clear kR b1 b2 b3 h ha hbig
      go_wp2_with fail
      go_ret
      exact ⟨rfl, bw3⟩
    · exact absurd hz' hz
    · exact absurd hz' hz
  · go_wp2_with fail
    refine kR.mono ?_
    rintro e w3 ⟨h3, b3⟩
    have bw3 := bw2.trans (b3.mono bw2.size)
    rcases h3 with ⟨hz', _⟩ | ⟨_, _, rfl⟩ | ⟨_, ts, _, hs', _⟩
    · exact absurd hz hz'
    · clear kR b1 b2 b3 h ha hbig hz hn
      go_wp2_with fail
      go_ret
      exact ⟨rfl, bw3⟩
    · rw [hn] at hs'; cases hs'
  · go_wp2_with fail
    refine kR.mono ?_
    rintro e w3 ⟨h3, b3⟩
    have bw3 := bw2.trans (b3.mono bw2.size)
    rcases h3 with ⟨hz', _⟩ | ⟨_, hn, _⟩ | ⟨_, ts', v3, hs', rfl, r3⟩
    · exact absurd hz hz'
    · rw [hs] at hn; cases hn
    · rw [hs] at hs'
      cases hs'
      have d3 := hd.below b3
      have kT := tells_any w3 _ v3 _ (.slice none 0 0) ts asks [] d3 r3 (ha.below bw3) (Rds.nil _) (fun _ h => by cases h)
      obtain ⟨a3, n3, c3, rfl⟩ : ∃ a n c, v3 = .slice a n c := by obtain ⟨ao, cap, rfl, _⟩ := r3; exact ⟨_, _, _, rfl⟩
      clear kR b1 b2 b3 h ha hbig hz hs hd r3 d3
      go_wp2_with fail
      refine kT.mono ?_
      rintro e w4 ⟨rfl, b4⟩
      go_wp2_with fail
      go_ret
      exact ⟨rfl, bw3.trans (b4.mono bw3.size)⟩
end Go.Proofs.Ytfhldldcfdimhaa
