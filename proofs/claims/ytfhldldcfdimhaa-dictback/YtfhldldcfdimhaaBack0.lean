/- The walk of DictBack. -/
import Derived.Test.YtfhldldcfdimhaaAwake
import Derived.Test.YtfhldldcfdimhaaPrs
namespace Go.Proofs.Ytfhldldcfdimhaa
open Go.RowKit Go.Shelf Go.Sort

theorem uv_pos (n : Nat) : 1 ≤ (Num.uv n).length := by
  unfold Num.uv
  by_cases h : n < 128
  · rw [Num.uvF_small 9 n h]; simp
  · rw [Num.uvF_great 8 n (by omega)]; simp
theorem pcs_least (ts : List Str) : ∀ k, 2 * k ≤ (pcs ts k).length
  | 0 => by simp
  | k + 1 => by
    have := pcs_least ts k
    rw [pcs_succ, List.length_append]
    unfold piece
    have h1 := uv_pos (cpl (prv ts k) (ts.getD k []))
    have h2 := uv_pos ((ts.getD k []).length - cpl (prv ts k) (ts.getD k []))
    simp only [List.length_append]
    omega
/-- What was written is read, to its end. -/
theorem fnl_back {ts : List Str} (hr : Ris ts) (hf : ∀ t ∈ ts, t.length ≤ 64) (hl : ts.length ≤ 4096) : fnl (byts ts) = ((byts ts).length, 0, some ts) := by
  have h1 := Rd.uS_write (byts ts) (pcs ts ts.length) 0 ts.length (by rw [List.drop_zero]; rfl) (by omega)
  have hp := pcs_least ts ts.length
  have hc : cS (byts ts) 0 0 2 = (ts.length, (Num.uv ts.length).length, 0) := by
    unfold cS
    rw [h1, Nat.zero_add, if_neg]
    rintro ⟨_, hx⟩
    simp only [lim, lf] at hx
    rw [if_neg (by omega)] at hx
    have e : (byts ts).length = (Num.uv ts.length).length + (pcs ts ts.length).length := by unfold byts; simp
    simp only [if_true, e] at hx
    have e2 : (Num.uv ts.length).length + (pcs ts ts.length).length - (Num.uv ts.length).length = (pcs ts ts.length).length := by omega
    rw [e2, show ((2 : Int)).toNat = 2 from rfl] at hx
    omega
  have hb := rnd_back hr hf ts.length (Nat.le_refl _)
  unfold fnl ini
  rw [hc]
  simp only
  rw [if_pos hl, hb, List.take_length]
  rfl

set_option maxRecDepth 100000 in
set_option maxHeartbeats 4000000 in
theorem back_walk (w : World) (v : Value) (ts : List Str) (h : Rds w v (sv ts)) (hbig : ts.length * 16 ≤ 140737488351232) :
    Calls Try.prog 5 #[v] w fun e w' => e = .returned (.bool true) ∧ Below w.heap.size w w' := by
  by_cases hok : okT ts
  · go_enter Try.func5, Try.ntmps5
    go_wp2_with fail
    refine (awake_any w).mono ?_
    rintro e w1 ⟨rfl, b1⟩
    go_wp2_with fail
    refine (build_ok w1 v ts (h.below b1) (by omega) hok).mono ?_
    rintro e w2 ⟨p, rfl, d2, b2⟩
    obtain ⟨B, vv, rfl, _⟩ := id d2.ex
    obtain ⟨l, hl⟩ : ∃ l, l = uniq ts := ⟨_, rfl⟩
    rw [← hl] at d2
    have bw2 : Below w.heap.size w w2 := b1.trans (b2.mono b1.size)
    have kY := bytes_any w2 _ l d2
    clear hl b1 b2 h hok hbig
    go_wp2_with fail
    refine kY.mono ?_
    rintro e w3 ⟨v3, rfl, o3, b3⟩
    have d3 := d2.below b3
    have bw3 := bw2.trans (b3.mono bw2.size)
    have hrd := o3.reads
    have hfb := fnl_back d3.ris d3.few d3.le
    have hbl : (byts l).length ≤ 140737488351232 := by
      have hle := d3.le
      have hps : ∀ k, k ≤ l.length → (pcs l k).length ≤ 84 * k := by
        intro k
        induction k with
        | zero => intro _; simp [pcs]
        | succ k ih =>
          intro hk
          have := ih (by omega)
          have hpl := piece_length (prv l k) (l.getD k []) (d3.len k)
          rw [pcs_succ, List.length_append]; omega
      have := hps l.length (Nat.le_refl _)
      have hu := Num.uv_length l.length
      unfold byts
      rw [List.length_append]
      omega
    have kP := parse_any w3 v3 (byts l) hrd hbl
    rw [hfb] at kP
    have hen : en (byts l) (byts l).length 0 = 0 := by unfold en; simp
    simp only [hen] at kP
    clear kY o3 hrd hfb hbl hen d2 bw2
    have HD : Hid (IDict w3 (.pointer (some ⟨B, 0, none⟩)) l ∧ Below w.heap.size w w3) := ⟨d3, bw3⟩
    clear d3 bw3 b3
    go_wp2_with fail
    refine kP.mono ?_
    rintro e w4 ⟨hres, b4⟩
    have hres' : ∃ D, e = .returned (.tuple #[.pointer (some ⟨D, 0, none⟩), .int .i64 0]) ∧ IDict w4 (.pointer (some ⟨D, 0, none⟩)) l := by
      rcases hres with ⟨h1, _⟩ | ⟨_, h1, _⟩ | ⟨_, ts', D, h1, h2, h3⟩
      · exact absurd rfl h1
      · cases h1
      · simp only [Option.some.injEq] at h1
        subst h1
        exact ⟨D, h2, h3⟩
    clear hres
    obtain ⟨D, rfl, dk⟩ := hres'
    have dd : IDict w4 (.pointer (some ⟨B, 0, none⟩)) l := HD.out.1.below b4
    have bw4 : Below w.heap.size w w4 := HD.out.2.trans (b4.mono HD.out.2.size)
    have HD4 : Hid (IDict w4 (.pointer (some ⟨B, 0, none⟩)) l ∧ IDict w4 (.pointer (some ⟨D, 0, none⟩)) l ∧ Below w.heap.size w w4) := ⟨dd, dk, bw4⟩
    have hle := dd.le
    have kL1 := len_any w4 _ l (.inr dk)
    have kL2 := len_any w4 _ l (.inr dd)
    clear kP dd dk bw4 b4 HD
    go_wp2_with fail
    refine kL1.mono ?_
    rintro e w5 ⟨rfl, rfl⟩
    go_wp2_with fail
    refine kL2.mono ?_
    rintro e w6 ⟨rfl, rfl⟩
    go_wp2_with fail
    go_loopw [8] (fun vi wq => ∃ j : Nat, vi = .int .i64 j ∧ Hid (wq = w6)) (fun vi _ => l.length - (intOf vi).toNat)
    case atStart => exact ⟨0, rfl, hide rfl⟩
    case round =>
      obtain ⟨j, rfl, hwq⟩ := hrel
      obtain rfl := unhide hwq
      by_cases hjl : j < l.length
      · have hjl' : (j : Int) < (l.length : Int) := by omega
        obtain ⟨q1, q2, q3⟩ := HD4.out
        have k1 := text_in _ _ l (.inr q1) j hjl
        have k2 := text_in _ _ l (.inr q2) j hjl
        have kL := len_any _ _ l (.inr q1)
        generalize l.getD j [] = tt at *
        clear q1 q2 q3
        go_wp2_with fail
        refine kL.mono ?_
        rintro e w7 ⟨rfl, rfl⟩
        go_wp2_with fail
        refine k1.mono ?_
        rintro e w8 ⟨rfl, rfl⟩
        go_wp2_with fail
        refine k2.mono ?_
        rintro e w9 ⟨rfl, rfl⟩
        go_wp2_with fail
        go_roundw
        case rel => exact ⟨j + 1, by go_num, hide trivial⟩
        case measure => simp [intOf]; omega
      · have hjl' : ¬ (j : Int) < (l.length : Int) := by omega
        obtain ⟨q1, q2, q3⟩ := HD4.out
        have kL := len_any _ _ l (.inr q1)
        clear q1 q2 q3
        go_wp2_with fail
        refine kL.mono ?_
        rintro e w7 ⟨rfl, rfl⟩
        go_wp2_with fail
        go_ret
        exact ⟨rfl, HD4.out.2.2⟩
  · go_enter Try.func5, Try.ntmps5
    go_wp2_with fail
    refine (awake_any w).mono ?_
    rintro e w1 ⟨rfl, b1⟩
    go_wp2_with fail
    refine (build_bad w1 v ts (h.below b1) (by omega) hok).mono ?_
    rintro e w2 ⟨rfl, b2⟩
    have bw2 := b1.trans (b2.mono b1.size)
    go_wp2_with fail
    go_ret
    exact ⟨rfl, bw2⟩
end Go.Proofs.Ytfhldldcfdimhaa
