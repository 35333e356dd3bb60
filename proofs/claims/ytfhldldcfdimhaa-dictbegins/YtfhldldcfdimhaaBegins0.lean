/- The walk of DictBegins. -/
import Derived.Test.YtfhldldcfdimhaaAwake
namespace Go.Proofs.Ytfhldldcfdimhaa
open Go.RowKit Go.Shelf Go.Sort

theorem str_take (t : Str) (k : Nat) : (⟨t.toArray⟩ : ByteArray).extract 0 k = ⟨(t.take k).toArray⟩ := by
  apply ByteArray.ext
  apply Array.ext'
  rw [Lib.extract_data]
  simp
theorem pre_yes {s t : Str} (h : pre s t = true) : s.length ≤ t.length ∧ t.take s.length = s := by
  unfold pre at h
  rw [List.isPrefixOf_iff_prefix] at h
  exact ⟨h.length_le, (List.prefix_iff_eq_take.1 h).symm⟩
theorem pre_no {s t : Str} (h : ¬ pre s t = true) (_hl : s.length ≤ t.length) : t.take s.length ≠ s := fun e => h (by
  unfold pre
  rw [List.isPrefixOf_iff_prefix]
  exact List.prefix_iff_eq_take.2 e.symm)

set_option maxRecDepth 100000 in
set_option maxHeartbeats 1600000 in
theorem begins_walk (w : World) (v : Value) (ts : List Str) (s : Str) (h : Rds w v (sv ts)) (hbig : ts.length * 16 ≤ 140737488355328) :
    Calls Try.prog 8 #[v, .string ⟨s.toArray⟩] w fun e w' => e = .returned (.bool true) ∧ Below w.heap.size w w' := by
  by_cases hok : okT ts
  · go_enter Try.func8, Try.ntmps8
    go_wp2_with fail
    refine (awake_any w).mono ?_
    rintro e w1 ⟨rfl, b1⟩
    go_wp2_with fail
    refine (build_ok w1 v ts (h.below b1) hbig hok).mono ?_
    rintro e w2 ⟨p, rfl, d2, b2⟩
    have bw2 := b1.trans (b2.mono b1.size)
    obtain ⟨B, vv, rfl, _⟩ := id d2.ex
    generalize uniq ts = l at *
    have hls := d2.le
    have hri := d2.ris
    go_wp2_with fail
    refine (begin_any w2 _ l s (.inr d2)).mono ?_
    rintro e w3 ⟨rfl, b3⟩
    have bw3 := bw2.trans (b3.mono bw2.size)
    have d3 := d2.below b3
    have hlo : frm l s ≤ bgn l s := by unfold bgn; omega
    have hhi := bgn_le l s
    have hiff := bgn_iff hri s
    have hlen := d3.len
    generalize frm l s = lo at *
    generalize bgn l s = hi at *
    have e0 : decide ((lo : Int) < 0) = false := decide_eq_false (by omega)
    have e1 : decide (hi < lo) = false := decide_eq_false (by omega)
    have e2 : decide (l.length < hi) = false := decide_eq_false (by omega)
    have hlo' : ¬ (hi : Int) < (lo : Int) := by omega
    have hhi' : ¬ (l.length : Int) < (hi : Int) := by omega
    clear d2 b3 b2 b1 h hok
    go_wp2_with fail
    refine (len_any w3 _ l (.inr d3)).mono ?_
    rintro e wr ⟨rfl, rfl⟩
    go_wp2_with fail
    go_loopw [10] (fun vi wq => ∃ i : Nat, vi = .int .i64 i ∧ Hid (i ≤ l.length) ∧ Hid (wq = wr)) (fun vi _ => l.length - (intOf vi).toNat)
    case atStart => exact ⟨0, rfl, hide (by omega), hide rfl⟩
    case round =>
      obtain ⟨i, rfl, hi', hwq⟩ := hrel
      have hi' := unhide hi'
      obtain rfl := unhide hwq
      by_cases hlt : i < l.length
      · have hlt' : (i : Int) < (l.length : Int) := by omega
        have hi1 := hiff i hlt
        rw [← getD_at hlt] at hi1
        have htl := hlen i
        have kT := text_in wr _ l (.inr d3) i hlt
        generalize l.getD i [] = t at *
        have hsz := str_size t
        have hss := str_size s
        have HI := hide hi1
        clear hiff hi1 hlen
        go_wp2_with fail
        refine (len_any wr _ l (.inr d3)).mono ?_
        rintro e w5 ⟨rfl, rfl⟩
        go_wp2_with fail
        refine kT.mono ?_
        rintro e w6 ⟨rfl, rfl⟩
        by_cases hp : pre s t = true
        · obtain ⟨p1, p2⟩ := pre_yes hp
          obtain ⟨q1, q2⟩ := (unhide HI).1 hp
          have p1' : (s.length : Int) ≤ (t.length : Int) := by omega
          have q1' : (lo : Int) ≤ (i : Int) := by omega
          have q2' : (i : Int) < (hi : Int) := by omega
          have st := str_take t s.length
          rw [p2] at st
          clear hp p2
          go_wp2_with fail
          go_roundw
          case rel => exact ⟨i + 1, by go_num, hide (by omega), hide trivial⟩
          case measure => simp [intOf]; omega
        · have hn : ¬ (lo ≤ i ∧ i < hi) := fun x => hp ((unhide HI).2 x)
          by_cases hsl : s.length ≤ t.length
          · have hsl' : (s.length : Int) ≤ (t.length : Int) := by omega
            have hne := beq_str (pre_no hp hsl)
            have st := str_take t s.length
            generalize t.take s.length = t' at *
            clear hp
            by_cases q1 : lo ≤ i
            · have q1' : (lo : Int) ≤ (i : Int) := by omega
              have q2' : ¬ (i : Int) < (hi : Int) := by omega
              go_wp2_with fail
              go_roundw
              case rel => exact ⟨i + 1, by go_num, hide (by omega), hide trivial⟩
              case measure => simp [intOf]; omega
            · have q1' : ¬ (lo : Int) ≤ (i : Int) := by omega
              go_wp2_with fail
              go_roundw
              case rel => exact ⟨i + 1, by go_num, hide (by omega), hide trivial⟩
              case measure => simp [intOf]; omega
          · have hsl' : ¬ (s.length : Int) ≤ (t.length : Int) := by omega
            clear hp
            by_cases q1 : lo ≤ i
            · have q1' : (lo : Int) ≤ (i : Int) := by omega
              have q2' : ¬ (i : Int) < (hi : Int) := by omega
              go_wp2_with fail
              go_roundw
              case rel => exact ⟨i + 1, by go_num, hide (by omega), hide trivial⟩
              case measure => simp [intOf]; omega
            · have q1' : ¬ (lo : Int) ≤ (i : Int) := by omega
              go_wp2_with fail
              go_roundw
              case rel => exact ⟨i + 1, by go_num, hide (by omega), hide trivial⟩
              case measure => simp [intOf]; omega
      · have hlt' : ¬ (i : Int) < (l.length : Int) := by omega
        go_wp2_with fail
        refine (len_any wr _ l (.inr d3)).mono ?_
        rintro e w5 ⟨rfl, rfl⟩
        go_wp2_with fail
        go_ret
        exact ⟨rfl, bw3⟩
  · go_enter Try.func8, Try.ntmps8
    go_wp2_with fail
    refine (awake_any w).mono ?_
    rintro e w1 ⟨rfl, b1⟩
    go_wp2_with fail
    refine (build_bad w1 v ts (h.below b1) hbig hok).mono ?_
    rintro e w2 ⟨rfl, b2⟩
    have bw2 := b1.trans (b2.mono b1.size)
    go_wp2_with fail
    go_ret
    exact ⟨rfl, bw2⟩
theorem begins_law (w : World) (v : Value) (ts : List Str) (h : Rds w v (sv ts)) (hbig : ts.length * 16 ≤ 140737488351232) (s : Str) (_hs : s.length ≤ 140737488351232) :
    Calls Try.prog 8 #[v, .string ⟨s.toArray⟩] w fun e w' => e = .returned (.bool true) ∧ Below w.heap.size w w' := begins_walk w v ts s h (by omega)
end Go.Proofs.Ytfhldldcfdimhaa
