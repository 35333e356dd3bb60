/- Contracts of the library's Clone, Sort, Compact at texts, of strings.Clone and of copied. -/
import Derived.Test.YtfhldldcfdimhaaWays2
import Derived.Sort.OwnSorted
import Derived.Sort.Grow
import Derived.Lib.OwnBridge
import Derived.Laws.OwnMore
namespace Go.Proofs.Ytfhldldcfdimhaa
open Go.RowKit Go.Shelf Go.Sort

theorem sv_enc (ts : List Str) : sv ts = ts.map encStr := rfl
theorem sv_getD (ts : List Str) (j : Nat) (hj : j < ts.length) : ((ts.map fun t => (⟨t.toArray⟩ : ByteArray)).getD j ByteArray.empty) = ⟨(ts.getD j []).toArray⟩ := by simp [hj]

theorem clone_any (w : World) (v : Value) (ts : List Str) (h : Rds w v (sv ts)) (hbig : ts.length * 16 ≤ 140737488355328) :
    Calls Try.prog 24 #[v] w fun e w' => ∃ v', e = .returned v' ∧ Own w' w.heap.size 9 v' (sv ts) ∧ (v' = .slice none 0 0 → ts = []) ∧ Below w.heap.size w w' := by
  obtain ⟨ao, n, cap, rfl⟩ : ∃ ao n cap, v = .slice ao n cap := by obtain ⟨ao, cap, rfl, _⟩ := h; exact ⟨_, _, _, rfl⟩
  have h' := h
  obtain ⟨rfl, h1, h2, h3⟩ := h.cells
  simp only [sv_length] at *
  by_cases h0 : 0 < ts.length
  · obtain ⟨b, off, rfl, hc⟩ := h3 h0
    refine (Try.slices_Clone_string b off ts.length cap (ts.map fun t => ⟨t.toArray⟩) w (by simp) hbig (fun j hj => ?_)).mono ?_
    · have hj' : j < ts.length := by simpa using hj
      rw [sv_getD ts j hj']
      exact hc j _ (sv_get ts j hj')
    · rintro e w' ⟨v', rfl, ho, hn, hb⟩
      refine ⟨v', rfl, ?_, fun x => absurd x hn, hb⟩
      have e1 : ((ts.map fun t => (⟨t.toArray⟩ : ByteArray)).take ts.length).map Value.string = sv ts := by
        rw [List.take_of_length_le (by simp)]
        simp [sv]
      rw [e1] at ho
      unfold Own
      rw [sv_length]
      exact ho
  · obtain rfl : ts = [] := List.eq_nil_of_length_eq_zero (by omega)
    cases ao with
    | none =>
      refine (Try.slices_Clone_string_nil _ cap w).mono ?_
      rintro e w' ⟨rfl, rfl⟩
      exact ⟨_, rfl, ⟨rfl, .inl ⟨rfl, rfl⟩⟩, fun _ => rfl, Below.refl _ _⟩
    | some a =>
      refine (Try.slices_Clone_string_zero a cap w).mono ?_
      rintro e w' ⟨v', rfl, ho, hn, hb⟩
      exact ⟨v', rfl, ho, fun _ => rfl, hb⟩

def srt (ts : List Str) : List Str := ts.mergeSort fun x y => decide (x ≤ y)
theorem srt_length (ts : List Str) : (srt ts).length = ts.length := List.length_mergeSort ts
theorem sort_any (w : World) (base : Nat) (v : Value) (ts : List Str) (h : Own w base 9 v (sv ts)) (hv : v = .slice none 0 0 → ts = []) (hb : base ≤ w.heap.size) (hbig : ts.length ≤ 4611686018427387903) :
    Calls Try.prog 25 #[v] w fun e w' => e = .returned (.tuple #[]) ∧ Own w' base 9 v (sv (srt ts)) ∧ Below base w w' := by
  by_cases hn : v = .slice none 0 0
  · subst hn
    obtain rfl := hv rfl
    refine (Try.slices_Sort_string_none none 0 w).mono ?_
    rintro e w' ⟨rfl, rfl⟩
    refine ⟨rfl, ?_, Below.refl _ _⟩
    have e : srt [] = [] := by simp [srt]
    rw [e]
    exact h
  · have h' : w.ownsRow base 9 1 v ts.length (ts.map encStr) := by have := h; unfold Own at this; rwa [sv_length] at this
    obtain ⟨g, cap, rfl, hbg, hgl, hncap, hcm, hlen, hH⟩ := Lib.holds_of_ownsRow h' hn
    refine (Try.slices_Sort_string g 0 cap ts w hH hgl (by omega)).mono ?_
    rintro e w' ⟨rfl, n, os, rfl⟩
    refine ⟨rfl, ?_, (Below.refl base w).grown (grownBy_sorted _) hb (fun j hj => by cases hj; exact hbg)⟩
    rcases h'.2 with ⟨h0, _⟩ | ⟨g', cap', cur, hv', hbase, hb', h1, h2, h3, h4⟩
    · cases h0
    cases hv'
    have hs := ownsRow_sorted (n := n) (os := os) (ts := srt ts) (srt_length ts) hbase hb' h1 h2 h3
    unfold Own
    rw [sv_length, srt_length]
    exact hs
theorem compact_any (w : World) (base : Nat) (v : Value) (ts : List Str) (h : Own w base 9 v (sv ts)) (hv : v = .slice none 0 0 → ts = []) (hbig : ts.length ≤ 4611686018427387903) :
    Calls Try.prog 26 #[v] w fun e w' => ∃ v', e = .returned v' ∧ Own w' base 9 v' (sv (Lib.compact ts)) ∧ Below base w w' := by
  by_cases hn : v = .slice none 0 0
  · subst hn
    obtain rfl := hv rfl
    refine (Try.slices_Compact_string_empty none 0 w).mono ?_
    rintro e w' ⟨rfl, rfl⟩
    exact ⟨_, rfl, h, Below.refl _ _⟩
  · have h' : w.ownsRow base 9 1 v ts.length (ts.map encStr) := by have := h; unfold Own at this; rwa [sv_length] at this
    obtain ⟨g, cap, rfl, hbg, hgl, hncap, hcm, hlen, hH⟩ := Lib.holds_of_ownsRow h' hn
    refine (Try.slices_Compact_string g 0 cap ts w hH (by omega) (by omega)).mono ?_
    rintro e w' ⟨rfl, q, rfl⟩
    have hle := Lib.compact_length_le ts
    have hc := Lib.ownsRow_putRow (q := q) (k := (Lib.compact ts).length) (ys := Lib.compact ts ++ List.replicate (ts.length - (Lib.compact ts).length) []) h' (by simp; omega) hle
    rw [List.take_left] at hc
    refine ⟨_, rfl, ?_, Lib.below_putRow (Below.refl _ _) hbg⟩
    unfold Own
    rw [sv_length]
    exact hc

set_option maxHeartbeats 400000 in
theorem sclone_any (w : World) (t : Str) (ht : t.length ≤ 64) :
    Calls Try.prog 51 #[.string ⟨t.toArray⟩] w fun e w' => e = .returned (.string ⟨t.toArray⟩) ∧ Below w.heap.size w w' := by
  have hs := str_size t
  go_enter Try.func51, Try.ntmps51
  go_wp2_with fail
  refine (Try.stringslite_Clone ⟨t.toArray⟩ w (by omega)).mono ?_
  rintro e w' ⟨rfl, hb⟩
  go_wp2_with fail
  go_ret
  exact ⟨rfl, hb⟩

/-- The first i texts, and nothing yet for the others. -/
def mix (ts : List Str) (i : Nat) : List Str := ts.take i ++ List.replicate (ts.length - i) []
theorem mix_length (ts : List Str) (i : Nat) (h : i ≤ ts.length) : (mix ts i).length = ts.length := by simp [mix]; omega
theorem mix_get (ts : List Str) (i : Nat) (h : i ≤ ts.length) (j : Nat) : (mix ts i)[j]? = if j < i then ts[j]? else if j < ts.length then some [] else none := by
  simp only [mix, List.getElem?_append, List.length_take, Nat.min_eq_left h, List.getElem?_take, List.getElem?_replicate]
  by_cases h1 : j < i
  · simp [h1]
  · rw [if_neg h1, if_neg h1]
    by_cases h2 : j < ts.length
    · rw [if_pos (by omega), if_pos h2]
    · rw [if_neg (by omega), if_neg h2]
theorem mix_set (ts : List Str) (i : Nat) (h : i < ts.length) : (mix ts i).set i (ts.getD i []) = mix ts (i + 1) := by
  apply List.ext_getElem?
  intro j
  rw [List.getElem?_set, mix_get ts i (by omega), mix_get ts (i + 1) (by omega), mix_length ts i (by omega)]
  by_cases hj : i = j
  · subst hj
    rw [if_pos rfl, if_pos h, if_pos (by omega), getD_at h, List.getElem?_eq_getElem h]
  · rw [if_neg hj]
    by_cases h1 : j < i
    · simp [h1, show j < i + 1 by omega]
    · simp [h1, show ¬ j < i + 1 by omega]
theorem made_sv (n : Nat) : (madeCells (Value.string ⟨#[]⟩).cells (n * 1)).toList = sv (List.replicate n []) := by
  rw [Nat.mul_one]
  refine (toList_madeCells_one _ n).trans ?_
  simp [sv]
end Go.Proofs.Ytfhldldcfdimhaa
