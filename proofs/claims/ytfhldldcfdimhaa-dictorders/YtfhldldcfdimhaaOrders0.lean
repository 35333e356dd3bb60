/- The walk of DictOrders. -/
import Derived.Test.YtfhldldcfdimhaaAwake
import Derived.Maps.Own
import Derived.Maps.OwnOps
import Derived.Maps.OwnSet
import Derived.Maps.Views
import Derived.Maps.Keyed
namespace Go.Proofs.Ytfhldldcfdimhaa
open Go.RowKit Go.Shelf Go.Sort Go.Maps Go.WideMaps

theorem inss_snoc (l : List Str) (t : Str) : inss (l ++ [t]) = ins (inss l) t := by simp [inss]
theorem uniq_snoc (l : List Str) (t : Str) : (uniq (l ++ [t])).length = if t ∈ l then (uniq l).length else (uniq l).length + 1 := by
  rw [← inss_uniq, ← inss_uniq, inss_snoc]
  obtain ⟨hr, hm⟩ := inss_facts l
  unfold ins
  by_cases h : t ∈ l
  · rw [if_pos h, if_pos ((frm_there hr t).2 ((hm t).2 h))]
  · rw [if_neg h, if_neg (fun x => h ((hm t).1 ((frm_there hr t).1 x)))]
    have := frm_le (inss l) t
    simp
    omega
/-- What the map holds once these texts have been met. -/
structure MetD (D : DataW Nat) (l : List Str) : Prop where
  tidy : Tidy D
  has : ∀ t, Maps.has D (.string t) = decide (t ∈ l)
  size : Maps.size D = (uniq l).length
theorem MetD.nil : MetD (.map []) [] := ⟨tidy_empty, fun t => by simp [has_eq], by simp [size_eq, uniq, Lib.compact, Lib.compactUpTo]⟩
theorem MetD.put {D : DataW Nat} {l : List Str} (h : MetD D l) (t : Str) (d : DataW Nat) : MetD (D.put (.string t) d) (l ++ [t]) := by
  refine ⟨h.tidy.put (k := .string t) trivial d, fun u => ?_, ?_⟩
  · by_cases e : u = t
    · subst e
      rw [has_put_same (k := .string u) h.tidy.isMap trivial]
      simp
    · rw [has_put_other (by simpa using e), h.has]
      simp [e]
  · rw [size_put h.tidy, h.has, uniq_snoc, h.size]
    simp
theorem Try.keyed : Keyed Try.prog 9 := string_keyed Try.underlying9
theorem Try.zeroInt (w : World) : (zeroValue 3).run Try.prog w = .ok (.int .i64 0) w := by kernel_rfl
theorem Try.key (t : Str) (h : t.length ≤ maxLen) : keyOf Try.prog 9 (.string ⟨t.toArray⟩) = some (.string t) := by
  have := keyOf_string_mk Try.underlying9 (s := ⟨t.toArray⟩) (by rw [str_size]; exact h)
  simpa using this
theorem grown_of {w w' : World} (h : Below w.heap.size w w') : w.grownBy w' none := ⟨h.os, h.tape, h.output, h.size, fun i hi _ => h.block i hi⟩
theorem take_snoc (ts : List Str) (i : Nat) (h : i < ts.length) : ts.take (i + 1) = ts.take i ++ [ts.getD i []] := by
  rw [getD_at h, List.take_succ_eq_append_getElem h]

set_option maxRecDepth 100000 in
set_option maxHeartbeats 4000000 in
theorem orders_walk (w : World) (v : Value) (ts : List Str) (h : Rds w v (sv ts)) (hbig : ts.length * 16 ≤ 140737488351232) (s : Str) (hs : s.length ≤ 140737488351232) :
    Calls Try.prog 6 #[v, .string ⟨s.toArray⟩] w fun e w' => e = .returned (.bool true) ∧ Below w.heap.size w w' := by
  by_cases hok : okT ts
  · have hmm := @run_makeMap Try.prog
    obtain ⟨ao, n, cap, rfl⟩ : ∃ ao n cap, v = .slice ao n cap := by obtain ⟨ao, cap, rfl, _⟩ := h; exact ⟨_, _, _, rfl⟩
    have hh := h
    obtain ⟨rfl, g1, g2, g3⟩ := h.cells
    simp only [sv_length] at *
    go_enter Try.func6, Try.ntmps6
    go_wp2_with fail
    refine (awake_any w).mono ?_
    rintro e w1 ⟨rfl, b1⟩
    go_wp2_with fail
    refine (build_ok w1 _ ts (hh.below b1) (by omega) hok).mono ?_
    rintro e W ⟨p, rfl, d, b2⟩
    have bW := b1.trans (b2.mono b1.size)
    obtain ⟨B, vv, rfl, _⟩ := id d.ex
    have hmem := (uniq_facts ts).2
    have hri := d.ris
    have hfew := hok.1
    have hso := hok.1
    obtain ⟨l, hl⟩ : ∃ l, l = uniq ts := ⟨_, rfl⟩
    have HL := hide hl
    rw [← hl] at d hri hmem
    have hle := d.le
    clear hl b1 b2 hok h hh
    obtain ⟨n, hn⟩ : ∃ n, n = ts.length := ⟨_, rfl⟩
    rw [← hn] at g1 g3 hbig
    have HN := hide hn
    rw [← hn]
    clear hn
    go_wp2_with fail
    go_loopw [9] (fun vi wr => ∃ (i : Nat) (D : DataW Nat), vi = .int .i64 i ∧ Hid (i ≤ n) ∧ wr.ownsMap Try.prog 9 (plainElem Try.prog 3) W.heap.size i D ∧ MetD D (ts.take i) ∧ Below W.heap.size W wr) (fun vi _ => n - (intOf vi).toNat)
    case atStart => exact ⟨0, .map [], rfl, hide (by omega), World.ownsMap_made _ _ _ _, by simpa using MetD.nil, (Below.refl _ _).alloc (Nat.le_refl _) _⟩
    case round =>
      obtain ⟨i, D, rfl, hi, own, met, bel⟩ := hrel
      have hi := unhide hi
      by_cases hlt : i < n
      · have hlt' : (i : Int) < (n : Int) := by omega
        have hltn : i < ts.length := by rw [← unhide HN]; exact hlt
        obtain ⟨b, off, rfl, hc⟩ := g3 (by omega)
        have hck := hc i _ (sv_get ts i hltn)
        rw [← bW.cell (World.block_lt_of_cell? _ _ hck)] at hck
        have hbW := World.block_lt_of_cell? _ _ hck
        have hck1 : ∀ w', Below W.heap.size W w' → w'.cell? ⟨b, off + i, none⟩ = some (.string ⟨(ts.getD i []).toArray⟩) := fun w' hb => (hb.cell hbW).trans hck
        have htm : ts.getD i [] ∈ ts := by rw [getD_at hltn]; exact List.getElem_mem hltn
        have htl := hso _ htm
        have hml := (hmem _).2 htm
        have hts := take_snoc ts i hltn
        generalize ts.getD i [] = t at *
        have kI : ∀ w', Below W.heap.size W w' → Calls Try.prog 18 #[.pointer (some ⟨B, 0, none⟩), .string ⟨t.toArray⟩] w' fun e w'' => e = .returned (.tuple #[.int .i64 (frm l t : Nat), .bool true]) ∧ Below w'.heap.size w' w'' := fun w' hb => id_in w' _ l t (.inr (d.below hb)) hml
        have kT : ∀ w', Below W.heap.size W w' → Calls Try.prog 17 #[.pointer (some ⟨B, 0, none⟩), .int .i64 (frm l t : Nat)] w' fun e w'' => e = .returned (.tuple #[.string ⟨t.toArray⟩, .bool true]) ∧ w'' = w' := fun w' hb => by
          obtain ⟨f1, f2⟩ := (frm_there hri t).2 hml
          have := text_in w' _ l (.inr (d.below hb)) (frm l t) f1
          rwa [f2] at this
        generalize frm l t = r at *
        have hkey := Try.key t (by unfold maxLen; omega)
        have hc0 := hck1 wr bel
        have HTS := hide hts
        have MET := hide met
        clear hts met hck g3 hc
        go_wp2_with fail
        refine (kI _ bel).mono ?_
        rintro e w3 ⟨rfl, b3⟩
        have own3 := own.kept (grown_of b3) (by simp)
        have bel3 := bel.trans (b3.mono bel.size)
        have hc3 := hck1 w3 bel3
        clear own hc0 kI
        go_wp2_with fail
        refine (kT _ bel3).mono ?_
        rintro e w4 ⟨rfl, rfl⟩
        go_wp2_with (first
          | (at_mapUpdate; refine wpList_mapUpdate_own _ rfl _ _ _ 42 rfl 9 3 Try.keyed Try.underlying42 _ W.heap.size i _ rfl own3 (by unfold maxLen; omega) _ _ _ rfl rfl hkey _ [] (plainElem_int Try.underlying3 (by decide)) ?_; intro w5 own5 grow5))
        go_roundw
        case rel => exact ⟨i + 1, _, by go_num, hide (by omega), own5, by rw [unhide HTS]; exact (unhide MET).put t _, bel3.grown grow5 bel3.size (fun k hk => by cases hk; exact Nat.le_refl _)⟩
        case measure => simp [intOf]; omega
      · have hlt' : ¬ (i : Int) < (n : Int) := by omega
        have e : i = n := by omega
        subst e
        rw [unhide HN, List.take_length] at met
        obtain ⟨W2, rfl⟩ : ∃ W2, W2 = wr := ⟨_, rfl⟩
        have d2 := d.below bel
        have bw2 := bW.trans (bel.mono bW.size)
        have hmh := met.has s
        have hmz := met.size
        rw [← unhide HL] at hmz
        have hin : decide (s ∈ ts) = decide (s ∈ l) := decide_eq_decide.2 (hmem s).symm
        rw [hin] at hmh
        have HMH := hide hmh
        have HMZ := hide hmz
        clear met hin hmh hmz d bel g3 hmem hfew hso
        go_wp2_with fail
        go_loopw [14] (fun vi wq => ∃ j : Nat, vi = .int .i64 j ∧ Hid (1 ≤ j) ∧ Hid (wq = W2)) (fun vi _ => l.length - (intOf vi).toNat)
        case atStart => exact ⟨1, rfl, hide (by omega), hide rfl⟩
        case round =>
          obtain ⟨j, rfl, hj, hwq⟩ := hrel
          have hj := unhide hj
          obtain rfl := unhide hwq
          by_cases hjl : j < l.length
          · have hjl' : (j : Int) < (l.length : Int) := by omega
            have ab := hri.get (i := j - 1) (j := j) (by omega) hjl
            have k1 := text_in _ _ l (.inr d2) (j - 1) (by omega)
            have k2 := text_in _ _ l (.inr d2) j hjl
            rw [← getD_at hjl, ← getD_at (show j - 1 < l.length by omega)] at ab
            generalize l.getD (j - 1) [] = ta at *
            generalize l.getD j [] = tb at *
            have hb : Op.bytesLess ta tb = true := by rw [bytesLess_eq]; exact decide_eq_true ab
            obtain ⟨m, hm⟩ : ∃ m, j - 1 = m := ⟨_, rfl⟩
            have hm' : (j : Int) - 1 = (m : Int) := by omega
            rw [hm] at k1
            have hml : m ≤ 4096 := by omega
            have HM := hide hm
            clear hm ab
            go_wp2_with fail
            refine (len_any _ _ l (.inr d2)).mono ?_
            rintro e w5 ⟨rfl, rfl⟩
            go_wp2_with fail
            refine k1.mono ?_
            rintro e w6 ⟨rfl, rfl⟩
            go_wp2_with fail
            refine k2.mono ?_
            rintro e w7 ⟨rfl, rfl⟩
            go_wp2_with fail
            go_roundw
            case rel => exact ⟨j + 1, by go_num, hide (by omega), hide trivial⟩
            case measure => simp [intOf]; omega
          · have hjl' : ¬ (j : Int) < (l.length : Int) := by omega
            have hkey := Try.key s (by unfold maxLen; omega)
            by_cases hsl : s ∈ l
            · rw [decide_eq_true hsl] at HMH
              go_wp2_with fail
              refine (len_any _ _ l (.inr d2)).mono ?_
              rintro e w5 ⟨rfl, rfl⟩
              go_wp2_with fail
              refine (id_in _ _ l s (.inr d2) hsl).mono ?_
              rintro e w6 ⟨rfl, b6⟩
              have own6 := own.kept (grown_of b6) (by simp)
              have d6 := d2.below b6
              have bw6 := bw2.trans (b6.mono bw2.size)
              clear own d2 b6
              go_wp2_with (first
                | (at_lookup; refine wpList_lookup_own_ok_int _ rfl _ _ 42 rfl 9 3 .i64 Try.keyed Try.underlying42 Try.underlying3 (Try.zeroInt _) W.heap.size i _ rfl own6 _ _ rfl hkey ?_; intro c hat hwc; rw [unhide HMH]))
              refine (len_any _ _ l (.inr d6)).mono ?_
              rintro e w7 ⟨rfl, rfl⟩
              go_wp2_with (first
                | (at_len; refine wpList_len_own _ rfl _ 42 rfl 9 3 Try.underlying42 _ W.heap.size i _ rfl own6 ?_; rw [unhide HMZ]))
              go_ret
              exact ⟨rfl, bw6⟩
            · rw [decide_eq_false hsl] at HMH
              go_wp2_with fail
              refine (len_any _ _ l (.inr d2)).mono ?_
              rintro e w5 ⟨rfl, rfl⟩
              go_wp2_with fail
              refine (id_out _ _ l s (.inr d2) hsl).mono ?_
              rintro e w6 ⟨rfl, b6⟩
              have own6 := own.kept (grown_of b6) (by simp)
              have d6 := d2.below b6
              have bw6 := bw2.trans (b6.mono bw2.size)
              clear own d2 b6
              go_wp2_with (first
                | (at_lookup; refine wpList_lookup_own_ok_int _ rfl _ _ 42 rfl 9 3 .i64 Try.keyed Try.underlying42 Try.underlying3 (Try.zeroInt _) W.heap.size i _ rfl own6 _ _ rfl hkey ?_; intro c hat hwc; rw [unhide HMH]))
              refine (len_any _ _ l (.inr d6)).mono ?_
              rintro e w7 ⟨rfl, rfl⟩
              go_wp2_with (first
                | (at_len; refine wpList_len_own _ rfl _ 42 rfl 9 3 Try.underlying42 _ W.heap.size i _ rfl own6 ?_; rw [unhide HMZ]))
              go_ret
              exact ⟨rfl, bw6⟩
  · go_enter Try.func6, Try.ntmps6
    go_wp2_with fail
    refine (awake_any w).mono ?_
    rintro e w1 ⟨rfl, b1⟩
    go_wp2_with fail
    refine (build_bad w1 v ts (h.below b1) (by omega) hok).mono ?_
    rintro e w2 ⟨rfl, b2⟩
    have bw2 := b1.trans (b2.mono b1.size)
    go_wp2_with fail
    go_ret
    exact ⟨rfl, bw2⟩
end Go.Proofs.Ytfhldldcfdimhaa
