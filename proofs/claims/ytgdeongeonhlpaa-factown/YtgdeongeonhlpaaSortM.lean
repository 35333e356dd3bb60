/- The contract of the library's stable sort at rows of facts. -/
import Derived.Test.YtgdeongeonhlpaaApp
import Derived.Test.YtgdeongeonhlpaaStable
namespace Go.Proofs.Ytgdeongeonhlpaa
open Go.RowKit Go.Sort Go.Shelf Go.Lib

set_option maxHeartbeats 800000 in
theorem rowcmp_any (w : World) (x y : En) (hx : x.Ok w) (hy : y.Ok w) :
    Calls Try.prog 47 #[.agg #[.int .i64 x.f.t, x.f.dv, x.f.mv, .int .u64 x.n], .agg #[.int .i64 y.f.t, y.f.dv, y.f.mv, .int .u64 y.n]] w fun e w' => e = .returned (.int .i64 (cmpF x.f.ft y.f.ft)) ∧ Grows w w' := by
  obtain ⟨W, hW⟩ : ∃ W, W = (w.alloc (.cells #[.int .i64 x.f.t, x.f.dv, x.f.mv, .int .u64 x.n] 46)).alloc (.cells #[.int .i64 y.f.t, y.f.dv, y.f.mv, .int .u64 y.n] 46) := ⟨_, rfl⟩
  have gW : Grows w W := by rw [hW]; exact (Grows.alloc _ _).trans (Grows.alloc _ _)
  have kc := compare_any W x.f y.f (hx.f.below gW.below) (hy.f.below gW.below)
  unfold Fc.val at kc
  have HG : Hid (Grows w W) := gW
  have HW : Hid _ := hW
  clear hx hy gW
  rw [hW] at kc
  clear hW
  go_enter Try.func47, Try.ntmps47
  go_wp2_with fail
  refine kc.mono ?_
  rintro e w' ⟨rfl, g2⟩
  rw [← HW.out] at g2
  have HG2 : Hid (Grows W w') := g2
  clear g2
  go_wp2_with fail
  go_ret
  exact ⟨rfl, Grows.trans HG.out HG2.out⟩

/-- Rows that read so in a world. -/
abbrev EnOk (wb : World) : Type := {e : En // e.Ok wb}
def en0 : En := ⟨⟨0, .slice none 0 0, .slice none 0 0, [], []⟩, 0⟩
theorem en0_ok (w : World) : en0.Ok w := ⟨⟨Rds.nil w, Rds.nil w, by decide, by decide⟩, by decide⟩
instance (wb : World) : Inhabited (EnOk wb) := ⟨⟨en0, en0_ok wb⟩⟩
def encE {wb : World} (e : EnOk wb) : List Value := e.1.cells
def cfE {wb : World} (x y : EnOk wb) : Int := cmpF x.1.f.ft y.1.f.ft
theorem cfE_swo (wb : World) : SWO (ltOf (cfE (wb := wb))) := by
  have h := cmpF_ord.swo
  exact ⟨fun x => h.irrefl _, fun x y z => h.trans _ _ _, fun x y z => h.ntrans _ _ _⟩
def arrE {wb : World} (l : List En) (h : ∀ e ∈ l, e.Ok wb) : Array (EnOk wb) := (l.pmap (fun e h => (⟨e, h⟩ : EnOk wb)) h).toArray
theorem arrE_size {wb : World} (l : List En) (h : ∀ e ∈ l, e.Ok wb) : (arrE l h).size = l.length := by simp [arrE]
theorem arrE_val {wb : World} (l : List En) (h : ∀ e ∈ l, e.Ok wb) : (arrE l h).toList.map (fun e => e.1) = l := by
  unfold arrE
  rw [List.toList_toArray, List.map_pmap]
  exact List.pmap_eq_map (f := id) h |>.trans (List.map_id _)
theorem arrE_get {wb : World} (l : List En) (h : ∀ e ∈ l, e.Ok wb) (i : Nat) (hi : i < l.length) : ((arrE l h)[i]!).1 = l[i] := by
  rw [getElem!_pos (arrE l h) i (by rw [arrE_size]; exact hi)]
  simp [arrE]
/-- What lies in other blocks than the row's is as it was. -/
theorem below_sortK {wb w : World} {base blk m : Nat} {d : Array (EnOk wb)} {os : Array Obj} (hb : base ≤ blk) (hsz : base ≤ w.heap.size) : Below base w (sortWorldK encE 4 w blk 0 m d os) := by
  refine ⟨rfl, rfl, rfl, ?_, fun i hi => ?_⟩
  · unfold sortWorldK; rw [size_grow, size_putRowK]; show w.heap.size ≤ w.heap.size + _; omega
  · have hne : blk ≠ i := by omega
    unfold sortWorldK
    rw [heap_grow_old _ _ (by rw [size_putRowK]; show i < w.heap.size; omega)]
    simp [putRowK, putRow, mapBlock, Sort.ahead, Array.getElem?_modify, hne]
theorem cmp_lays (wb w : World) (blk size : Nat) (hb : Below wb.heap.size wb w) (hblk : wb.heap.size ≤ blk) : CmpLays Try.prog 47 #[] (encE (wb := wb)) 4 cfE blk 0 size w := by
  intro m os dk hd x y
  have hB : Below wb.heap.size wb (sortWorldK encE 4 w blk 0 m dk os) := hb.trans (below_sortK hblk hb.size)
  exact rowcmp_any _ x.1 y.1 (x.2.below hB) (y.2.below hB)
theorem row_lays (wb w : World) (base g cap : Nat) (l : List En) (h : ∀ e ∈ l, e.Ok wb) (hown : w.ownsRow base 46 4 (.slice (some ⟨g, 0, none⟩) l.length cap) l.length (ev l)) (hg : g < w.heap.size) : RowK (encE (wb := wb)) 4 w g 0 (arrE l h) := by
  refine ⟨fun x => rfl, fun x => x.2.one, fun j hj => ?_, hg⟩
  rw [size_flatK, arrE_size] at hj
  rw [get_flatK _ _ _ _ (by rw [arrE_size]; exact hj), Nat.zero_add]
  refine ⟨?_, hown.frozenAt j⟩
  rw [hown.cellAt j hj]
  have h1 : j / 4 < l.length := by omega
  have e := ev_get l (j / 4) (j % 4) h1 (by omega)
  rw [show j / 4 * 4 + j % 4 = j by omega] at e
  rw [e]
  show _ = some ((arrE l h)[j / 4]!.1.cells[j % 4]!)
  rw [arrE_get l h (j / 4) h1]
  have h4 : j % 4 < (l[j / 4]).cells.length := by simp [En.cells]; omega
  rw [getElem!_pos (l[j / 4]).cells (j % 4) h4, List.getElem?_eq_getElem h4]

/-- Rising, alike ones side by side. -/
def Srt (l : List En) : Prop := l.Pairwise fun x y => ¬ cmpF y.f.ft x.f.ft < 0
theorem srt_of {wb : World} {d : Array (EnOk wb)} (h : SortedIn (ltOf cfE) 0 d.size d) : Srt (d.toList.map (fun e => e.1)) := by
  refine List.pairwise_map.2 (List.pairwise_iff_getElem.2 fun i j hi hj hij => ?_)
  have hj' : j < d.size := by simpa using hj
  have hi' : i < d.size := by simpa using hi
  have := h i j (Nat.zero_le _) hij hj'
  rw [getElem!_pos d i hi', getElem!_pos d j hj'] at this
  exact of_decide_eq_false this
theorem rds_of {wb w W : World} {g cap : Nat} {d0 d : Array (EnOk wb)} (R : RowK (encE (wb := wb)) 4 w g 0 d0) (S : SWK encE 4 w g 0 d W) (hs : d.size = d0.size) (hc : d.size ≤ cap) (hm : cap ≤ maxLen) :
    RdsK 4 W (.slice (some ⟨g, 0, none⟩) d.size cap) d.size (ev (d.toList.map (fun e => e.1))) := by
  refine ⟨some ⟨g, 0, none⟩, cap, rfl, by rw [ev_length]; simp, hc, hm, (fun h => by cases h), ?_⟩
  rintro ad ⟨rfl⟩ j u hj
  have hl : j < d.size * 4 := by
    have := (List.getElem?_eq_some_iff.1 hj).1
    rw [ev_length] at this
    simpa using this
  have h1 : j / 4 < (d.toList.map (fun e => e.1)).length := by simp; omega
  have e := ev_get (d.toList.map (fun e => e.1)) (j / 4) (j % 4) h1 (by omega)
  rw [show j / 4 * 4 + j % 4 = j by omega, hj] at e
  have hh := S.holds R.hblk R.hH hs j (by rw [size_flatK]; exact hl)
  rw [get_flatK _ _ _ _ hl, Nat.zero_add] at hh
  rw [Addr.add_lit, Nat.zero_add, hh.1]
  have h2 : j / 4 < d.size := by omega
  rw [getElem!_pos d _ h2]
  have h4 : j % 4 < (d[j / 4]).1.cells.length := by simp [En.cells]; omega
  have e2 : (List.map (fun e : EnOk wb => e.1) d.toList)[j / 4] = (d[j / 4]).1 := by simp
  rw [e2, List.getElem?_eq_getElem h4] at e
  show some ((d[j / 4]).1.cells[j % 4]!) = _
  rw [getElem!_pos (d[j / 4]).1.cells (j % 4) h4]
  exact e.symm

set_option maxHeartbeats 800000 in
theorem sort_many (wb w : World) (base : Nat) (v : Value) (l : List En) (hown : w.ownsRow base 46 4 v l.length (ev l)) (hok : ∀ e ∈ l, e.Ok wb) (hbw : Below wb.heap.size wb w) (hbase : wb.heap.size ≤ base) (hbs : base ≤ w.heap.size) (hlen : l.length < 1152921504606846976) :
    Calls Try.prog 46 #[v, .func (.func 47) #[] #[]] w fun e w' => e = .returned (.tuple #[]) ∧ ∃ l', l'.Perm l ∧ Srt l' ∧ RdsK 4 w' v l'.length (ev l') ∧ Below base w w' := by
  rcases hown.2 with ⟨rfl, hn⟩ | ⟨g, cap, cur, rfl, hbg, hg, hnc, hcm, hcs, htake⟩
  · have hl : l = [] := List.eq_nil_of_length_eq_zero hn
    subst hl
    have hI : ∀ W, Calls Try.prog 56 #[.slice none 0 0, .int .i64 0, .int .i64 0, .func (.func 47) #[] #[]] W fun e w' => e = .returned (.tuple #[]) ∧ w' = W := fun W => by
      go_enter Try.func56, Try.ntmps56
      go_wp2_with fail
      refine wp_loop_rounds 1 ?_
      rw [rounds_succ]
      go_wp2_with fail
      go_end0
      exact ⟨rfl, rfl⟩
    have hS : Calls Try.prog 53 #[.slice none 0 0, .int .i64 0, .func (.func 47) #[] #[]] w fun e w' => e = .returned (.tuple #[]) ∧ w' = w := by
      go_enter Try.func53, Try.ntmps53
      go_wp2_with fail
      refine wp_loop_rounds 1 ?_
      rw [rounds_succ]
      go_wp2_with (go_at_call 56; refine (hI _).mono ?_; rintro e w' ⟨rfl, rfl⟩)
      refine wp_loop_rounds 1 ?_
      rw [rounds_succ]
      go_wp2_with fail
      go_end0
      exact ⟨rfl, rfl⟩
    go_enter Try.func46, Try.ntmps46
    go_wp2_with (go_at_call 53; refine hS.mono ?_; rintro e w' ⟨rfl, rfl⟩)
    go_end0
    exact ⟨rfl, [], List.Perm.refl _, List.Pairwise.nil, RdsK.nil 4 _, Below.refl _ _⟩
  · have hgl : g < w.heap.size := (Array.getElem?_eq_some_iff.1 hg).1
    have R := row_lays wb w base g cap l hok hown hgl
    have hsz : (arrE l hok).size = l.length := arrE_size l hok
    have hc := cmp_lays wb w g (arrE l hok).size hbw (by omega)
    have eg : ∀ args w, (callFunc 47 args).run Try.prog w = .ok (.enter 47 args) w := enters_of Try.func47 (by kernel_rfl) rfl
    have hS := stable_any slay (encE (wb := wb)) cfE (cfE_swo wb) 47 #[] eg g 0 cap (arrE l hok) w hc R (by rw [hsz]; exact hlen)
    rw [hsz] at hS
    have fin : ∀ (d' : Array (EnOk wb)) w', PermIn 0 l.length (arrE l hok) d' → SortedIn (ltOf cfE) 0 l.length d' → SWK encE 4 w g 0 d' w' → ∃ l', l'.Perm l ∧ Srt l' ∧ RdsK 4 w' (.slice (some ⟨g, 0, none⟩) l.length cap) l'.length (ev l') ∧ Below base w w' := by
      intro d' w' hp hs S
      have hd : d'.size = l.length := hp.1.trans hsz
      refine ⟨d'.toList.map (fun e => e.1), ?_, ?_, ?_, ?_⟩
      · have h2 := hp.2.2
        rw [Array.extract_eq_self_of_le (by omega), Array.extract_eq_self_of_le (by omega)] at h2
        have h3 := h2.map (fun e : EnOk wb => e.1)
        rw [arrE_val] at h3
        exact h3
      · rw [← hd] at hs
        exact srt_of hs
      · have := rds_of R S (hd.trans hsz.symm) (cap := cap) (by omega) hcm
        rw [hd] at this
        have e : (d'.toList.map (fun e : EnOk wb => e.1)).length = l.length := by simp [hd]
        rw [e]
        exact this
      · obtain ⟨m, os, rfl⟩ := S
        exact below_sortK hbg hbs
    have FIN : Aside _ := fin
    clear fin R hc hown htake hcs hg hsz
    go_enter Try.func46, Try.ntmps46
    go_wp2_with (go_at_call 53; refine hS.mono ?_; rintro e w' ⟨rfl, d', HP, S⟩)
    go_end0
    exact ⟨rfl, FIN.out d' _ HP.out.1 HP.out.2 S⟩
end Go.Proofs.Ytgdeongeonhlpaa
