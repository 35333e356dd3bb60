/- Contracts: the disk is cut; operations are counted. -/
import Derived.Test.YtdcoeebpknipdaaFn5
namespace Go.Proofs.Ytdcoeebpknipdaa
open Go.RowKit Go.Maps

def mkS (t : Str) : Value := .string ⟨t.toArray⟩
def mkP : Option Nat → Value
  | none => .pointer none
  | some g => .pointer (some ⟨g, 0, none⟩)
theorem invS (key : Value) (kl : Lit) (h : keyOf Try.prog 9 key = some kl) : ∃ x, key = mkS x := by
  rw [Go.keyOf_string Try.underlying9] at h
  cases key <;> simp [mapKey, Try.underlying9] at h
  rename_i s
  exact ⟨s.data.toList, by unfold mkS; rw [Array.toArray_toList]⟩
theorem mkS_key {t : Str} {kl : Lit} (h : keyOf Try.prog 9 (mkS t) = some kl) : kl = .string t := by
  rw [Go.keyOf_string Try.underlying9] at h
  simp [mapKey, Try.underlying9, mkS] at h
  exact h.2.symm
theorem invP (v : Value) (y : DataW Unit × List MemPlace) (h : pel v = some y) : ∃ c, v = mkP c := by
  rcases pel_inv h with rfl | ⟨g, rfl, _⟩
  · exact ⟨none, rfl⟩
  · exact ⟨some g, rfl⟩
theorem entry_of {D : DataW Unit} {Z : List Ent} {t : Str} {kl : Lit} {c : Option Nat} {y : DataW Unit × List MemPlace} (hd : MD D Z) (hk : keyOf Try.prog 9 (mkS t) = some kl) (hp : pel (mkP c) = some y) (hat : ∀ z, D.atKey kl z = y.1) : ∃ e ∈ Z, e.nm = t ∧ c = some e.g := by
  have hk' := mkS_key hk
  subst hk'
  have hh : Maps.has D (.string t) = true := Maps.has_true_of_atKey hat
  rw [hd.has t, List.any_eq_true] at hh
  obtain ⟨e, he, h1⟩ := hh
  have h2 : e.nm = t := by simpa using h1
  refine ⟨e, he, h2, ?_⟩
  have h3 := hd.at' e he .nil
  rw [h2, hat] at h3
  obtain ⟨y1, y2⟩ := y
  simp only at h3
  subst h3
  have := pel_at hp
  cases c with
  | none => cases this
  | some g =>
    simp only [mkP, Value.pointer.injEq, Option.some.injEq, Addr.mk.injEq] at this
    rw [this.1]
/-- Those that don't come any more are cut. -/
def cutZ (part : Int) (left : Lit → Bool) (Z : List Ent) : List Ent := Z.map fun e => if left (.string e.nm) then e else cutE part e
theorem cutZ_start {part : Int} {left : Lit → Bool} {Z : List Ent} (h : ∀ e ∈ Z, left (.string e.nm) = true) : cutZ part left Z = Z := by
  unfold cutZ
  rw [List.map_congr_left (g := id) fun e he => by rw [if_pos (h e he)]; rfl]
  simp
theorem cutZ_end {part : Int} {left : Lit → Bool} {Z : List Ent} (h : ∀ k, left k = false) : cutZ part left Z = Z.map (cutE part) := List.map_congr_left fun e _ => by rw [if_neg (by rw [h]; decide)]
theorem cutZ_step {part : Int} {left : Lit → Bool} {Z : List Ent} {e : Ent} (hZ : Z.Pairwise Apart) (he : e ∈ Z) (hl : left (.string e.nm) = true) : put1 (cutZ part left Z) e (cutE part e) = cutZ part (fun z => left z && !z.sameKey (.string e.nm)) Z := by
  unfold put1 cutZ
  rw [List.map_map]
  refine List.map_congr_left fun x hx => ?_
  simp only [Function.comp]
  by_cases hn : x.nm = e.nm
  · have hxe : x = e := (apart_mem hZ hx he).resolve_right fun h => h.1 hn
    subst hxe
    have hs : Lit.sameKey (.string x.nm) (.string x.nm) = true := WideAt.sameKey_self trivial
    simp [hl, hs]
  · have hs : Lit.sameKey (.string x.nm) (.string e.nm) = false := Maps.sameKey_ne fun h => hn (by injection h)
    by_cases hlx : left (.string x.nm) = true
    · simp [hlx, hs, hn]
    · have : ¬ (cutE part x).nm = e.nm := hn
      simp [hlx, this]
theorem mem_cutZ {part : Int} {left : Lit → Bool} {Z : List Ent} {e : Ent} (he : e ∈ Z) (hl : left (.string e.nm) = true) : e ∈ cutZ part left Z := List.mem_map.2 ⟨e, he, by rw [if_pos hl]⟩
theorem cutZ_md {D : DataW Unit} {part : Int} {left : Lit → Bool} {Z : List Ent} (h : MD D Z) : MD D (cutZ part left Z) := by
  refine ⟨fun x hx z => ?_, fun s => ?_, by rw [h.size]; simp [cutZ]⟩
  · obtain ⟨e, he, rfl⟩ := List.mem_map.1 hx
    by_cases hl : left (.string e.nm) = true
    · rw [if_pos hl]; exact h.at' e he z
    · rw [if_neg hl]; exact h.at' e he z
  · rw [h.has s]
    unfold cutZ
    rw [List.any_map]
    congr 1
    funext x
    simp only [Function.comp]
    by_cases hl : left (.string x.nm) = true
    · rw [if_pos hl]
    · rw [if_neg hl]; rfl
theorem DkZ.st {w : World} {d N : Nat} {F : Nat → Prop} {s : St} {mo : Option Nat} {Z : List Ent} (h : DkZ w d F N s mo Z) (s' : St) (h1 : s'.ops = s.ops) (h2 : s'.off = s.off) (h3 : s'.set = s.set) (h4 : s'.op = s.op) (h5 : s'.part = s.part) (hf : Z.map Ent.fl = s'.fs) : DkZ w d F N s' mo Z :=
  ⟨by rw [h1, h2, h3, h4, h5]; exact h.b, h.f, h.m, h.fm, h.e, h.ap, hf, h.n, h.nm, h.few, by rw [h1]; exact h.ops, h.lt⟩
set_option maxRecDepth 100000 in
set_option maxHeartbeats 1600000 in
theorem cut_any (w : World) (d N : Nat) (F : Nat → Prop) (s : St) (part : Int) (h : Dk w d F N s) :
    Calls Try.prog 17 #[.pointer (some ⟨d, 0, none⟩), .int .i64 part] w fun e w' => e = .returned (.tuple #[]) ∧ Dk w' d F N (s.cut part) ∧ Fr F w w' := by
  obtain ⟨mo, Z, hz⟩ := h
  have c2 := hz.b.cell 2 _ rfl
  have c0 := hz.b.cell 0 _ rfl
  obtain ⟨o, ho⟩ : ∃ o, o = s.off := ⟨_, rfl⟩
  rw [show (#[Value.map mo, .int .i64 (s.ops : Int), .bool s.off, .bool s.set, .int .i64 s.op, .int .i64 s.part] : Array Value)[2] = .bool o by rw [ho]; rfl] at c2
  have HO : Hid (o = s.off) := ho
  have HZ : Hid (DkZ w d F N s mo Z) := hz
  clear ho
  cases o
  case true =>
    clear hz
    go_enter Try.func17, Try.ntmps17
    go_wp2_with fail
    refine bodyPost_ret (results_none rfl _ _ _) rfl ?_
    refine ⟨rfl, ?_, Fr.refl _ _⟩
    unfold St.cut
    rw [← HO.out]
    exact ⟨mo, Z, HZ.out⟩
  case false =>
    have HC : Hid (s.cut part = { s with fs := s.fs.map (cutF part), off := true }) := by apply hide; unfold St.cut; rw [← HO.out]; rfl
    rcases hz.m with ⟨rfl, rfl⟩ | ⟨m, D, rfl, hown, hmd⟩
    · have hrg := run_range_nilMap (P := Try.prog) w 62 9 70 Try.underlying62
      have hnx : ∀ ty, (Instr.next (.pointer (some ⟨w.heap.size, 0, none⟩)) false ty).run Try.prog (w.alloc (.mapIter none 0 #[] 0)) = _ := fun ty => run_next_nilMap w ty 0 0 #[]
      have hb1 : BxA (w.alloc (.mapIter none 0 #[] 0)) d 66 #[.map none, .int .i64 (s.ops : Int), .bool s.off, .bool s.set, .int .i64 s.op, .int .i64 s.part] := by
        have := hz.b
        unfold BxA at this ⊢
        rw [Below.heap_alloc _ _ _ (hz.b.lt)]
        exact this
      have c2' := hb1.cell 2 _ rfl
      have f2' := hb1.free 2
      have HB1 : Hid _ := hb1
      clear hz hb1
      go_enter Try.func17, Try.ntmps17
      go_wp2_with fail
      refine wp_loop_rounds 1 ?_
      rw [rounds_succ]
      go_wp2_with fail
      go_end0
      have hz := HZ.out
      have hz1 := hz.below ((Below.refl _ w).alloc (Nat.le_refl _) (.mapIter none 0 #[] 0))
      refine ⟨rfl, ?_, ?_⟩
      · rw [HC.out]
        refine ⟨none, [], hz1.box _ (hz1.b.set 2 _) (fun i hi => Below.heap_setCell _ _ _ _ hi) (by simp) ?_ hz.ops⟩
        show s.fs.map (cutF part) = s.fs
        rw [← hz.fs]
        rfl
      · exact (Fr.of_below ((Below.refl _ w).alloc (Nat.le_refl _) _)).trans (setd_fr hz1) fun _ _ h => h
    · have HM : Hid _ := hown
      have HMD : Hid (MD D Z) := hmd
      have hmdl : ∀ e ∈ Z, Maps.has D (.string e.nm) = true := fun e he => by
        rw [hmd.has, List.any_eq_true]
        exact ⟨e, he, by simp⟩
      have hd0 : ∀ w0, w.grownBy w0 none → DkZ w0 d F N { s with fs := (cutZ part (Maps.has D) Z).map Ent.fl } (some m) (cutZ part (Maps.has D) Z) := fun w0 g => by
        rw [cutZ_start hmdl]
        exact (hz.frame g.size fun i hi => g.block i (hz.lt i hi) (by simp)).st _ rfl rfl rfl rfl rfl rfl
      have HD0 : Aside _ := hd0
      have HSZ : Hid (Maps.size D = Z.length) := hmd.size
      have HLT : Hid (∀ i, F i → i < w.heap.size) := hz.lt
      clear hz hown hmd hmdl hd0
      go_enter Try.func17, Try.ntmps17
      go_wp2_with (first | (at_range; refine wpList_range_own _ rfl _ 62 rfl 9 70 law Try.underlying62 _ m Z.length D rfl HM.out ?_; intro w0 hrg0 hg0 hs0))
      go_frame
      have HR0 : Hid _ := hrg0
      have HG0 : Hid _ := hg0
      clear hrg0 hg0
      go_loopg [5] Z.length (fun kx _ wr => ∃ (left : Lit → Bool) (cnt : Nat), cnt ≤ kx ∧ Hid (wr.ranges Try.prog 9 pel m w.heap.size Z.length D left cnt) ∧ Hid (DkZ wr d F N { s with fs := (cutZ part left Z).map Ent.fl } (some m) (cutZ part left Z)) ∧ Hid (Fr F w wr))
      case atStart => exact ⟨Maps.has D, Maps.size D, by rw [HSZ.out]; exact Nat.le_refl _, HR0, HD0.out _ HG0.out, Fr.of_grown HG0.out (fun _ h => by cases h)⟩
      case round =>
        obtain ⟨left, cnt, hcnt, HR, HD, HF⟩ := hrel
        have c2w := HD.out.b.cell 2 _ rfl
        have f2w := HD.out.b.free 2
        go_wp2_with (first | (at_next; refine wpList_next_ranges _ rfl _ rfl 9 law pel mkS mkP invS invP m w.heap.size Z.length D left cnt rfl HR.out ?_ ?_))
        · intro _ hl0
          have HL0 : Hid _ := hl0
          clear hl0
          go_wp2_with fail
          go_end0
          have hd := HD.out
          refine ⟨rfl, ?_, HF.out.trans (setd_fr hd) fun _ _ h => h⟩
          rw [HC.out]
          have hb := hd.box { s with fs := (cutZ part left Z).map Ent.fl, off := true } (hd.b.set 2 _) (fun i hi => Below.heap_setCell _ _ _ _ hi) (by simp) rfl hd.ops
          refine ⟨some m, cutZ part left Z, hb.st _ rfl rfl rfl rfl rfl ?_⟩
          show _ = s.fs.map (cutF part)
          rw [cutZ_end HL0.out, ← HZ.out.fs, List.map_map, List.map_map]
          rfl
        · intro x c kl y1 y2 w1 cnt1 hkey hlk hp hat hrg1 hlt hg1 hs1 hen
          obtain ⟨e, he, hex, hc⟩ := entry_of HMD.out hkey hp hat
          have hkl : kl = .string e.nm := by rw [hex]; exact mkS_key hkey
          have hle : left (.string e.nm) = true := by rw [← hkl]; exact hlk
          have hd1 := HD.out.frame hg1.size fun i hi => hg1.block i (HD.out.lt i hi) fun q => by
            have := HLT.out i hi
            simp only [Option.some.injEq] at q
            omega
          have kk := fcut_dk w1 d N F _ (some m) (cutZ part left Z) e part hd1 (mem_cutZ he hle)
          rw [show Value.pointer (some ⟨e.g, 0, none⟩) = mkP c by rw [hc]; rfl] at kk
          have HE : Hid _ := And.intro he (And.intro hkl (And.intro hle (And.intro hrg1 (And.intro hg1 (And.intro hd1 hlt)))))
          clear he hex hc hkl hle hd1 hkey hlk hp hat hrg1 hg1 hlt c2w f2w
          go_wp2_with fail
          refine kk.mono ?_
          rintro ev w2 ⟨rfl, hd2, hg2⟩
          have H2 : Hid _ := And.intro hd2 hg2
          clear hd2 hg2 kk
          go_wp2_with fail
          obtain ⟨he, hkl, hle, hrg1, hg1, hd1, hlt⟩ := HE.out
          go_roundg cnt1
          case measure => omega
          case rel =>
            obtain ⟨hd2, hg2⟩ := H2.out
            rw [cutZ_step HZ.out.ap he hle, ← hkl] at hd2
            refine ⟨_, cnt1, Nat.le_refl _, hrg1.kept hg2 ?_ ?_, hd2.st _ rfl rfl rfl rfl rfl rfl, ?_⟩
            · exact fun q => HZ.out.knd.mg e he (by simpa using q)
            · exact fun q => by
                have := HLT.out _ (HZ.out.e e he).f
                simp only [Option.some.injEq] at q
                omega
            · refine (HF.out.trans (Fr.of_grown (F := fun i => F i ∨ i = w.heap.size) hg1 fun j hj => .inl (.inr (by simpa using hj.symm))) ?_).trans (Fr.of_grown (F := F) hg2 fun j hj => .inl (by cases hj; exact (HZ.out.e e he).f)) fun _ _ h => h
              intro i hi h
              rcases h with h | h
              · exact h
              · omega
end Go.Proofs.Ytdcoeebpknipdaa
