/- Contracts of the library's Sort and Clone; Read and List. -/
import Derived.Test.YthegdhbmfojdaaaFn10
import Derived.Test.YthegdhbmfojdaaaShelf
import Derived.Sort.OwnSorted
import Derived.Lib.OwnBridge
namespace Go.Proofs.Ythegdhbmfojdaaa
open Go.RowKit Go.Maps Go.Shelf Go.Sort

theorem sv_enc (ts : List Str) : sv ts = ts.map encStr := rfl
def srt (ts : List Str) : List Str := ts.mergeSort fun x y => decide (x ≤ y)
theorem srt_length (ts : List Str) : (srt ts).length = ts.length := List.length_mergeSort ts
set_option maxHeartbeats 400000 in
theorem sort_any (w : World) (base : Nat) (v : Value) (ts : List Str) (h : Own w base 9 v (sv ts)) (hv : v = .slice none 0 0 → ts = []) (hb : base ≤ w.heap.size) (hbig : ts.length ≤ 4611686018427387903) :
    Calls Try.prog 50 #[v] w fun e w' => e = .returned (.tuple #[]) ∧ Own w' base 9 v (sv (srt ts)) ∧ Below base w w' := by
  by_cases hn : v = .slice none 0 0
  · subst hn
    obtain rfl := hv rfl
    refine (Try.slices_Sort_string_none none 0 w).mono ?_
    rintro e w' ⟨rfl, rfl⟩
    refine ⟨rfl, ?_, Below.refl _ _⟩
    have e : srt [] = [] := by simp [srt]
    rw [e]
    exact h
  · have h' : w.ownsRow base 9 1 v ts.length (ts.map encStr) := by have := h; unfold Own at this; rwa [sv_length] at this
    obtain ⟨g, cap, rfl, hbg, hgl, hncap, hcm, hlen, hH⟩ := Lib.holds_of_ownsRow h' hn
    refine (Try.slices_Sort_string g 0 cap ts w hH hgl (by omega)).mono ?_
    rintro e w' ⟨rfl, n, os, rfl⟩
    refine ⟨rfl, ?_, (Below.refl base w).grown (grownBy_sorted _) hb (fun j hj => by cases hj; exact hbg)⟩
    rcases h'.2 with ⟨h0, _⟩ | ⟨g', cap', cur, hv', hbase, hb', h1, h2, h3, h4⟩
    · cases h0
    cases hv'
    have hs := ownsRow_sorted (n := n) (os := os) (ts := srt ts) (srt_length ts) hbase hb' h1 h2 h3
    unfold Own
    rw [sv_length, srt_length]
    exact hs

theorem srt_perm {a b : List Str} (h : a.Perm b) : srt a = srt b := by
  have tr : ∀ x y z : Str, decide (x ≤ y) = true → decide (y ≤ z) = true → decide (x ≤ z) = true := fun x y z h1 h2 => by
    simp only [decide_eq_true_eq] at h1 h2 ⊢
    exact List.le_trans h1 h2
  have tot : ∀ x y : Str, (decide (x ≤ y) || decide (y ≤ x)) = true := fun x y => by
    have := List.le_total x y
    simpa using this
  refine List.Perm.eq_of_pairwise (le := fun x y => decide (x ≤ y) = true) (fun x y _ _ h1 h2 => ?_) (List.pairwise_mergeSort tr tot a) (List.pairwise_mergeSort tr tot b) ((List.mergeSort_perm a _).trans (h.trans (List.mergeSort_perm b _).symm))
  simp only [decide_eq_true_eq] at h1 h2
  exact List.le_antisymm h1 h2
set_option maxRecDepth 100000 in
set_option maxHeartbeats 800000 in
theorem clone_any (w : World) (v : Value) (l : Str) (h : Reads w v l) (hl : l.length ≤ 140737488355328) :
    Calls Try.prog 52 #[v] w fun e w' => ∃ v', e = .returned v' ∧ Owns w' w.heap.size v' l ∧ Below w.heap.size w w' := by
  obtain ⟨i0, hi0, hz0, hz1, hz2⟩ := info_parts Try.info5
  have HR : Hid (Reads w v l) := h
  obtain ⟨ao, cap, rfl, h1, h2, h3, h4⟩ := h
  cases ao with
  | none =>
    obtain ⟨h0, rfl⟩ := h3 rfl
    obtain rfl : l = [] := List.eq_nil_of_length_eq_zero h0
    clear h1 h2 h3 h4 HR h0
    have hnl : (binOp .eql 33 (.slice none 0 0) (.slice none 0 0)).run Try.prog w = .ok (.bool true) w := run_eql_nil_slice w 33 5 none 0 0 0 0 Try.underlying33
    go_enter Try.func52, Try.ntmps52
    go_wp2_with fail
    go_ret
    exact ⟨_, rfl, ⟨rfl, .inl ⟨rfl, rfl⟩⟩, Below.refl _ _⟩
  | some ad =>
    clear h1 h2 h3 h4
    have hnl : (binOp .eql 33 (.slice (some ad) l.length cap) (.slice none 0 0)).run Try.prog w = .ok (.bool false) w := by
      have := Lib.run_eql_slice_nil (P := Try.prog) w 33 5 (some ad) l.length cap 0 0 Try.underlying33
      exact this
    have HO : Hid ((w.alloc (.cells #[] 5)).ownsRow w.heap.size 5 1 (.slice (some ⟨w.heap.size, 0, none⟩) 0 0) 0 []) := lit_own w [] 5 (by simp)
    have HK : Hid (RdsK 1 (w.alloc (.cells #[] 5)) (.slice (some ad) l.length cap) l.length (bv l)) := (HR.out.below ((Below.refl _ w).alloc (Nat.le_refl _) _)).k
    go_enter Try.func52, Try.ntmps52
    go_wp2_with (first | (at_builtin; refine wpList_appF rfl _ _ 33 rfl w.heap.size 5 i0 (.int .u8 0) 1 1 Try.underlying33 hi0 hz0 hz1 hz2 rfl (by decide) (.slice (some ⟨w.heap.size, 0, none⟩) 0 0) 0 [] rfl HO.out (.slice (some ad) l.length cap) l.length (bv l) rfl HK.out (bv_one l) (by unfold maxLen; omega) (by omega) (by simp) ?_; intro v1 w1 o1 g1 _; obtain ⟨xa, xc, rfl⟩ := own_sl o1; have H1 : Hid _ := And.intro o1 g1; clear o1 g1))
    go_wp2_with fail
    go_ret
    obtain ⟨o1, g1⟩ := H1.out
    rw [Nat.zero_add, List.nil_append] at o1
    refine ⟨_, rfl, o1, ((Below.refl _ w).alloc (Nat.le_refl _) _).grown g1 (by simp) fun j hj => ?_⟩
    simp only [Value.ownBlock, Option.some.injEq] at hj
    omega
theorem bytF_at {w : World} {d N : Nat} {F : Nat → Prop} {s : St} {mo : Option Nat} {Z : List Ent} (h : DkZ w d F N s mo Z) {x : Ent} (hx : x ∈ Z) : bytF s.fs x.nm = x.bs := by
  have hm : x.fl ∈ gotF s.fs x.nm := List.mem_filter.2 ⟨by rw [← h.fs]; exact List.mem_map.2 ⟨x, hx, rfl⟩, by show (x.nm == x.nm) = true; simp⟩
  have hall : ∀ f ∈ gotF s.fs x.nm, f = x.fl := fun f hf => by
    obtain ⟨h1, h2⟩ := List.mem_filter.1 hf
    exact h.uniq hx h1 (by simpa using h2)
  unfold bytF
  cases hg : gotF s.fs x.nm with
  | nil => rw [hg] at hm; cases hm
  | cons f r =>
    have := hall f (by rw [hg]; simp)
    subst this
    rfl
def rdC (s : St) (t : Str) : Str := if rfF s t [] = 0 then bytF s.fs t else []
set_option maxRecDepth 100000 in
set_option maxHeartbeats 1600000 in
theorem read_any (w : World) (d N : Nat) (F : Nat → Prop) (s : St) (t : Str) (h : Dk w d F N s) (ht : t.length ≤ maxLen) (hN : N ≤ 140737488355328) :
    Calls Try.prog 26 #[.pointer (some ⟨d, 0, none⟩), .string ⟨t.toArray⟩] w fun ev w' => ∃ v, ev = .returned (.tuple #[v, .int .i64 (rfF s t [] : Nat)]) ∧ Owns w' w.heap.size v (rdC s t) ∧ Below w.heap.size w w' := by
  have kR := refusesFile_any w d N w.heap.size F s t (.slice none 0 0) [] h (nil_own w) (Nat.le_refl _) (fun r hr => by cases hr) (by simp) (fun _ h => by cases h) ht
  have HD : Hid (Dk w d F N s) := h
  have HT : Hid _ := ht
  clear h ht
  go_enter Try.func26, Try.ntmps26
  go_wp2_with fail
  refine kR.mono ?_
  rintro ev w1 ⟨rfl, g1⟩
  have b1 : Below w.heap.size w w1 := ⟨g1.os, g1.tape, g1.output, g1.size, fun i hi => g1.block i hi (by simp [Value.ownBlock])⟩
  obtain ⟨mo, Z, hz⟩ := HD.out.below b1
  have HB1 : Hid (Below w.heap.size w w1) := b1
  obtain ⟨c, hc⟩ : ∃ c, c = rfF s t [] := ⟨_, rfl⟩
  have HC : Hid (c = rfF s t []) := hc
  rw [← hc]
  clear kR hc g1 b1
  by_cases h0 : c = 0
  · subst h0
    obtain ⟨x, hx, hxn⟩ := hz.get (t := t) (rfF_zero HC.out.symm).1
    have c0 : w1.cell? ⟨d, 0, none⟩ = some (.map mo) := hz.b.cell 0 _ rfl
    have hl := look_at hz.m hx (by rw [hxn]; exact HT.out)
    rw [hxn] at hl
    have o := hz.e x hx
    obtain ⟨xa, xc, hxv, _, _⟩ := owns_sl o.o
    have cx : w1.cell? ⟨x.g, 0, none⟩ = some (.slice xa x.bs.length xc) := by rw [← hxv]; exact o.b.cell 0 _ rfl
    have kC := clone_any w1 _ x.bs (by have := o.o.reads; rw [hxv] at this; exact this) (Nat.le_trans (hz.n x hx) hN)
    have HE : Hid (rdC s t = x.bs) := by apply hide; unfold rdC; rw [if_pos HC.out.symm, ← hxn, bytF_at hz hx]
    clear hz hx o hxv hxn
    go_wp2_with fail
    refine kC.mono ?_
    rintro ev w2 ⟨v, rfl, o2, b2⟩
    have H2 : Hid _ := And.intro o2 b2
    clear kC o2 b2
    go_wp2_with fail
    go_ret2
    rw [HE.out]
    exact ⟨_, by rw [← HC.out]; rfl, H2.out.1.mono HB1.out.size, HB1.out.trans (H2.out.2.mono HB1.out.size)⟩
  · have hE2 : ((c : Int) == 0) = false := by simpa using h0
    have hE3 : ((c : Int) != 0) = true := by simp [bne, hE2]
    have HE : Hid (rdC s t = []) := by apply hide; unfold rdC; rw [if_neg (by rw [← HC.out]; exact h0)]
    clear hz
    go_wp2_with fail
    go_ret2
    rw [HE.out]
    exact ⟨_, by rw [← HC.out]; rfl, ⟨rfl, .inl ⟨rfl, rfl⟩⟩, HB1.out⟩
end Go.Proofs.Ythegdhbmfojdaaa

namespace Go.Proofs.Ythegdhbmfojdaaa
open Go.RowKit Go.Maps Go.Shelf Go.Sort

/-- The names that begin so. -/
def preN (fs : List Fl) (p : Str) : List Str := (fs.filter fun f => Lib.hasPrefix f.nm p).map Fl.nm
def lstN (s : St) (p : Str) : List Str := if s.off then [] else srt (preN s.fs p)
/-- Those that came already. -/
def donZ (left : Lit → Bool) (p : Str) (Z : List Ent) : List Str := (Z.filter fun e => !(left (.string e.nm)) && Lib.hasPrefix e.nm p).map Ent.nm
theorem donZ_start {left : Lit → Bool} {p : Str} {Z : List Ent} (h : ∀ e ∈ Z, left (.string e.nm) = true) : donZ left p Z = [] := by
  unfold donZ
  rw [List.filter_eq_nil_iff.2 fun e he => by simp [h e he]]
  rfl
theorem donZ_end {left : Lit → Bool} {p : Str} {Z : List Ent} (h : ∀ k, left k = false) : donZ left p Z = preN (Z.map Ent.fl) p := by
  unfold donZ preN
  rw [List.filter_map, List.map_map]
  have : (fun e : Ent => !(left (.string e.nm)) && Lib.hasPrefix e.nm p) = (fun f : Fl => Lib.hasPrefix f.nm p) ∘ Ent.fl := by
    funext e
    simp [h]
    rfl
  rw [this]
  rfl
theorem donZ_step {left : Lit → Bool} {p : Str} {Z : List Ent} {e : Ent} (hZ : Z.Pairwise Apart) (he : e ∈ Z) (hl : left (.string e.nm) = true) :
    (donZ (fun z => left z && !z.sameKey (.string e.nm)) p Z).Perm (if Lib.hasPrefix e.nm p then donZ left p Z ++ [e.nm] else donZ left p Z) := by
  have hs : Lit.sameKey (.string e.nm) (.string e.nm) = true := WideAt.sameKey_self trivial
  have key : ∀ Z : List Ent, Z.Pairwise Apart → (∀ x ∈ Z, x.nm ≠ e.nm) → donZ (fun z => left z && !z.sameKey (.string e.nm)) p Z = donZ left p Z := fun Z _ hn => by
    unfold donZ
    refine congrArg _ (List.filter_congr fun x hx => ?_)
    have h1 : Lit.sameKey (.string x.nm) (.string e.nm) = false := Maps.sameKey_ne fun h => hn x hx (by injection h)
    simp [h1]
  induction Z with
  | nil => cases he
  | cons z Z ih =>
    obtain ⟨p1, p2⟩ := List.pairwise_cons.1 hZ
    rcases List.mem_cons.1 he with rfl | he'
    · have hk := key Z p2 fun x hx => (p1 x hx).1.symm
      unfold donZ at hk ⊢
      by_cases hp : Lib.hasPrefix e.nm p = true
      · rw [if_pos hp, List.filter_cons_of_pos (by simp [hs, hp]), List.filter_cons_of_neg (by simp [hl]), List.map_cons, hk]
        exact (List.perm_append_singleton _ _).symm
      · rw [if_neg hp, List.filter_cons_of_neg (by simp [hp]), List.filter_cons_of_neg (by simp [hl]), hk]
    · have hne : z.nm ≠ e.nm := (p1 e he').1
      have h1 : Lit.sameKey (.string z.nm) (.string e.nm) = false := Maps.sameKey_ne fun h => hne (by injection h)
      have ih := ih p2 he'
      unfold donZ at ih ⊢
      by_cases hq : (!(left (.string z.nm)) && Lib.hasPrefix z.nm p) = true
      · rw [List.filter_cons_of_pos (by simpa [h1] using hq), List.filter_cons_of_pos (p := fun e : Ent => !(left (.string e.nm)) && Lib.hasPrefix e.nm p) (a := z) hq]
        by_cases hp : Lib.hasPrefix e.nm p = true
        · rw [if_pos hp] at ih ⊢
          simp only [List.map_cons, List.cons_append]
          exact ih.cons _
        · rw [if_neg hp] at ih ⊢
          simp only [List.map_cons]
          exact ih.cons _
      · rw [List.filter_cons_of_neg (by simpa [h1] using hq), List.filter_cons_of_neg (p := fun e : Ent => !(left (.string e.nm)) && Lib.hasPrefix e.nm p) (a := z) hq]
        exact ih
theorem donZ_len {left : Lit → Bool} {p : Str} {Z : List Ent} : (donZ left p Z).length ≤ Z.length := by
  unfold donZ
  rw [List.length_map]
  exact List.length_filter_le _ _
set_option maxRecDepth 100000 in
set_option maxHeartbeats 1600000 in
theorem list_any (w : World) (d N : Nat) (F : Nat → Prop) (s : St) (p : Str) (h : Dk w d F N s) :
    Calls Try.prog 25 #[.pointer (some ⟨d, 0, none⟩), .string ⟨p.toArray⟩] w fun ev w' => ∃ v, ev = .returned v ∧ Own w' w.heap.size 9 v (sv (lstN s p)) ∧ (v = .slice none 0 0 → lstN s p = []) ∧ Below w.heap.size w w' := by
  obtain ⟨i0, hi0, hi1, hi2, hi3⟩ := info_parts Try.info_str
  obtain ⟨mo, Z, hz⟩ := h
  have c2 := hz.b.cell 2 _ rfl
  have c0 : w.cell? ⟨d, 0, none⟩ = some (.map mo) := hz.b.cell 0 _ rfl
  obtain ⟨o, ho⟩ : ∃ o, o = s.off := ⟨_, rfl⟩
  rw [show (#[Value.map mo, .int .i64 (s.ops : Int), .bool s.off, .bool s.set, .int .i64 s.op, .int .i64 s.part] : Array Value)[2] = .bool o by rw [ho]; rfl] at c2
  have HO : Hid (o = s.off) := ho
  have HZ : Hid (DkZ w d F N s mo Z) := hz
  clear ho
  cases o
  case true =>
    have HE : Hid (lstN s p = []) := by apply hide; unfold lstN; rw [← HO.out]; rfl
    clear hz
    go_enter Try.func25, Try.ntmps25
    go_wp2_with fail
    go_ret
    rw [HE.out]
    exact ⟨_, rfl, ⟨rfl, .inl ⟨rfl, rfl⟩⟩, fun _ => rfl, Below.refl _ _⟩
  case false =>
    have HE : Hid (lstN s p = srt (preN s.fs p)) := by apply hide; unfold lstN; rw [← HO.out]; rfl
    rcases hz.m with ⟨rfl, rfl⟩ | ⟨m, D, rfl, hown, hmd⟩
    · have hrg := run_range_nilMap (P := Try.prog) w 65 9 90 Try.underlying65
      have hnx : ∀ ty, (Instr.next (.pointer (some ⟨w.heap.size, 0, none⟩)) false ty).run Try.prog (w.alloc (.mapIter none 0 #[] 0)) = _ := fun ty => run_next_nilMap w ty 0 0 #[]
      have kS := Try.slices_Sort_string_none none 0 (w.alloc (.mapIter none 0 #[] 0))
      have HE0 : Hid (lstN s p = []) := by
        apply hide
        rw [HE.out, ← hz.fs]
        simp [preN, srt]
      clear hz
      go_enter Try.func25, Try.ntmps25
      go_wp2_with fail
      refine wp_loop_rounds 1 ?_
      rw [rounds_succ]
      go_wp2_with fail
      refine kS.mono ?_
      rintro ev w1 ⟨rfl, rfl⟩
      go_wp2_with fail
      go_ret
      rw [HE0.out]
      exact ⟨_, rfl, ⟨rfl, .inl ⟨rfl, rfl⟩⟩, fun _ => rfl, (Below.refl _ w).alloc (Nat.le_refl _) _⟩
    · have HM : Hid (w.ownsMap Try.prog 9 pel m Z.length D) := hown
      have HMD : Hid (MD D Z) := hmd
      have hmdl : ∀ e ∈ Z, Maps.has D (.string e.nm) = true := fun e he => by
        rw [hmd.has, List.any_eq_true]
        exact ⟨e, he, by simp⟩
      have HL0 : Hid (donZ (Maps.has D) p Z = []) := donZ_start hmdl
      have HSZ : Hid (Maps.size D = Z.length) := hmd.size
      have hfew := hz.few
      have HNM : Hid (∀ x ∈ Z, x.nm.length ≤ 64) := hz.nm
      clear hz hown hmd hmdl
      go_enter Try.func25, Try.ntmps25
      go_wp2_with (first | (at_range; refine wpList_range_own _ rfl _ 65 rfl 9 90 law Try.underlying65 _ m Z.length D rfl HM.out ?_; intro w0 hrg0 hg0 hs0))
      go_frame
      have HR0 : Hid (w0.ranges Try.prog 9 pel m w.heap.size Z.length D (Maps.has D) (Maps.size D)) := hrg0
      have HG0 : Hid (w.grownBy w0 none) := hg0
      clear hrg0 hg0
      go_loopg [5, 6] Z.length (fun kx v5 _ wr => ∃ (left : Lit → Bool) (cnt : Nat) (acc : List Str) (x5 : Value), x5 = v5 ∧ cnt ≤ kx ∧ Hid (wr.ranges Try.prog 9 pel m w.heap.size Z.length D left cnt) ∧ Hid (wr.ownsRow (w.heap.size + 1) 9 1 x5 acc.length (sv acc)) ∧ Hid (acc.Perm (donZ left p Z)) ∧ Hid (x5 = .slice none 0 0 → acc = []) ∧ Hid (Below w.heap.size w wr) ∧ Hid (w.heap.size < wr.heap.size))
      case atStart => exact ⟨Maps.has D, Maps.size D, [], _, rfl, by rw [HSZ.out]; exact Nat.le_refl _, HR0, ⟨rfl, .inl ⟨rfl, rfl⟩⟩, by apply hide; rw [HL0.out], fun _ => rfl, ⟨HG0.out.os, HG0.out.tape, HG0.out.output, HG0.out.size, fun i hi => HG0.out.block i hi (by simp)⟩, by apply hide; omega⟩
      case round =>
        obtain ⟨left, cnt, acc, x5, rfl, hcnt, HR, HA, HP, HV, HB, HS⟩ := hrel
        have hal : acc.length ≤ 1000 := by
          have h1 := HP.out.length_eq
          have h2 := donZ_len (left := left) (p := p) (Z := Z)
          omega
        go_wp2_with (first | (at_next; refine wpList_next_ranges _ rfl _ rfl 9 law pel (fun t : Str => Value.string ⟨t.toArray⟩) mkP invS invP m w.heap.size Z.length D left cnt rfl HR.out ?_ ?_))
        · intro _ hl0
          have HL : Hid _ := hl0
          have kS := sort_any wr (w.heap.size + 1) x5 acc (by unfold Own; rw [sv_length]; exact HA.out) HV.out HS.out (by omega)
          clear hl0
          go_wp2_with fail
          refine kS.mono ?_
          rintro ev w2 ⟨rfl, o2, b2⟩
          have H2 : Hid _ := And.intro o2 b2
          clear kS o2 b2
          go_wp2_with fail
          go_ret
          have he : lstN s p = srt acc := by
            rw [HE.out, ← HZ.out.fs, ← donZ_end HL.out]
            exact (srt_perm HP.out).symm
          rw [he]
          refine ⟨_, rfl, H2.out.1.mono (Nat.le_succ _), fun q => ?_, HB.out.trans (H2.out.2.mono (Nat.le_succ _))⟩
          rw [HV.out q]
          simp [srt]
        · intro x c kl y1 y2 w1 cnt1 hkey hlk hp hat hrg1 hlt hg1 hs1 hen
          obtain ⟨e, he, hex, hc⟩ := entry_of HMD.out hkey hp hat
          have hkl : kl = .string e.nm := by rw [hex]; exact mkS_key hkey
          have hle : left (.string e.nm) = true := by rw [← hkl]; exact hlk
          have kP : Calls Try.prog 49 #[.string ⟨x.toArray⟩, .string ⟨p.toArray⟩] w1 fun ev w' => ev = .returned (.bool (Lib.hasPrefix x p)) ∧ w' = w1 := by
            have := Try.strings_HasPrefix ⟨x.toArray⟩ ⟨p.toArray⟩ w1
            simpa using this
          have HE1 : Hid (e ∈ Z ∧ e.nm = x ∧ kl = .string e.nm ∧ left (.string e.nm) = true ∧ w1.ranges Try.prog 9 pel m w.heap.size Z.length D (fun z => left z && !z.sameKey kl) cnt1 ∧ wr.grownBy w1 (some w.heap.size) ∧ cnt1 < cnt) := ⟨he, hex, hkl, hle, hrg1, hg1, hlt⟩
          have HA1 : Hid (w1.ownsRow (w.heap.size + 1) 9 1 x5 acc.length (sv acc)) := by
            apply hide
            refine ⟨HA.out.1, ?_⟩
            rcases HA.out.2 with h2 | ⟨g, cap, cur, q1, q2, q3, q4⟩
            · exact .inl h2
            · exact .inr ⟨g, cap, cur, q1, q2, by rw [hg1.block g (Array.getElem?_eq_some_iff.1 q3).1 (fun q => by simp only [Option.some.injEq] at q; omega)]; exact q3, q4⟩
          have hsz1 : w.heap.size + 1 ≤ w1.heap.size := by have := HS.out; omega
          clear he hex hc hkl hle hkey hlk hp hat hrg1 hg1 hlt hs1
          obtain ⟨q, hq⟩ : ∃ q, q = Lib.hasPrefix x p := ⟨_, rfl⟩
          rw [← hq] at kP
          have HQ : Hid (q = Lib.hasPrefix x p) := hq
          clear hq
          go_wp2_with fail
          refine kP.mono ?_
          rintro ev w2 ⟨rfl, rfl⟩
          clear kP
          cases q
          case false =>
            go_wp2_with fail
            obtain ⟨he, hex, hkl, hle, hrg1, hg1, hlt⟩ := HE1.out
            go_roundg cnt1
            case measure => omega
            case rel =>
              have hst := donZ_step (p := p) HZ.out.ap he hle
              rw [hex, ← HQ.out] at hst
              refine ⟨_, cnt1, acc, x5, rfl, Nat.le_refl _, hrg1, HA1, ?_, HV, ?_, ?_⟩
              · apply hide
                rw [hkl, hex]
                exact HP.out.trans hst.symm
              · exact HB.out.trans ⟨hg1.os, hg1.tape, hg1.output, hg1.size, fun i hi => hg1.block i (by have := HS.out; omega) (fun q => by simp only [Option.some.injEq] at q; omega)⟩
              · apply hide; omega
          case true =>
            have HLO : Hid (RdsK 1 (w2.alloc (.cells #[Value.string ⟨x.toArray⟩] 9)) (.slice (some ⟨w2.heap.size, 0, none⟩) 1 1) 1 [Value.string ⟨x.toArray⟩]) := RdsK.of_own (lit_own w2 [Value.string ⟨x.toArray⟩] 9 (by simp [maxLen]))
            have HAO : Hid ((w2.alloc (.cells #[Value.string ⟨x.toArray⟩] 9)).ownsRow (w.heap.size + 1) 9 1 x5 acc.length (sv acc)) := World.ownsRow.alloc HA1.out _
            go_wp2_with (first | (at_builtin; refine wpList_appF rfl _ _ 42 rfl (w.heap.size + 1) 9 i0 (.string ⟨#[]⟩) 1 16 Try.underlying42 hi0 hi1 hi2 hi3 rfl (by decide) x5 acc.length (sv acc) rfl HAO.out (.slice (some ⟨w2.heap.size, 0, none⟩) 1 1) 1 [Value.string ⟨x.toArray⟩] rfl HLO.out (fun u hu => by simp at hu; subst hu; rfl) (by unfold maxLen; omega) (by omega) (Nat.le_trans hsz1 (by simp)) ?_; intro v3 w3 o3 g3 _; have H3 : Hid (w3.ownsRow (w.heap.size + 1) 9 1 v3 (acc.length + 1) (sv acc ++ [Value.string ⟨x.toArray⟩]) ∧ (w2.alloc (.cells #[Value.string ⟨x.toArray⟩] 9)).grownBy w3 x5.ownBlock) := ⟨o3, g3⟩; clear o3 g3))
            go_wp2_with fail
            obtain ⟨he, hex, hkl, hle, hrg1, hg1, hlt⟩ := HE1.out
            obtain ⟨o3, g3⟩ := H3.out
            have gA : w2.grownBy w3 x5.ownBlock := grown_trans (grown_alloc _ _ _) g3
            have hxb : ∀ r, x5.ownBlock = some r → w.heap.size + 1 ≤ r := fun r hr => (own_lt HA1.out r hr).1
            go_roundg cnt1
            case measure => omega
            case rel =>
              have hst := donZ_step (p := p) HZ.out.ap he hle
              rw [hex, ← HQ.out] at hst
              refine ⟨_, cnt1, acc ++ [x], v3, rfl, Nat.le_refl _, hrg1.kept gA ?_ ?_, ?_, ?_, ?_, ?_, ?_⟩
              · intro q
                have h1 := hxb m q.symm
                have h2 := HZ.out.lt m (HZ.out.fm m rfl)
                omega
              · intro q
                have h1 := hxb _ q.symm
                omega
              · apply hide
                rw [sv_append, List.length_append]
                exact o3
              · apply hide
                rw [hkl, hex]
                refine (HP.out.append_right [x]).trans ?_
                rw [if_pos rfl] at hst
                exact hst.symm
              · intro q
                exfalso
                rw [q] at o3
                rcases o3.2 with ⟨_, h2⟩ | ⟨g, cap, cur, h2, _⟩
                · omega
                · cases h2
              · refine (HB.out.trans ⟨hg1.os, hg1.tape, hg1.output, hg1.size, fun i hi => hg1.block i (by have := HS.out; omega) (fun q => by simp only [Option.some.injEq] at q; omega)⟩).trans ⟨gA.os, gA.tape, gA.output, gA.size, fun i hi => gA.block i (by omega) fun q => ?_⟩
                have h1 := hxb i q.symm
                omega
              · apply hide
                have := gA.size
                omega
end Go.Proofs.Ythegdhbmfojdaaa
