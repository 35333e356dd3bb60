/- Contracts of the library's Sort and Clone; Read and List. -/
import Derived.Test.YtdcoeebpknipdaaFn10
import Derived.Test.YtdcoeebpknipdaaShelf
import Derived.Sort.OwnSorted
import Derived.Lib.OwnBridge
namespace Go.Proofs.Ytdcoeebpknipdaa
open Go.RowKit Go.Maps Go.Shelf Go.Sort

theorem sv_enc (ts : List Str) : sv ts = ts.map encStr := rfl
def srt (ts : List Str) : List Str := ts.mergeSort fun x y => decide (x ≤ y)
theorem srt_length (ts : List Str) : (srt ts).length = ts.length := List.length_mergeSort ts
set_option maxHeartbeats 400000 in
theorem sort_any (w : World) (base : Nat) (v : Value) (ts : List Str) (h : Own w base 9 v (sv ts)) (hv : v = .slice none 0 0 → ts = []) (hb : base ≤ w.heap.size) (hbig : ts.length ≤ 4611686018427387903) :
    Calls Try.prog 43 #[v] w fun e w' => e = .returned (.tuple #[]) ∧ Own w' base 9 v (sv (srt ts)) ∧ Below base w w' := by
  by_cases hn : v = .slice none 0 0
  · subst hn
    obtain rfl := hv rfl
    refine (Try.slices_Sort_string_none none 0 w).mono ?_
    rintro e w' ⟨rfl, rfl⟩
    refine ⟨rfl, ?_, Below.refl _ _⟩
    have e : srt [] = [] := by simp [srt]
    rw [e]
    exact h
  · have h' : w.ownsRow base 9 1 v ts.length (ts.map encStr) := by have := h; unfold Own at this; rwa [sv_length] at this
    obtain ⟨g, cap, rfl, hbg, hgl, hncap, hcm, hlen, hH⟩ := Lib.holds_of_ownsRow h' hn
    refine (Try.slices_Sort_string g 0 cap ts w hH hgl (by omega)).mono ?_
    rintro e w' ⟨rfl, n, os, rfl⟩
    refine ⟨rfl, ?_, (Below.refl base w).grown (grownBy_sorted _) hb (fun j hj => by cases hj; exact hbg)⟩
    rcases h'.2 with ⟨h0, _⟩ | ⟨g', cap', cur, hv', hbase, hb', h1, h2, h3, h4⟩
    · cases h0
    cases hv'
    have hs := ownsRow_sorted (n := n) (os := os) (ts := srt ts) (srt_length ts) hbase hb' h1 h2 h3
    unfold Own
    rw [sv_length, srt_length]
    exact hs

theorem srt_perm {a b : List Str} (h : a.Perm b) : srt a = srt b := by
  have tr : ∀ x y z : Str, decide (x ≤ y) = true → decide (y ≤ z) = true → decide (x ≤ z) = true := fun x y z h1 h2 => by
    simp only [decide_eq_true_eq] at h1 h2 ⊢
    exact List.le_trans h1 h2
  have tot : ∀ x y : Str, (decide (x ≤ y) || decide (y ≤ x)) = true := fun x y => by
    have := List.le_total x y
    simpa using this
  refine List.Perm.eq_of_pairwise (le := fun x y => decide (x ≤ y) = true) (fun x y _ _ h1 h2 => ?_) (List.pairwise_mergeSort tr tot a) (List.pairwise_mergeSort tr tot b) ((List.mergeSort_perm a _).trans (h.trans (List.mergeSort_perm b _).symm))
  simp only [decide_eq_true_eq] at h1 h2
  exact List.le_antisymm h1 h2
set_option maxRecDepth 100000 in
set_option maxHeartbeats 800000 in
theorem clone_any (w : World) (v : Value) (l : Str) (h : Reads w v l) (hl : l.length ≤ 140737488355328) :
    Calls Try.prog 45 #[v] w fun e w' => ∃ v', e = .returned v' ∧ Owns w' w.heap.size v' l ∧ Below w.heap.size w w' := by
  obtain ⟨i0, hi0, hz0, hz1, hz2⟩ := info_parts Try.info5
  have HR : Hid (Reads w v l) := h
  obtain ⟨ao, cap, rfl, h1, h2, h3, h4⟩ := h
  cases ao with
  | none =>
    obtain ⟨h0, rfl⟩ := h3 rfl
    obtain rfl : l = [] := List.eq_nil_of_length_eq_zero h0
    clear h1 h2 h3 h4 HR h0
    have hnl : (binOp .eql 29 (.slice none 0 0) (.slice none 0 0)).run Try.prog w = .ok (.bool true) w := run_eql_nil_slice w 29 5 none 0 0 0 0 Try.underlying29
    go_enter Try.func45, Try.ntmps45
    go_wp2_with fail
    go_ret
    exact ⟨_, rfl, ⟨rfl, .inl ⟨rfl, rfl⟩⟩, Below.refl _ _⟩
  | some ad =>
    clear h1 h2 h3 h4
    have hnl : (binOp .eql 29 (.slice (some ad) l.length cap) (.slice none 0 0)).run Try.prog w = .ok (.bool false) w := by
      have := Lib.run_eql_slice_nil (P := Try.prog) w 29 5 (some ad) l.length cap 0 0 Try.underlying29
      exact this
    have HO : Hid ((w.alloc (.cells #[] 5)).ownsRow w.heap.size 5 1 (.slice (some ⟨w.heap.size, 0, none⟩) 0 0) 0 []) := lit_own w [] 5 (by simp)
    have HK : Hid (RdsK 1 (w.alloc (.cells #[] 5)) (.slice (some ad) l.length cap) l.length (bv l)) := (HR.out.below ((Below.refl _ w).alloc (Nat.le_refl _) _)).k
    go_enter Try.func45, Try.ntmps45
    go_wp2_with (first | (at_builtin; refine wpList_appF rfl _ _ 29 rfl w.heap.size 5 i0 (.int .u8 0) 1 1 Try.underlying29 hi0 hz0 hz1 hz2 rfl (by decide) (.slice (some ⟨w.heap.size, 0, none⟩) 0 0) 0 [] rfl HO.out (.slice (some ad) l.length cap) l.length (bv l) rfl HK.out (bv_one l) (by unfold maxLen; omega) (by omega) (by simp) ?_; intro v1 w1 o1 g1 _; obtain ⟨xa, xc, rfl⟩ := own_sl o1; have H1 : Hid _ := And.intro o1 g1; clear o1 g1))
    go_wp2_with fail
    go_ret
    obtain ⟨o1, g1⟩ := H1.out
    rw [Nat.zero_add, List.nil_append] at o1
    refine ⟨_, rfl, o1, ((Below.refl _ w).alloc (Nat.le_refl _) _).grown g1 (by simp) fun j hj => ?_⟩
    simp only [Value.ownBlock, Option.some.injEq] at hj
    omega
theorem bytF_at {w : World} {d N : Nat} {F : Nat → Prop} {s : St} {mo : Option Nat} {Z : List Ent} (h : DkZ w d F N s mo Z) {x : Ent} (hx : x ∈ Z) : bytF s.fs x.nm = x.bs := by
  have hm : x.fl ∈ gotF s.fs x.nm := List.mem_filter.2 ⟨by rw [← h.fs]; exact List.mem_map.2 ⟨x, hx, rfl⟩, by show (x.nm == x.nm) = true; simp⟩
  have hall : ∀ f ∈ gotF s.fs x.nm, f = x.fl := fun f hf => by
    obtain ⟨h1, h2⟩ := List.mem_filter.1 hf
    exact h.uniq hx h1 (by simpa using h2)
  unfold bytF
  cases hg : gotF s.fs x.nm with
  | nil => rw [hg] at hm; cases hm
  | cons f r =>
    have := hall f (by rw [hg]; simp)
    subst this
    rfl
def rdC (s : St) (t : Str) : Str := if rfF s t [] = 0 then bytF s.fs t else []
set_option maxRecDepth 100000 in
set_option maxHeartbeats 1600000 in
theorem read_any (w : World) (d N : Nat) (F : Nat → Prop) (s : St) (t : Str) (h : Dk w d F N s) (ht : t.length ≤ maxLen) (hN : N ≤ 140737488355328) :
    Calls Try.prog 20 #[.pointer (some ⟨d, 0, none⟩), .string ⟨t.toArray⟩] w fun ev w' => ∃ v, ev = .returned (.tuple #[v, .int .i64 (rfF s t [] : Nat)]) ∧ Owns w' w.heap.size v (rdC s t) ∧ Below w.heap.size w w' := by
  have kR := refusesFile_any w d N w.heap.size F s t (.slice none 0 0) [] h (nil_own w) (Nat.le_refl _) (fun r hr => by cases hr) (by simp) (fun _ h => by cases h) ht
  have HD : Hid (Dk w d F N s) := h
  have HT : Hid _ := ht
  clear h ht
  go_enter Try.func20, Try.ntmps20
  go_wp2_with fail
  refine kR.mono ?_
  rintro ev w1 ⟨rfl, g1⟩
  have b1 : Below w.heap.size w w1 := ⟨g1.os, g1.tape, g1.output, g1.size, fun i hi => g1.block i hi (by simp [Value.ownBlock])⟩
  obtain ⟨mo, Z, hz⟩ := HD.out.below b1
  have HB1 : Hid (Below w.heap.size w w1) := b1
  obtain ⟨c, hc⟩ : ∃ c, c = rfF s t [] := ⟨_, rfl⟩
  have HC : Hid (c = rfF s t []) := hc
  rw [← hc]
  clear kR hc g1 b1
  by_cases h0 : c = 0
  · subst h0
    obtain ⟨x, hx, hxn⟩ := hz.get (t := t) (rfF_zero HC.out.symm).1
    have c0 : w1.cell? ⟨d, 0, none⟩ = some (.map mo) := hz.b.cell 0 _ rfl
    have hl := look_at hz.m hx (by rw [hxn]; exact HT.out)
    rw [hxn] at hl
    have o := hz.e x hx
    obtain ⟨xa, xc, hxv, _, _⟩ := owns_sl o.o
    have cx : w1.cell? ⟨x.g, 0, none⟩ = some (.slice xa x.bs.length xc) := by rw [← hxv]; exact o.b.cell 0 _ rfl
    have kC := clone_any w1 _ x.bs (by have := o.o.reads; rw [hxv] at this; exact this) (Nat.le_trans (hz.n x hx) hN)
    have HE : Hid (rdC s t = x.bs) := by apply hide; unfold rdC; rw [if_pos HC.out.symm, ← hxn, bytF_at hz hx]
    clear hz hx o hxv hxn
    go_wp2_with fail
    refine kC.mono ?_
    rintro ev w2 ⟨v, rfl, o2, b2⟩
    have H2 : Hid _ := And.intro o2 b2
    clear kC o2 b2
    go_wp2_with fail
    go_ret2
    rw [HE.out]
    exact ⟨_, by rw [← HC.out]; rfl, H2.out.1.mono HB1.out.size, HB1.out.trans (H2.out.2.mono HB1.out.size)⟩
  · have hE2 : ((c : Int) == 0) = false := by simpa using h0
    have hE3 : ((c : Int) != 0) = true := by simp [bne, hE2]
    have HE : Hid (rdC s t = []) := by apply hide; unfold rdC; rw [if_neg (by rw [← HC.out]; exact h0)]
    clear hz
    go_wp2_with fail
    go_ret2
    rw [HE.out]
    exact ⟨_, by rw [← HC.out]; rfl, ⟨rfl, .inl ⟨rfl, rfl⟩⟩, HB1.out⟩
end Go.Proofs.Ytdcoeebpknipdaa
