/- The contract of awake. -/
import Derived.Test.YthegdhbmfojdaaaAwM
namespace Go.Proofs.Ythegdhbmfojdaaa
open Go.RowKit Go.Maps Go.Sort
set_option linter.unusedVariables false

/-- A store and its disk, of a law's own. -/
structure LS (w0 w : World) (p d : Nat) (F : Nat → Prop) (N : Nat) (s : St) : Prop where
  dk : Dk w d F N s
  sr : Sr w p d
  np : ¬ F p
  F0 : ∀ i, F i → w0.heap.size ≤ i
  p0 : w0.heap.size ≤ p
  bel : Below w0.heap.size w0 w
theorem LS.below {w0 w w' : World} {p d N : Nat} {F : Nat → Prop} {s : St} (h : LS w0 w p d F N s) (hb : Below w.heap.size w w') : LS w0 w' p d F N s := ⟨h.dk.below hb, h.sr.below hb, h.np, h.F0, h.p0, h.bel.trans (hb.mono h.bel.size)⟩
theorem LS.plt {w0 w : World} {p d N : Nat} {F : Nat → Prop} {s : St} (h : LS w0 w p d F N s) : p < w.heap.size := BxA.lt h.sr
/-- Behind a call. -/
structure Ls (w0 w w' : World) (p d N : Nat) (F : Nat → Prop) (s : St) : Prop where
  ex : ∃ F', LS w0 w' p d F' N s ∧ ∀ i, F' i → F i ∨ w.heap.size ≤ i
  fr : Fr F w w'
theorem LS.mv {w0 w w' : World} {p d N M : Nat} {F : Nat → Prop} {s s' : St} (h : LS w0 w p d F N s) (k : Wd w w' d M F s') : Ls w0 w w' p d M F s' := by
  obtain ⟨⟨F', dk, hF'⟩, fr⟩ := k
  have hs := h.bel.size
  have hp := h.plt
  exact ⟨⟨F', ⟨dk, h.sr.fr fr h.np, fun hf => (hF' p hf).elim h.np fun q => by omega, fun i hi => (hF' i hi).elim (h.F0 i) fun q => by omega, h.p0, h.bel.trans (fr.below hs h.F0)⟩, hF'⟩, fr⟩
theorem put_ls (w0 w : World) (p d N : Nat) (F : Nat → Prop) (s : St) (x l : Str) (v : Value) (h : LS w0 w p d F N s) (hx : x.length ≤ maxLen) (hv : ∀ w', Fr F w w' → Reads w' v l) (hN : N + 1048584 ≤ 140737488355328) (hop : s.ops < 999990) :
    Calls Try.prog 19 #[.pointer (some ⟨p, 0, none⟩), .string ⟨x.toArray⟩, v] w fun e w' => e = .returned (.int .i64 ((bput s x l).1 : Nat)) ∧ Ls w0 w w' p d (N + 1048584) F (bput s x l).2 := by
  refine (putB_any w p d N F s x l v h.dk h.sr h.np hx hv hN hop).mono ?_
  rintro e w' ⟨rfl, k⟩
  exact ⟨rfl, h.mv k⟩
theorem del_ls (w0 w : World) (p d N : Nat) (F : Nat → Prop) (s : St) (x : Str) (h : LS w0 w p d F N s) (hx : x.length ≤ maxLen) (hop : s.ops < 1000000) :
    Calls Try.prog 21 #[.pointer (some ⟨p, 0, none⟩), .string ⟨x.toArray⟩] w fun e w' => e = .returned (.int .i64 ((bdel s x).1 : Nat)) ∧ Ls w0 w w' p d N F (bdel s x).2 := by
  refine (delB_any w p d N F s x h.dk h.sr hx hop).mono ?_
  rintro e w' ⟨rfl, dk, fr⟩
  exact ⟨rfl, h.mv (Wd.same dk fr)⟩
theorem get_ls (w0 w : World) (p d N : Nat) (F : Nat → Prop) (s : St) (x : Str) (h : LS w0 w p d F N s) (hx : x.length ≤ maxLen) (hN : N ≤ 140737488355328) :
    Calls Try.prog 23 #[.pointer (some ⟨p, 0, none⟩), .string ⟨x.toArray⟩] w fun e w' => ∃ v, e = .returned (.tuple #[v, .int .i64 ((bget s x).1 : Nat)]) ∧ Owns w' w.heap.size v (bget s x).2 ∧ Below w.heap.size w w' := getB_any w p d N F s x h.dk h.sr hx hN
/-- New and Open: a store on a new disk. -/
theorem open_ls (w0 w : World) (d : Nat) (hb : Below w0.heap.size w0 w) (hd : Dk w d (fun i => i = d) 0 st0) (h0 : w0.heap.size ≤ d) : Calls Try.prog 12 #[.pointer (some ⟨d, 0, none⟩)] w fun e w' => ∃ p, e = .returned (.tuple #[.pointer (some ⟨p, 0, none⟩), .int .i64 0]) ∧ LS w0 w' p d (fun i => i = d) 0 st0 := by
  have hdl := hd.lt d rfl
  refine (openB_any w d 0 (fun i => i = d) st0 hd (by decide)).mono ?_
  rintro e w' ⟨dk, fr, ok, -⟩
  rw [open_new] at dk ok
  obtain ⟨p, rfl, sr, hp⟩ := ok rfl
  have hs := hb.size
  exact ⟨p, rfl, dk, sr, fun h => by have h' : p = d := h; omega, fun i hi => by have h' : i = d := hi; omega, by omega, hb.trans (fr.below hs fun i hi => by have h' : i = d := hi; omega)⟩
theorem new_fr (w : World) : Calls Try.prog 10 #[] w fun e w' => e = .returned (.pointer (some ⟨w.heap.size, 0, none⟩)) ∧ Dk w' w.heap.size (fun i => i = w.heap.size) 0 st0 ∧ Below w.heap.size w w' := new_any w
theorem put_const (w0 w : World) (p d N : Nat) (F : Nat → Prop) (s : St) (x l : Str) (h : LS w0 w p d F N s) (fr : Nat × Nat) (n : Nat) (hn : n = l.length) (C : Array Value) (hC : C = (bv l).toArray) (hx : x.length ≤ maxLen) (hl : l.length ≤ 100) (hN : N ≤ 100000000) (hop : s.ops < 999990) :
    Calls Try.prog 19 #[.pointer (some ⟨p, 0, none⟩), .string ⟨x.toArray⟩, .slice (some ⟨w.heap.size, 0, none⟩) n n] (w.alloc (.cells C 5 fr)) fun e w' => e = .returned (.int .i64 ((bput s x l).1 : Nat)) ∧ ∃ F', LS w0 w' p d F' (N + 1048584) (bput s x l).2 := by
  have b : Below w.heap.size w (w.alloc (.cells C 5 fr)) := (Below.refl _ _).alloc (Nat.le_refl _) _
  have hr := const_reads w l fr n hn (by unfold maxLen; omega) C hC
  refine (put_ls w0 (w.alloc (.cells C 5 fr)) p d N F s x l _ (h.below b) hx (fun w' hf => hr.fr (fun ad n c e hF => by cases e; have := h.dk.lt _ hF; simp at this) hf) (by omega) hop).mono ?_
  rintro e w' ⟨rfl, ⟨F', h', -⟩, -⟩
  exact ⟨rfl, F', h'⟩
set_option maxRecDepth 100000 in
set_option maxHeartbeats 3200000 in
theorem awake_any (w : World) : Calls Try.prog 9 #[] w fun e w' => e = .returned (.bool true) ∧ Below w.heap.size w w' := by
  have kc := fun (w : World) (C : Array Value) (n c : Nat) => Lib.run_convert_bytes_const (P := Try.prog) w 33 5 C n c Try.underlying33 Try.underlying5
  go_enter Try.func9, Try.ntmps9
  go_wp2_with fail
  refine (new_fr w).mono ?_
  rintro e w1 ⟨rfl, d1, b1⟩
  have kO := open_ls w w1 w.heap.size b1 d1 (Nat.le_refl _)
  obtain ⟨d, hd⟩ : ∃ d, d = w.heap.size := ⟨_, rfl⟩
  rw [← hd] at kO
  rw [← hd]
  clear d1 b1 hd
  go_wp2_with fail
  refine kO.mono ?_
  rintro e w2 ⟨p, rfl, h2⟩
  have H2 : Hid (LS w w2 p d (fun i => i = d) 0 st0) := h2
  clear kO h2
  have kA := put_const w w2 p d 0 _ st0 [120] [97, 98] H2.out (2, 3) 2 rfl #[.int .u8 97, .int .u8 98] rfl (by simp [maxLen]) (by simp) (by simp) (by decide)
  rw [a1] at kA
  go_wp2_with fail
  refine kA.mono ?_
  rintro e w3 ⟨rfl, F3, h3⟩
  have H3 : Hid (LS w w3 p d F3 (0 + 1048584) aS1) := h3
  clear kA h3 H2
  have kB := put_const w w3 p d (0 + 1048584) _ aS1 [120] [97, 98] H3.out (2, 3) 2 rfl #[.int .u8 97, .int .u8 98] rfl (by simp [maxLen]) (by simp) (by simp) (by decide)
  rw [a2] at kB
  go_wp2_with fail
  refine kB.mono ?_
  rintro e w4 ⟨rfl, F4, h4⟩
  have H4 : Hid (LS w w4 p d F4 (0 + 1048584 + 1048584) aS1) := h4
  clear kB h4 H3
  have kC := put_const w w4 p d (0 + 1048584 + 1048584) _ aS1 [120] [99] H4.out (1, 2) 1 rfl #[.int .u8 99] rfl (by simp [maxLen]) (by simp) (by simp) (by decide)
  rw [a3] at kC
  go_wp2_with fail
  refine kC.mono ?_
  rintro e w5 ⟨rfl, F5, h5⟩
  have H5 : Hid (LS w w5 p d F5 (0 + 1048584 + 1048584 + 1048584) aS1) := h5
  have kG := get_ls w w5 p d _ F5 aS1 [120] h5 (by simp [maxLen]) (by simp)
  rw [a4] at kG
  clear kC h5 H4
  go_wp2_with fail
  refine kG.mono ?_
  rintro e w6 ⟨v6, rfl, o6, b6⟩
  have h6 := H5.out.below b6
  have H6 : Hid (LS w w6 p d F5 (0 + 1048584 + 1048584 + 1048584) aS1) := h6
  have HO6 : Hid (Owns w6 w5.heap.size v6 [97, 98]) := o6
  have kH := get_ls w w6 p d _ F5 aS1 [121] h6 (by simp [maxLen]) (by simp)
  rw [a5] at kH
  obtain ⟨va, vc, hv6, -⟩ := o6.reads
  replace hv6 : v6 = .slice va 2 vc := hv6
  subst hv6
  clear kG o6 b6 h6 H5
  go_wp2_with fail
  refine kH.mono ?_
  rintro e w7 ⟨v7, rfl, o7, b7⟩
  have h7 := H6.out.below b7
  have H7 : Hid (LS w w7 p d F5 (0 + 1048584 + 1048584 + 1048584) aS1) := h7
  have hcv := conv_string w7 _ _ (HO6.out.reads.below b7)
  have kL := list_any w7 d _ F5 aS1 [] h7.dk
  rw [a6] at kL
  clear kH o7 b7 h7 H6
  go_wp2_with fail
  refine kL.mono ?_
  rintro e w8 ⟨lv, rfl, o8, -, b8⟩
  have HB8 : Hid (Below w.heap.size w w8) := H7.out.bel.trans (b8.mono H7.out.bel.size)
  have HO8 : Hid (Own w8 w7.heap.size 9 lv (sv [[98, 46, 120]])) := o8
  have b9 : Below w8.heap.size w8 (w8.alloc (.cells #[Value.string ⟨#[98, 46, 120]⟩] 9)) := (Below.refl _ _).alloc (Nat.le_refl _) _
  have hlo : Own (w8.alloc (.cells #[Value.string ⟨#[98, 46, 120]⟩] 9)) w8.heap.size 9 (.slice (some ⟨w8.heap.size, 0, none⟩) 1 1) (sv [[98, 46, 120]]) := lit_own w8 [Value.string ⟨#[98, 46, 120]⟩] 9 (by simp [maxLen])
  have kS := refsame_any (w8.alloc (.cells #[Value.string ⟨#[98, 46, 120]⟩] 9)) lv (.slice (some ⟨w8.heap.size, 0, none⟩) 1 1) [[98, 46, 120]] [[98, 46, 120]] (o8.rds.below b9) hlo.rds
  have HB9 : Hid (Below w.heap.size w (w8.alloc (.cells #[Value.string ⟨#[98, 46, 120]⟩] 9))) := HB8.out.trans (b9.mono HB8.out.size)
  obtain ⟨la, lc, hlv, -⟩ := o8.rds
  replace hlv : lv = .slice la 1 lc := hlv
  subst hlv
  clear kL o8 b8 b9 hlo hcv
  go_wp2_with fail
  refine kS.mono ?_
  rintro e wa ⟨rfl, ba⟩
  have HBa : Hid (Below w.heap.size w wa) := HB9.out.trans (ba.mono HB9.out.size)
  clear kS ba
  go_wp2_with fail
  go_ret
  exact ⟨rfl, HBa.out⟩
end Go.Proofs.Ythegdhbmfojdaaa
