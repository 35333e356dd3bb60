/- The law's book: a call is noted. -/
import Derived.Test.YtdcoeebpknipdaaNtS
namespace Go.Proofs.Ytdcoeebpknipdaa
open Go.RowKit Go.Maps Go.Sort

/-- Behind a note: the book and the disk, apart from each other; nothing else changed. -/
structure Nt (w w' : World) (b d : Nat) (G F : Nat → Prop) (N : Nat) (s : St) (E : List Fl) : Prop where
  ex : ∃ G' F' : Nat → Prop, Bk w' b G' E ∧ Dk w' d F' N s ∧ (∀ i, G' i → ¬ F' i) ∧ (∀ i, G' i → G i ∨ w.heap.size ≤ i) ∧ (∀ i, F' i → F i ∨ w.heap.size ≤ i)
  fr : Fr (fun i => G i ∨ F i) w w'
theorem At1.lt {E : List Fl} {t : Str} {z : Int} (h : At1 E t z) : z < (E.length : Int) := by
  rcases h with ⟨i, f, h, _, rfl⟩ | ⟨_, rfl⟩
  · have := (List.getElem?_eq_some_iff.1 h).1
    omega
  · omega
theorem At1.ge {E : List Fl} {t : Str} {z : Int} (h : At1 E t z) : -1 ≤ z := by
  rcases h with ⟨i, f, h, _, rfl⟩ | ⟨_, rfl⟩ <;> omega
theorem fr_below {F : Nat → Prop} {w w' : World} (h : Below w.heap.size w w') : Fr F w w' := by
  constructor
  all_goals first | exact h.os | exact h.tape | exact h.output | exact h.size | exact fun i hi _ => h.block i hi
theorem Fr.mono {F G : Nat → Prop} {w w' : World} (h : Fr F w w') (k : ∀ i, F i → G i) : Fr G w w' := ⟨h.os, h.tape, h.output, h.size, fun i hi hn => h.block i hi fun hf => hn (k i hf)⟩
theorem code_dec (cd : Nat) : decide ((cd : Int) = 0) = decide (cd = 0) := by
  by_cases h : cd = 0
  · rw [h]; rfl
  · rw [decide_eq_false h, decide_eq_false (by omega)]
theorem code_beq (cd : Nat) : ((cd : Int) == 0) = decide (cd = 0) := by
  by_cases h : cd = 0
  · rw [h]; rfl
  · rw [decide_eq_false h]
    simpa using h
/-- The disk's operation first, then the book's. -/
theorem Nt.two {w w1 w2 w3 : World} {b d N : Nat} {G G3 F F2 : Nat → Prop} {s : St} {E : List Fl} (b1 : Below w.heap.size w w1) (d2 : Dk w2 d F2 N s) (f2 : Fr F w1 w2) (hF2 : ∀ i, F2 i → F i ∨ w1.heap.size ≤ i) (hap : ∀ i, G i → ¬ F i) (hG : ∀ i, G i → i < w.heap.size) (b3 : Bk w3 b G3 E) (hG3 : ∀ j, G3 j → G j ∨ w2.heap.size ≤ j) (f3 : Fr G w2 w3) : Nt w w3 b d G F N s E := by
  have s1 := b1.size
  have s2 := f2.size
  have hapF2 : ∀ i, F2 i → ¬ G i := fun i h1 h2 => (hF2 i h1).elim (hap i h2) fun h => by have := hG i h2; omega
  refine ⟨⟨G3, F2, b3, d2.other f3 hapF2, fun i h1 h2 => ?_, fun i h => (hG3 i h).imp id fun h => by omega, fun i h => (hF2 i h).imp id fun h => by omega⟩, ?_⟩
  · rcases hG3 i h1 with h | h
    · exact hapF2 i h2 h
    · have := d2.lt i h2; omega
  · have k1 : Fr (fun i => G i ∨ F i) w w1 := fr_below b1
    have k2 : Fr (fun i => G i ∨ F i) w1 w2 := f2.mono fun i h => .inr h
    have k3 : Fr (fun i => G i ∨ F i) w2 w3 := f3.mono fun i h => .inl h
    exact (k1.trans k2 fun _ _ h => h).trans k3 fun _ _ h => h
/-- The book's operation first, then the disk's. -/
theorem Nt.two' {w w1 w2 w3 : World} {b d N : Nat} {G G2 F F3 : Nat → Prop} {s : St} {E : List Fl} (b1 : Below w.heap.size w w1) (b2 : Bk w2 b G2 E) (hG2 : ∀ j, G2 j → G j ∨ w1.heap.size ≤ j) (f2 : Fr G w1 w2) (hap : ∀ i, G i → ¬ F i) (hF : ∀ i, F i → i < w.heap.size) (d3 : Dk w3 d F3 N s) (hF3 : ∀ i, F3 i → F i ∨ w2.heap.size ≤ i) (f3 : Fr F w2 w3) : Nt w w3 b d G F N s E := by
  have s1 := b1.size
  have s2 := f2.size
  have hapG2 : ∀ i, G2 i → ¬ F i := fun i h1 h2 => (hG2 i h1).elim (fun h => hap i h h2) fun h => by have := hF i h2; omega
  refine ⟨⟨G2, F3, b2.other f3 hapG2, d3, fun i h1 h2 => ?_, fun i h => (hG2 i h).imp id fun h => by omega, fun i h => (hF3 i h).imp id fun h => by omega⟩, ?_⟩
  · rcases hF3 i h2 with h | h
    · exact hapG2 i h1 h
    · have := b2.lt i h1; omega
  · have k1 : Fr (fun i => G i ∨ F i) w w1 := fr_below b1
    have k2 : Fr (fun i => G i ∨ F i) w1 w2 := f2.mono fun i h => .inl h
    have k3 : Fr (fun i => G i ∨ F i) w2 w3 := f3.mono fun i h => .inr h
    exact (k1.trans k2 fun _ _ h => h).trans k3 fun _ _ h => h
set_option maxRecDepth 100000 in
set_option maxHeartbeats 3200000 in
theorem note_rem (w : World) (b d N : Nat) (G F : Nat → Prop) (E : List Fl) (s : St) (K M : Int) (A B : Str) (u : Value) (hK1 : -9223372036854775808 ≤ K) (hK2 : K ≤ 9223372036854775807) (hk : absN K % 6 = 4) (hA : A.length ≤ maxLen) (hB : Bk w b G E) (hD : Dk w d F N s) (hap : ∀ i, G i → ¬ F i) (hop : s.ops < 1000000) :
    Calls Try.prog 16 #[.pointer (some ⟨b, 0, none⟩), .pointer (some ⟨d, 0, none⟩), .agg #[.int .i64 K, .string ⟨A.toArray⟩, .string ⟨B.toArray⟩, u, .int .i64 M]] w fun e w' => ∃ z, At1 E (nmK A.length) z ∧ e = .returned (.bool (decide ((s.remove (nmK A.length)).1 = 0) == decide (0 ≤ z))) ∧ Nt w w' b d G F N (s.remove (nmK A.length)).2 (if 0 ≤ z then E.eraseIdx z.toNat else E) := by
  unfold maxLen at hA
  obtain ⟨W, hW⟩ : ∃ W, W = w.alloc (.cells #[.int .i64 K, .string ⟨A.toArray⟩, .string ⟨B.toArray⟩, u, .int .i64 M] 31) := ⟨_, rfl⟩
  have bW : Below w.heap.size w W := by rw [hW]; exact (Below.refl _ _).alloc (Nat.le_refl _) _
  have hx : BxA W w.heap.size 31 #[.int .i64 K, .string ⟨A.toArray⟩, .string ⟨B.toArray⟩, u, .int .i64 M] := by rw [hW]; exact BxA.new _ _ _
  have kN := name_any W A.length (by omega)
  have hsz := str_size A
  obtain ⟨nm, hnm⟩ : ∃ nm, nm = nmK A.length := ⟨_, rfl⟩
  have hnl : nm.length ≤ maxLen := by
    have := (nmK_facts A.length).2
    rw [← hnm] at this
    simp only [nmL, List.mem_cons, List.not_mem_nil, or_false] at this
    unfold maxLen
    rcases this with rfl | rfl | rfl | rfl | rfl <;> simp
  rw [← hnm] at kN
  rw [← hnm]
  have HW : Hid (W = _) := hW
  have HX : Hid (BxA W w.heap.size 31 #[.int .i64 K, .string ⟨A.toArray⟩, .string ⟨B.toArray⟩, u, .int .i64 M]) := hx
  have HK : Hid _ := And.intro hK1 hK2
  have HBW : Hid (Below w.heap.size w W) := bW
  have HB : Hid (Bk w b G E) := hB
  have HD : Hid (Dk w d F N s) := hD
  have HAP : Hid (∀ i, G i → ¬ F i) := hap
  have HNL : Hid _ := hnl
  have hc1 := hx.cell 1 _ rfl
  clear hW hx hnm hnl bW hB hD hap hK1 hK2
  go_enter Try.func16, Try.ntmps16
  go_wp2_with fail
  rw [← HW.out]
  go_wp2_with fail
  refine kN.mono ?_
  rintro e w1 ⟨rfl, b1⟩
  have HB1 : Hid (Below w.heap.size w w1) := HBW.out.trans (b1.mono HBW.out.size)
  have HX1 : Hid (BxA w1 w.heap.size 31 #[.int .i64 K, .string ⟨A.toArray⟩, .string ⟨B.toArray⟩, u, .int .i64 M]) := by
    apply hide
    have := HX.out
    unfold BxA at this ⊢
    rw [b1.block _ HX.out.lt]
    exact this
  have hc0 := HX1.out.cell 0 _ rfl
  have kAt := at_any w1 b G E nm (HB.out.below HB1.out)
  have kAb := abs_any w1 K HK.out.1 HK.out.2
  have hab : (absN K : Int) % 6 = 4 := by omega
  clear kN b1 hc1
  go_wp2_with fail
  refine kAt.mono ?_
  rintro e w1' ⟨z, rfl, hz, rfl⟩
  have HZ : Hid (At1 E nm z) := hz
  have hzb := hz.lt
  have hzg := hz.ge
  have hfew := HB.out.few
  have kR := remove_any w1' d N F s nm (HD.out.below HB1.out) HNL.out hop
  obtain ⟨cd, hcd⟩ : ∃ cd, cd = (s.remove nm).1 := ⟨_, rfl⟩
  rw [← hcd] at kR
  have HCD : Hid (cd = (s.remove nm).1) := hcd
  clear kAt hz hcd
  go_wp2_with fail
  refine kAb.mono ?_
  rintro e w1'' ⟨rfl, rfl⟩
  clear kAb
  go_wp2_with fail
  refine kR.mono ?_
  rintro e w2 ⟨rfl, d2, fr2⟩
  have HD2 : Hid (Dk w2 d F N (s.remove nm).2) := d2
  have HF2 : Hid (Fr F w1'' w2) := fr2
  have HB2 : Hid (Bk w2 b G E) := (HB.out.below HB1.out).other fr2 HAP.out
  clear kR d2 fr2
  have hcz := code_dec cd
  by_cases h0 : 0 ≤ z
  · obtain ⟨i, hi⟩ : ∃ i : Nat, z = (i : Int) := ⟨z.toNat, by omega⟩
    subst hi
    have kO := out_any w2 b G E i (by omega) HB2.out
    go_wp2_with fail
    refine kO.mono ?_
    rintro e w3 ⟨rfl, G3, b3, hG3, fr3⟩
    have HB3 : Hid (Bk w3 b G3 (E.eraseIdx i)) := b3
    have HG3 : Hid (∀ j, G3 j → G j ∨ w2.heap.size ≤ j) := hG3
    have HF3 : Hid (Fr G w2 w3) := fr3
    clear kO b3 hG3 fr3
    go_wp2_with fail
    go_ret
    refine ⟨_, HZ.out, ?_, ?_⟩
    · rw [← HCD.out]
      simp [code_beq]
    · rw [if_pos (by omega)]
      exact Nt.two HB1.out HD2.out HF2.out (fun _ h => .inl h) HAP.out HB.out.lt HB3.out HG3.out HF3.out
  · go_wp2_with fail
    go_ret
    refine ⟨_, HZ.out, ?_, ?_⟩
    · rw [← HCD.out]
      simp [code_beq]
    · rw [if_neg (by omega)]
      exact Nt.two HB1.out HD2.out HF2.out (fun _ h => .inl h) HAP.out HB.out.lt HB2.out (fun _ h => .inl h) (Fr.refl _ _)
end Go.Proofs.Ytdcoeebpknipdaa
