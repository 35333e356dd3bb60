/- The contract of awake. -/
import Derived.Test.YtdcoeebpknipdaaFn12
namespace Go.Proofs.Ytdcoeebpknipdaa
open Go.RowKit Go.Maps

theorem cell_blk {w w' : World} {a : Addr} (h : w'.heap[a.block]? = w.heap[a.block]?) : w'.cell? a = w.cell? a := by
  unfold World.cell?
  rw [h]
/-- Bytes that lie elsewhere stay. -/
theorem Reads.fr {F : Nat → Prop} {w w' : World} {u : Value} {b : Str} (h : Reads w u b) (hF : ∀ ad n c, u = .slice (some ad) n c → ¬ F ad.block) (hf : Fr F w w') : Reads w' u b := by
  obtain ⟨ao, cap, rfl, h1, h2, h3, h4⟩ := h
  refine ⟨ao, cap, rfl, h1, h2, h3, fun ad ha j u hj => ?_⟩
  have hc := h4 ad ha j u hj
  have hb : (ad.add j).block = ad.block := by simp only [Addr.add]; split <;> rfl
  rw [cell_blk (hf.block _ (World.block_lt_of_cell? _ _ hc) (by rw [hb]; exact hF ad _ _ (by rw [ha]))), hc]
/-- A disk of a law's own: nothing of it was there at w0. -/
structure LD (w0 w : World) (d : Nat) (F : Nat → Prop) (N : Nat) (s : St) : Prop where
  dk : Dk w d F N s
  F0 : ∀ i, F i → w0.heap.size ≤ i
  bel : Below w0.heap.size w0 w
theorem Dk.lt {w : World} {d N : Nat} {F : Nat → Prop} {s : St} (h : Dk w d F N s) : ∀ i, F i → i < w.heap.size := by
  obtain ⟨mo, Z, hz⟩ := h
  exact hz.lt
theorem LD.mv {w0 w w' : World} {d N N' : Nat} {F F' : Nat → Prop} {s s' : St} (h : LD w0 w d F N s) (hd : Dk w' d F' N' s') (hF : ∀ i, F' i → F i ∨ w.heap.size ≤ i) (hf : Fr F w w') : LD w0 w' d F' N' s' :=
  ⟨hd, fun i hi => (hF i hi).elim (h.F0 i) fun h1 => Nat.le_trans h.bel.size h1, h.bel.trans (hf.below h.bel.size h.F0)⟩
theorem LD.below {w0 w w' : World} {d N : Nat} {F : Nat → Prop} {s : St} (h : LD w0 w d F N s) (hb : Below w.heap.size w w') : LD w0 w' d F N s := ⟨h.dk.below hb, h.F0, h.bel.trans (hb.mono h.bel.size)⟩
theorem new_ld (w0 w : World) (hb : Below w0.heap.size w0 w) : Calls Try.prog 11 #[] w fun e w' => e = .returned (.pointer (some ⟨w.heap.size, 0, none⟩)) ∧ LD w0 w' w.heap.size (fun i => i = w.heap.size) 0 st0 := by
  refine (new_any w).mono ?_
  rintro e w' ⟨rfl, h1, h2⟩
  exact ⟨rfl, h1, fun i hi => by rw [hi]; exact hb.size, hb.trans (h2.mono hb.size)⟩
theorem append_ld (w0 w : World) (d N : Nat) (F : Nat → Prop) (s : St) (t : Str) (u : Value) (b : Str) (h : LD w0 w d F N s) (ht : t.length ≤ maxLen) (hr : Reads w u b) (hF : ∀ ad n c, u = .slice (some ad) n c → ¬ F ad.block) (hl : N + b.length ≤ 140737488355328) (hop : s.ops < 1000000) :
    Calls Try.prog 23 #[.pointer (some ⟨d, 0, none⟩), .string ⟨t.toArray⟩, u] w fun ev w' => ev = .returned (.int .i64 ((s.append t b).1 : Nat)) ∧ ∃ F', LD w0 w' d F' (N + b.length) (s.append t b).2 ∧ (∀ i, F' i → F i ∨ w.heap.size ≤ i) ∧ Fr F w w' := by
  refine (append_any w d N F s t u b h.dk ht (fun w' hf => hr.fr hF hf) hl hop).mono ?_
  rintro ev w' ⟨rfl, ⟨F', h1, h2⟩, h3⟩
  exact ⟨rfl, F', h.mv h1 h2 h3, h2, h3⟩
def wA1 : St := (st0.append [97] [120, 121]).2
def wA2 : St := (wA1.sync [97]).2
def wA3 : St := (wA2.append [97] [122]).2
def wA4 : St := wA3.cut 0
def wA5 : St := { wA4 with off := false }
theorem wA_facts : (st0.append [97] [120, 121]).1 = 0 ∧ (wA1.sync [97]).1 = 0 ∧ (wA2.append [97] [122]).1 = 0 ∧ rfF wA3 [97] [] = 0 ∧ rdC wA3 [97] = [120, 121, 122] ∧ rfF wA4 [97] [] = 122 ∧ rfF wA5 [97] [] = 0 ∧ rdC wA5 [97] = [120, 121] ∧ wA5.ops = 3 ∧ wA1.ops = 1 ∧ wA2.ops = 2 := by decide +kernel
set_option maxRecDepth 100000 in
set_option maxHeartbeats 1600000 in
theorem awake_any (w : World) : Calls Try.prog 10 #[] w fun e w' => e = .returned (.bool true) ∧ Below w.heap.size w w' := by
  have kc := fun (w : World) (C : Array Value) (n c : Nat) => Lib.run_convert_bytes_const (P := Try.prog) w 29 5 C n c Try.underlying29 Try.underlying5
  obtain ⟨f1, f2, f3, f4, f5, f6, f7, f8, f9, f10, f11⟩ := wA_facts
  have HF : Hid _ := wA_facts
  clear f1 f2 f3 f4 f5 f6 f7 f8 f9 f10 f11
  go_enter Try.func10, Try.ntmps10
  go_wp2_with fail
  refine (new_ld w w (Below.refl _ _)).mono ?_
  rintro e w1 ⟨rfl, h1⟩
  have hlt1 := h1.dk.lt
  have bA : Below w1.heap.size w1 (w1.alloc (.cells #[.int .u8 120, .int .u8 121] 5 (2, 3))) := (Below.refl _ _).alloc (Nat.le_refl _) _
  have kA := append_ld w (w1.alloc (.cells #[.int .u8 120, .int .u8 121] 5 (2, 3))) w.heap.size 0 _ st0 [97] (.slice (some ⟨w1.heap.size, 0, none⟩) 2 2) [120, 121] (h1.below bA) (by simp [maxLen]) (const_reads w1 [120, 121] (2, 3) 2 rfl (by simp [maxLen]) _ rfl) (fun ad n c e hf => by cases e; have := hlt1 _ hf; simp at this) (by simp) (by decide)
  rw [HF.out.1] at kA
  clear h1 hlt1 bA
  go_wp2_with fail
  refine kA.mono ?_
  rintro e w2 ⟨rfl, F2, h2, -, -⟩
  have h2 : LD w w2 w.heap.size F2 2 wA1 := h2
  have kS := sync_any w2 w.heap.size 2 F2 wA1 [97] h2.dk (by simp [maxLen]) (by rw [HF.out.2.2.2.2.2.2.2.2.2.1]; decide)
  rw [HF.out.2.1] at kS
  have H2 : Hid _ := h2
  clear kA h2
  go_wp2_with fail
  refine kS.mono ?_
  rintro e w3 ⟨rfl, d3, fr3⟩
  have h3 : LD w w3 w.heap.size F2 2 wA2 := H2.out.mv d3 (fun _ h => .inl h) fr3
  have hlt3 := h3.dk.lt
  have bB : Below w3.heap.size w3 (w3.alloc (.cells #[.int .u8 122] 5 (1, 2))) := (Below.refl _ _).alloc (Nat.le_refl _) _
  have kB := append_ld w (w3.alloc (.cells #[.int .u8 122] 5 (1, 2))) w.heap.size 2 _ wA2 [97] (.slice (some ⟨w3.heap.size, 0, none⟩) 1 1) [122] (h3.below bB) (by simp [maxLen]) (const_reads w3 [122] (1, 2) 1 rfl (by simp [maxLen]) _ rfl) (fun ad n c e hf => by cases e; have := hlt3 _ hf; simp at this) (by simp) (by rw [HF.out.2.2.2.2.2.2.2.2.2.2]; decide)
  rw [HF.out.2.2.1] at kB
  clear kS d3 fr3 h3 hlt3 bB H2
  go_wp2_with fail
  refine kB.mono ?_
  rintro e w4 ⟨rfl, F4, h4, -, -⟩
  have h4 : LD w w4 w.heap.size F4 3 wA3 := h4
  have kR := read_any w4 w.heap.size 3 F4 wA3 [97] h4.dk (by simp [maxLen]) (by decide)
  rw [HF.out.2.2.2.1, HF.out.2.2.2.2.1] at kR
  have H4 : Hid _ := h4
  clear kB h4
  go_wp2_with fail
  refine kR.mono ?_
  rintro e w5 ⟨v5, rfl, o5, b5⟩
  have h5 := H4.out.below b5
  have kC := cut_any w5 w.heap.size 3 F4 wA3 0 h5.dk
  have HO5 : Hid (Owns w5 w4.heap.size v5 [120, 121, 122]) := o5
  have H5 : Hid _ := h5
  have H45 : Hid (∀ i, F4 i → i < w4.heap.size) := H4.out.dk.lt
  obtain ⟨va, vc, rfl⟩ := o5.shape 3 rfl
  clear kR o5 b5 h5
  go_wp2_with fail
  refine kC.mono ?_
  rintro e w6 ⟨rfl, d6, fr6⟩
  have h6 : LD w w6 w.heap.size F4 3 wA4 := H5.out.mv d6 (fun _ h => .inl h) fr6
  have hr6 := HO5.out.reads.fr (F := F4) (fun ad n c e hf => by
    have h1 := H45.out _ hf
    have h2 := (own_lt HO5.out ad.block (by rw [e]; rfl)).1
    omega) fr6
  have HR6 : Hid (Reads w6 (.slice va 3 vc) [120, 121, 122]) := hr6
  have kR2 := read_any w6 w.heap.size 3 F4 wA4 [97] h6.dk (by simp [maxLen]) (by decide)
  rw [HF.out.2.2.2.2.2.1] at kR2
  have H6 : Hid _ := h6
  clear kC d6 fr6 h6 hr6
  go_wp2_with fail
  refine kR2.mono ?_
  rintro e w7 ⟨v7, rfl, o7, b7⟩
  have h7 := H6.out.below b7
  have HR7 : Hid (Reads w7 (.slice va 3 vc) [120, 121, 122]) := HR6.out.below b7
  have kO := on_any w7 w.heap.size 3 F4 wA4 h7.dk
  have H7 : Hid _ := h7
  obtain ⟨xa, xc, hx7⟩ := owns_sl o7
  clear kR2 o7 b7 h7
  go_wp2_with fail
  refine kO.mono ?_
  rintro e w8 ⟨rfl, d8, fr8⟩
  have h8 : LD w w8 w.heap.size F4 3 wA5 := H7.out.mv d8 (fun _ h => .inl h) fr8
  have HR8 : Hid (Reads w8 (.slice va 3 vc) [120, 121, 122]) := HR7.out.fr (fun ad n c e hf => by
    have h1 := H45.out _ hf
    have h2 := (own_lt HO5.out ad.block (by rw [e]; rfl)).1
    omega) fr8
  have kR3 := read_any w8 w.heap.size 3 F4 wA5 [97] h8.dk (by simp [maxLen]) (by decide)
  rw [HF.out.2.2.2.2.2.2.1, HF.out.2.2.2.2.2.2.2.1] at kR3
  have H8 : Hid _ := h8
  clear kO d8 fr8 h8
  go_wp2_with fail
  refine kR3.mono ?_
  rintro e w9 ⟨v9, rfl, o9, b9⟩
  have h9 := H8.out.below b9
  have kP := ops_any w9 w.heap.size 3 F4 wA5 h9.dk
  rw [HF.out.2.2.2.2.2.2.2.2.1] at kP
  have hc1 := conv_string w9 _ _ (HR8.out.below b9)
  have hc2 := conv_string w9 _ _ o9.reads
  have H9 : Hid _ := h9
  obtain ⟨ya, yc, rfl⟩ := o9.shape 2 rfl
  clear kR3 o9 b9 h9
  go_wp2_with fail
  refine kP.mono ?_
  rintro e w10 ⟨rfl, rfl⟩
  go_wp2_with fail
  go_ret
  exact ⟨rfl, H9.out.bel⟩
end Go.Proofs.Ytdcoeebpknipdaa
