/- The reference's Get: its states. -/
import Derived.Test.YtpdlioidiobbbaaRk7
namespace Go.Proofs.Ytpdlioidiobbbaa
open Go.RowKit Go.Sort

/-- It hangs on blocks from n on, up to some end. -/
def WinE (n : Nat) (w : World) (φ : World → Prop) : Prop := ∃ z, z ≤ w.heap.size ∧ Wne n z w φ
theorem WinE.sk {K mb n o : Nat} {cs : List Value} {w w' : World} {φ : World → Prop} (h : WinE n w φ) (st : SK K mb w w' o cs) (hR : K < n) (hm : mb < n) : WinE n w' φ := by
  obtain ⟨z, h1, h2⟩ := h
  exact ⟨z, Nat.le_trans h1 st.size, h2.up fun i i1 i2 => st.block i (by omega) (by omega) (by omega)⟩
theorem WinE.win {n : Nat} {w : World} {φ : World → Prop} (h : WinE n w φ) : Win n w φ := by
  obtain ⟨z, h1, h2⟩ := h
  exact h2.win h1
theorem Win.cells' {a n mb o : Nat} {cs : List Value} {w1 : World} {φ : World → Prop} (h : Win n w1 φ) (ha : a ≤ n) (hm : mb < a) : WinE a (w1.setCells mb o cs) φ := by
  have gs := grown_cells mb cs o w1
  refine ⟨w1.heap.size, gs.size, ?_⟩
  have h1 : Wne a w1.heap.size w1 φ := h.mono ha
  exact h1.up fun i i1 i2 => gs.block i i2 (fun e => by simp only [Option.some.injEq] at e; omega)
theorem kbool' (B K : Nat) (v : Value) (l : Bs) (w : World) (p e : Nat) (h : RP B K v l w p e) :
    Calls Try.prog 66 #[.pointer (some ⟨K, 0, none⟩)] w fun er w' => ∃ b : Bool, er = .returned (.bool b) ∧ GK B K v l w w' (p, e) (skB l) (eb b) :=
  (kbool B K v l w p e h).mono fun _ _ hh => by obtain ⟨b, h1, h2⟩ := hh; exact ⟨b, h1, h2⟩
/-- A field of the message's box grows, while others stay. -/
structure LL (K mb : Nat) (w0 w : World) (o : Nat) (sl : Value) : Prop where
  os : w.os = w0.os
  tape : w.tape = w0.tape
  output : w.output = w0.output
  size : w0.heap.size ≤ w.heap.size
  block : ∀ i, i < w0.heap.size → i ≠ K → i ≠ mb → w.heap[i]? = w0.heap[i]?
  th : w.there mb 0 41
  rg : w.rangeAt mb o [sl]
  ap : ∀ o' cs', w0.rangeAt mb o' cs' → (o' + cs'.length ≤ o ∨ o + 1 ≤ o') → w.rangeAt mb o' cs'
theorem LL.sk {K mb : Nat} {w0 w : World} {o : Nat} {sl : Value} (h : LL K mb w0 w o sl) : SK K mb w0 w o [sl] := ⟨h.size, h.block, h.rg, fun o' cs' h1 h2 => h.ap o' cs' h1 h2⟩
theorem LL.start {K mb : Nat} {w0 w : World} {o : Nat} {sl : Value} (g : w0.grownBy w (some K)) (hm : mb < w0.heap.size) (hK : K < mb) (ht : w0.there mb 0 41) (hr : w0.rangeAt mb o [sl]) : LL K mb w0 w o sl := by
  have hb : w.heap[mb]? = w0.heap[mb]? := g.block mb hm (fun e => by simp only [Option.some.injEq] at e; omega)
  exact ⟨g.os, g.tape, g.output, g.size, fun i h1 h2 _ => g.block i h1 (fun e => by simp only [Option.some.injEq] at e; omega), there_block hb ht, range_block hb hr, fun o' cs' h1 _ => range_block hb h1⟩
theorem LL.step {K mb : Nat} {w0 w w3 : World} {o : Nat} {sl : Value} (h : LL K mb w0 w o sl) (sl' : Value) (hos : w3.os = w.os) (hta : w3.tape = w.tape) (hou : w3.output = w.output) (hsz : w.heap.size ≤ w3.heap.size) (hbl : ∀ i, i < w0.heap.size → i ≠ K → w3.heap[i]? = w.heap[i]?) (hm : mb < w0.heap.size) (hK : K < mb) (ho : o + 1 ≤ 41) : LL K mb w0 (w3.setCells mb o [sl']) o sl' := by
  have hb : w3.heap[mb]? = w.heap[mb]? := hbl mb hm (by omega)
  have gs := grown_cells mb [sl'] o w3
  have ht := there_block hb h.th
  refine ⟨gs.os.trans (hos.trans h.os), gs.tape.trans (hta.trans h.tape), gs.output.trans (hou.trans h.output), Nat.le_trans h.size (Nat.le_trans hsz gs.size), fun i h1 h2 h3 => ?_, World.there_setCells ht mb o [sl'], World.rangeAt_setCells_same w3 mb o [sl'] (there_sub ht o _ ho), fun o' cs' h1 h2 => World.rangeAt_setCells_apart (range_block hb (h.ap o' cs' h1 h2)) mb o [sl'] (.inr h2)⟩
  rw [gs.block i (Nat.lt_of_lt_of_le h1 (Nat.le_trans h.size hsz)) (fun e => by simp only [Option.some.injEq] at e; omega), hbl i h1 h2]
  exact h.block i h1 h2 h3
theorem AK.stepL {B K : Nat} {v : Value} {l : Bs} {mb : Nat} {w0 w w' : World} {f g : Sg2 → Sg2} {b b2 : Bs} {o : Nat} {sl : Value} (h : AK B K v l mb w0 w f b) (hf : Fwd l f) (hg : Fwd l g) (L : LL K mb w w' o sl) (hp : RP B K v l w' (g (f (0, 0))).1 (g (f (0, 0))).2) (hb : (f (0, 0)).2 = 0 → (g (f (0, 0))).2 = 0 → b2 = rd l (f (0, 0)).1 (g (f (0, 0))).1) : AK B K v l mb w0 w' (fun s => g (f s)) (b ++ b2) := by
  refine ⟨hp, L.os.trans h.os, L.tape.trans h.tape, L.output.trans h.output, Nat.le_trans h.size L.size, fun i h1 h2 h3 => (L.block i (Nat.lt_of_lt_of_le h1 h.size) h2 h3).trans (h.block i h1 h2 h3), L.th, fun h2 => ?_⟩
  have h1 : (f (0, 0)).2 = 0 := Classical.byContradiction fun hn => hn (by
    have e := hg.stay (f (0, 0)) hn
    have h3 : (g (f (0, 0))).2 = 0 := h2
    rw [e] at h3
    exact h3)
  have hl0 := hf.le (0, 0) (Nat.zero_le _)
  have e2 := hb h1 h2
  show b ++ b2 = rd l 0 (g (f (0, 0))).1
  rw [h.b h1, e2]
  exact (rd_app l hl0.1 (hg.le _ hl0.2).1).symm
theorem Win.e {a n : Nat} {w : World} {φ : World → Prop} (h : Win n w φ) (ha : a ≤ n) : WinE a w φ := ⟨w.heap.size, Nat.le_refl _, h.mono ha⟩
def D0 (_ : Bs) (s : Sg2) : Sg2 := s
theorem fwd_D0 (l : Bs) : Fwd l (D0 l) := fwd_id l
def D1 (l : Bs) (s : Sg2) : Sg2 := skU l (D0 l s)
theorem fwd_D1 (l : Bs) : Fwd l (D1 l) := by
  have h := (fwd_D0 l).comp (fwd_u l)
  exact h
def D2 (l : Bs) (s : Sg2) : Sg2 := skU l (D1 l s)
theorem fwd_D2 (l : Bs) : Fwd l (D2 l) := by
  have h := (fwd_D1 l).comp (fwd_u l)
  exact h
def D3 (l : Bs) (s : Sg2) : Sg2 := skU l (D2 l s)
theorem fwd_D3 (l : Bs) : Fwd l (D3 l) := by
  have h := (fwd_D2 l).comp (fwd_u l)
  exact h
def D4 (l : Bs) (s : Sg2) : Sg2 := skU l (D3 l s)
theorem fwd_D4 (l : Bs) : Fwd l (D4 l) := by
  have h := (fwd_D3 l).comp (fwd_u l)
  exact h
def D5 (l : Bs) (s : Sg2) : Sg2 := skU l (D4 l s)
theorem fwd_D5 (l : Bs) : Fwd l (D5 l) := by
  have h := (fwd_D4 l).comp (fwd_u l)
  exact h
def D6 (l : Bs) (s : Sg2) : Sg2 := skU l (D5 l s)
theorem fwd_D6 (l : Bs) : Fwd l (D6 l) := by
  have h := (fwd_D5 l).comp (fwd_u l)
  exact h
def D7 (l : Bs) (s : Sg2) : Sg2 := skU l (D6 l s)
theorem fwd_D7 (l : Bs) : Fwd l (D7 l) := by
  have h := (fwd_D6 l).comp (fwd_u l)
  exact h
def D8 (l : Bs) (s : Sg2) : Sg2 := skU l (D7 l s)
theorem fwd_D8 (l : Bs) : Fwd l (D8 l) := by
  have h := (fwd_D7 l).comp (fwd_u l)
  exact h
def D9 (l : Bs) (s : Sg2) : Sg2 := skU l (D8 l s)
theorem fwd_D9 (l : Bs) : Fwd l (D9 l) := by
  have h := (fwd_D8 l).comp (fwd_u l)
  exact h
def D10 (l : Bs) (s : Sg2) : Sg2 := skU l (D9 l s)
theorem fwd_D10 (l : Bs) : Fwd l (D10 l) := by
  have h := (fwd_D9 l).comp (fwd_u l)
  exact h
def D11 (l : Bs) (s : Sg2) : Sg2 := skTxt l (D10 l s)
theorem fwd_D11 (l : Bs) : Fwd l (D11 l) := by
  have h := (fwd_D10 l).comp (fwd_txt l)
  exact h
def D12 (l : Bs) (s : Sg2) : Sg2 := skL l (skU l) (D11 l s)
theorem fwd_D12 (l : Bs) : Fwd l (D12 l) := by
  have h := (fwd_D11 l).comp (fwd_l (fwd_u l))
  exact h
def D13 (l : Bs) (s : Sg2) : Sg2 := skQuery l (D12 l s)
theorem fwd_D13 (l : Bs) : Fwd l (D13 l) := by
  have h := (fwd_D12 l).comp (fwd_query l)
  exact h
def D14 (l : Bs) (s : Sg2) : Sg2 := skSeg l (D13 l s)
theorem fwd_D14 (l : Bs) : Fwd l (D14 l) := by
  have h := (fwd_D13 l).comp (fwd_seg l)
  exact h
def D15 (l : Bs) (s : Sg2) : Sg2 := skSpan l (D14 l s)
theorem fwd_D15 (l : Bs) : Fwd l (D15 l) := by
  have h := (fwd_D14 l).comp (fwd_span l)
  exact h
def D16 (l : Bs) (s : Sg2) : Sg2 := skB l (D15 l s)
theorem fwd_D16 (l : Bs) : Fwd l (D16 l) := by
  have h := (fwd_D15 l).comp (fwd_b l)
  exact h
def D17 (l : Bs) (s : Sg2) : Sg2 := skSeg l (D16 l s)
theorem fwd_D17 (l : Bs) : Fwd l (D17 l) := by
  have h := (fwd_D16 l).comp (fwd_seg l)
  exact h
def D18 (l : Bs) (s : Sg2) : Sg2 := skU l (D17 l s)
theorem fwd_D18 (l : Bs) : Fwd l (D18 l) := by
  have h := (fwd_D17 l).comp (fwd_u l)
  exact h
def D19 (l : Bs) (s : Sg2) : Sg2 := skL l (skSeg l) (D18 l s)
theorem fwd_D19 (l : Bs) : Fwd l (D19 l) := by
  have h := (fwd_D18 l).comp (fwd_l (fwd_seg l))
  exact h
def D20 (l : Bs) (s : Sg2) : Sg2 := skL l (skGrp l) (D19 l s)
theorem D_msg (l : Bs) : D20 l (0, 0) = skMsg l (0, 0) := by
  simp only [D20, D19, D18, D17, D16, D15, D14, D13, D12, D11, D10, D9, D8, D7, D6, D5, D4, D3, D2, D1, D0, skMsg, skHead, skFact]
/-- Behind 0 parts. -/
def KG0 (B K : Nat) (v : Value) (l : Bs) (mb : Nat) (V w' : World) : Prop := (w'.rangeAt mb 11 [.slice none 0 0]) ∧ (w'.rangeAt mb 39 [.slice none 0 0]) ∧ AK B K v l mb V w' (D0 l) ([])
/-- Behind 1 parts. -/
def KG1 (B K : Nat) (v : Value) (l : Bs) (mb : Nat) (V w' : World) : Prop := ∃ (KI : Int), (w'.rangeAt mb 0 [.int .i64 KI] ∧ (In64 KI)) ∧ (w'.rangeAt mb 11 [.slice none 0 0]) ∧ (w'.rangeAt mb 39 [.slice none 0 0]) ∧ AK B K v l mb V w' (D1 l) (ei KI)
/-- Behind 2 parts. -/
def KG2 (B K : Nat) (v : Value) (l : Bs) (mb : Nat) (V w' : World) : Prop := ∃ (KI : Int) (FR : Int), (w'.rangeAt mb 0 [.int .i64 KI] ∧ (In64 KI)) ∧ (w'.rangeAt mb 1 [.int .i64 FR] ∧ (In64 FR)) ∧ (w'.rangeAt mb 11 [.slice none 0 0]) ∧ (w'.rangeAt mb 39 [.slice none 0 0]) ∧ AK B K v l mb V w' (D2 l) ((ei KI) ++ ei FR)
/-- Behind 3 parts. -/
def KG3 (B K : Nat) (v : Value) (l : Bs) (mb : Nat) (V w' : World) : Prop := ∃ (KI : Int) (FR : Int) (TO : Int), (w'.rangeAt mb 0 [.int .i64 KI] ∧ (In64 KI)) ∧ (w'.rangeAt mb 1 [.int .i64 FR] ∧ (In64 FR)) ∧ (w'.rangeAt mb 2 [.int .i64 TO] ∧ (In64 TO)) ∧ (w'.rangeAt mb 11 [.slice none 0 0]) ∧ (w'.rangeAt mb 39 [.slice none 0 0]) ∧ AK B K v l mb V w' (D3 l) (((ei KI) ++ ei FR) ++ ei TO)
/-- Behind 4 parts. -/
def KG4 (B K : Nat) (v : Value) (l : Bs) (mb : Nat) (V w' : World) : Prop := ∃ (KI : Int) (FR : Int) (TO : Int) (ID : Nat), (w'.rangeAt mb 0 [.int .i64 KI] ∧ (In64 KI)) ∧ (w'.rangeAt mb 1 [.int .i64 FR] ∧ (In64 FR)) ∧ (w'.rangeAt mb 2 [.int .i64 TO] ∧ (In64 TO)) ∧ (w'.rangeAt mb 3 [.int .u64 (ID : Int)] ∧ (InU ID)) ∧ (w'.rangeAt mb 11 [.slice none 0 0]) ∧ (w'.rangeAt mb 39 [.slice none 0 0]) ∧ AK B K v l mb V w' (D4 l) ((((ei KI) ++ ei FR) ++ ei TO) ++ Num.uv ID)
/-- Behind 5 parts. -/
def KG5 (B K : Nat) (v : Value) (l : Bs) (mb : Nat) (V w' : World) : Prop := ∃ (KI : Int) (FR : Int) (TO : Int) (ID : Nat) (AS : Nat), (w'.rangeAt mb 0 [.int .i64 KI] ∧ (In64 KI)) ∧ (w'.rangeAt mb 1 [.int .i64 FR] ∧ (In64 FR)) ∧ (w'.rangeAt mb 2 [.int .i64 TO] ∧ (In64 TO)) ∧ (w'.rangeAt mb 3 [.int .u64 (ID : Int)] ∧ (InU ID)) ∧ (w'.rangeAt mb 4 [.int .u64 (AS : Int)] ∧ (InU AS)) ∧ (w'.rangeAt mb 11 [.slice none 0 0]) ∧ (w'.rangeAt mb 39 [.slice none 0 0]) ∧ AK B K v l mb V w' (D5 l) (((((ei KI) ++ ei FR) ++ ei TO) ++ Num.uv ID) ++ Num.uv AS)
/-- Behind 6 parts. -/
def KG6 (B K : Nat) (v : Value) (l : Bs) (mb : Nat) (V w' : World) : Prop := ∃ (KI : Int) (FR : Int) (TO : Int) (ID : Nat) (AS : Nat) (OF : Nat), (w'.rangeAt mb 0 [.int .i64 KI] ∧ (In64 KI)) ∧ (w'.rangeAt mb 1 [.int .i64 FR] ∧ (In64 FR)) ∧ (w'.rangeAt mb 2 [.int .i64 TO] ∧ (In64 TO)) ∧ (w'.rangeAt mb 3 [.int .u64 (ID : Int)] ∧ (InU ID)) ∧ (w'.rangeAt mb 4 [.int .u64 (AS : Int)] ∧ (InU AS)) ∧ (w'.rangeAt mb 5 [.int .u64 (OF : Int)] ∧ (InU OF)) ∧ (w'.rangeAt mb 11 [.slice none 0 0]) ∧ (w'.rangeAt mb 39 [.slice none 0 0]) ∧ AK B K v l mb V w' (D6 l) ((((((ei KI) ++ ei FR) ++ ei TO) ++ Num.uv ID) ++ Num.uv AS) ++ Num.uv OF)
/-- Behind 7 parts. -/
def KG7 (B K : Nat) (v : Value) (l : Bs) (mb : Nat) (V w' : World) : Prop := ∃ (KI : Int) (FR : Int) (TO : Int) (ID : Nat) (AS : Nat) (OF : Nat) (TE : Int), (w'.rangeAt mb 0 [.int .i64 KI] ∧ (In64 KI)) ∧ (w'.rangeAt mb 1 [.int .i64 FR] ∧ (In64 FR)) ∧ (w'.rangeAt mb 2 [.int .i64 TO] ∧ (In64 TO)) ∧ (w'.rangeAt mb 3 [.int .u64 (ID : Int)] ∧ (InU ID)) ∧ (w'.rangeAt mb 4 [.int .u64 (AS : Int)] ∧ (InU AS)) ∧ (w'.rangeAt mb 5 [.int .u64 (OF : Int)] ∧ (InU OF)) ∧ (w'.rangeAt mb 6 [.int .i64 TE] ∧ (In64 TE)) ∧ (w'.rangeAt mb 11 [.slice none 0 0]) ∧ (w'.rangeAt mb 39 [.slice none 0 0]) ∧ AK B K v l mb V w' (D7 l) (((((((ei KI) ++ ei FR) ++ ei TO) ++ Num.uv ID) ++ Num.uv AS) ++ Num.uv OF) ++ ei TE)
/-- Behind 8 parts. -/
def KG8 (B K : Nat) (v : Value) (l : Bs) (mb : Nat) (V w' : World) : Prop := ∃ (KI : Int) (FR : Int) (TO : Int) (ID : Nat) (AS : Nat) (OF : Nat) (TE : Int) (CN : Nat), (w'.rangeAt mb 0 [.int .i64 KI] ∧ (In64 KI)) ∧ (w'.rangeAt mb 1 [.int .i64 FR] ∧ (In64 FR)) ∧ (w'.rangeAt mb 2 [.int .i64 TO] ∧ (In64 TO)) ∧ (w'.rangeAt mb 3 [.int .u64 (ID : Int)] ∧ (InU ID)) ∧ (w'.rangeAt mb 4 [.int .u64 (AS : Int)] ∧ (InU AS)) ∧ (w'.rangeAt mb 5 [.int .u64 (OF : Int)] ∧ (InU OF)) ∧ (w'.rangeAt mb 6 [.int .i64 TE] ∧ (In64 TE)) ∧ (w'.rangeAt mb 7 [.int .u64 (CN : Int)] ∧ (InU CN)) ∧ (w'.rangeAt mb 11 [.slice none 0 0]) ∧ (w'.rangeAt mb 39 [.slice none 0 0]) ∧ AK B K v l mb V w' (D8 l) ((((((((ei KI) ++ ei FR) ++ ei TO) ++ Num.uv ID) ++ Num.uv AS) ++ Num.uv OF) ++ ei TE) ++ Num.uv CN)
/-- Behind 9 parts. -/
def KG9 (B K : Nat) (v : Value) (l : Bs) (mb : Nat) (V w' : World) : Prop := ∃ (KI : Int) (FR : Int) (TO : Int) (ID : Nat) (AS : Nat) (OF : Nat) (TE : Int) (CN : Nat) (CO : Int), (w'.rangeAt mb 0 [.int .i64 KI] ∧ (In64 KI)) ∧ (w'.rangeAt mb 1 [.int .i64 FR] ∧ (In64 FR)) ∧ (w'.rangeAt mb 2 [.int .i64 TO] ∧ (In64 TO)) ∧ (w'.rangeAt mb 3 [.int .u64 (ID : Int)] ∧ (InU ID)) ∧ (w'.rangeAt mb 4 [.int .u64 (AS : Int)] ∧ (InU AS)) ∧ (w'.rangeAt mb 5 [.int .u64 (OF : Int)] ∧ (InU OF)) ∧ (w'.rangeAt mb 6 [.int .i64 TE] ∧ (In64 TE)) ∧ (w'.rangeAt mb 7 [.int .u64 (CN : Int)] ∧ (InU CN)) ∧ (w'.rangeAt mb 8 [.int .i64 CO] ∧ (In64 CO)) ∧ (w'.rangeAt mb 11 [.slice none 0 0]) ∧ (w'.rangeAt mb 39 [.slice none 0 0]) ∧ AK B K v l mb V w' (D9 l) (((((((((ei KI) ++ ei FR) ++ ei TO) ++ Num.uv ID) ++ Num.uv AS) ++ Num.uv OF) ++ ei TE) ++ Num.uv CN) ++ ei CO)
/-- Behind 10 parts. -/
def KG10 (B K : Nat) (v : Value) (l : Bs) (mb : Nat) (V w' : World) : Prop := ∃ (KI : Int) (FR : Int) (TO : Int) (ID : Nat) (AS : Nat) (OF : Nat) (TE : Int) (CN : Nat) (CO : Int) (FT : Int), (w'.rangeAt mb 0 [.int .i64 KI] ∧ (In64 KI)) ∧ (w'.rangeAt mb 1 [.int .i64 FR] ∧ (In64 FR)) ∧ (w'.rangeAt mb 2 [.int .i64 TO] ∧ (In64 TO)) ∧ (w'.rangeAt mb 3 [.int .u64 (ID : Int)] ∧ (InU ID)) ∧ (w'.rangeAt mb 4 [.int .u64 (AS : Int)] ∧ (InU AS)) ∧ (w'.rangeAt mb 5 [.int .u64 (OF : Int)] ∧ (InU OF)) ∧ (w'.rangeAt mb 6 [.int .i64 TE] ∧ (In64 TE)) ∧ (w'.rangeAt mb 7 [.int .u64 (CN : Int)] ∧ (InU CN)) ∧ (w'.rangeAt mb 8 [.int .i64 CO] ∧ (In64 CO)) ∧ (w'.rangeAt mb 9 [.int .i64 FT] ∧ (In64 FT)) ∧ (w'.rangeAt mb 11 [.slice none 0 0]) ∧ (w'.rangeAt mb 39 [.slice none 0 0]) ∧ AK B K v l mb V w' (D10 l) ((((((((((ei KI) ++ ei FR) ++ ei TO) ++ Num.uv ID) ++ Num.uv AS) ++ Num.uv OF) ++ ei TE) ++ Num.uv CN) ++ ei CO) ++ ei FT)
/-- Behind 11 parts. -/
def KG11 (B K : Nat) (v : Value) (l : Bs) (mb : Nat) (V w' : World) : Prop := ∃ (KI : Int) (FR : Int) (TO : Int) (ID : Nat) (AS : Nat) (OF : Nat) (TE : Int) (CN : Nat) (CO : Int) (FT : Int) (fa : Option Addr) (fn fc : Nat) (ts : List Fi.Str), (w'.rangeAt mb 0 [.int .i64 KI] ∧ (In64 KI)) ∧ (w'.rangeAt mb 1 [.int .i64 FR] ∧ (In64 FR)) ∧ (w'.rangeAt mb 2 [.int .i64 TO] ∧ (In64 TO)) ∧ (w'.rangeAt mb 3 [.int .u64 (ID : Int)] ∧ (InU ID)) ∧ (w'.rangeAt mb 4 [.int .u64 (AS : Int)] ∧ (InU AS)) ∧ (w'.rangeAt mb 5 [.int .u64 (OF : Int)] ∧ (InU OF)) ∧ (w'.rangeAt mb 6 [.int .i64 TE] ∧ (In64 TE)) ∧ (w'.rangeAt mb 7 [.int .u64 (CN : Int)] ∧ (InU CN)) ∧ (w'.rangeAt mb 8 [.int .i64 CO] ∧ (In64 CO)) ∧ (w'.rangeAt mb 9 [.int .i64 FT] ∧ (In64 FT)) ∧ (w'.rangeAt mb 10 [.slice fa fn fc] ∧ (∀ t ∈ ts, t.length ≤ 1048576) ∧ WinE V.heap.size w' (fun w => Lst 1 cl_str w (.slice fa fn fc) ts)) ∧ (w'.rangeAt mb 11 [.slice none 0 0]) ∧ (w'.rangeAt mb 39 [.slice none 0 0]) ∧ AK B K v l mb V w' (D11 l) (((((((((((ei KI) ++ ei FR) ++ ei TO) ++ Num.uv ID) ++ Num.uv AS) ++ Num.uv OF) ++ ei TE) ++ Num.uv CN) ++ ei CO) ++ ei FT) ++ r_txt ts)
/-- Behind 12 parts. -/
def KG12 (B K : Nat) (v : Value) (l : Bs) (mb : Nat) (V w' : World) : Prop := ∃ (KI : Int) (FR : Int) (TO : Int) (ID : Nat) (AS : Nat) (OF : Nat) (TE : Int) (CN : Nat) (CO : Int) (FT : Int) (fa : Option Addr) (fn fc : Nat) (ts : List Fi.Str) (ga : Option Addr) (gn gc : Nat) (ms : List Int), (w'.rangeAt mb 0 [.int .i64 KI] ∧ (In64 KI)) ∧ (w'.rangeAt mb 1 [.int .i64 FR] ∧ (In64 FR)) ∧ (w'.rangeAt mb 2 [.int .i64 TO] ∧ (In64 TO)) ∧ (w'.rangeAt mb 3 [.int .u64 (ID : Int)] ∧ (InU ID)) ∧ (w'.rangeAt mb 4 [.int .u64 (AS : Int)] ∧ (InU AS)) ∧ (w'.rangeAt mb 5 [.int .u64 (OF : Int)] ∧ (InU OF)) ∧ (w'.rangeAt mb 6 [.int .i64 TE] ∧ (In64 TE)) ∧ (w'.rangeAt mb 7 [.int .u64 (CN : Int)] ∧ (InU CN)) ∧ (w'.rangeAt mb 8 [.int .i64 CO] ∧ (In64 CO)) ∧ (w'.rangeAt mb 9 [.int .i64 FT] ∧ (In64 FT)) ∧ (w'.rangeAt mb 10 [.slice fa fn fc] ∧ (∀ t ∈ ts, t.length ≤ 1048576) ∧ WinE V.heap.size w' (fun w => Lst 1 cl_str w (.slice fa fn fc) ts)) ∧ (w'.rangeAt mb 11 [.slice ga gn gc] ∧ (∀ x ∈ ms, In64 x) ∧ WinE V.heap.size w' (fun w => Lst 1 cl_i64 w (.slice ga gn gc) ms)) ∧ (w'.rangeAt mb 39 [.slice none 0 0]) ∧ AK B K v l mb V w' (D12 l) ((((((((((((ei KI) ++ ei FR) ++ ei TO) ++ Num.uv ID) ++ Num.uv AS) ++ Num.uv OF) ++ ei TE) ++ Num.uv CN) ++ ei CO) ++ ei FT) ++ r_txt ts) ++ (Num.uv ms.length ++ ms.flatMap ei))
/-- Behind 13 parts. -/
def KG13 (B K : Nat) (v : Value) (l : Bs) (mb : Nat) (V w' : World) : Prop := ∃ (KI : Int) (FR : Int) (TO : Int) (ID : Nat) (AS : Nat) (OF : Nat) (TE : Int) (CN : Nat) (CO : Int) (FT : Int) (fa : Option Addr) (fn fc : Nat) (ts : List Fi.Str) (ga : Option Addr) (gn gc : Nat) (ms : List Int) (q : Qw) (qa : Option Addr) (qn qc : Nat) (ra : Option Addr) (rn rc : Nat) (sa : Option Addr) (sn sc : Nat) (va : Option Addr) (vn vc : Nat), (w'.rangeAt mb 0 [.int .i64 KI] ∧ (In64 KI)) ∧ (w'.rangeAt mb 1 [.int .i64 FR] ∧ (In64 FR)) ∧ (w'.rangeAt mb 2 [.int .i64 TO] ∧ (In64 TO)) ∧ (w'.rangeAt mb 3 [.int .u64 (ID : Int)] ∧ (InU ID)) ∧ (w'.rangeAt mb 4 [.int .u64 (AS : Int)] ∧ (InU AS)) ∧ (w'.rangeAt mb 5 [.int .u64 (OF : Int)] ∧ (InU OF)) ∧ (w'.rangeAt mb 6 [.int .i64 TE] ∧ (In64 TE)) ∧ (w'.rangeAt mb 7 [.int .u64 (CN : Int)] ∧ (InU CN)) ∧ (w'.rangeAt mb 8 [.int .i64 CO] ∧ (In64 CO)) ∧ (w'.rangeAt mb 9 [.int .i64 FT] ∧ (In64 FT)) ∧ (w'.rangeAt mb 10 [.slice fa fn fc] ∧ (∀ t ∈ ts, t.length ≤ 1048576) ∧ WinE V.heap.size w' (fun w => Lst 1 cl_str w (.slice fa fn fc) ts)) ∧ (w'.rangeAt mb 11 [.slice ga gn gc] ∧ (∀ x ∈ ms, In64 x) ∧ WinE V.heap.size w' (fun w => Lst 1 cl_i64 w (.slice ga gn gc) ms)) ∧ (w'.rangeAt mb 12 [.int .i64 q.F, .int .i64 q.T, .int .i64 q.t.k, .int .i64 q.t.d, .slice qa qn qc, .int .i64 q.t.lo, .int .i64 q.t.hi, .slice ra rn rc, .int .i64 q.g, .slice sa sn sc, .slice va vn vc, .int .i64 q.G, .int .i64 q.R] ∧ (q.t.tv = .slice qa qn qc ∧ q.t.kv = .slice ra rn rc ∧ q.sv = .slice sa sn sc ∧ q.av = .slice va vn vc) ∧ WinE V.heap.size w' (fun w => q.Ok w)) ∧ (w'.rangeAt mb 39 [.slice none 0 0]) ∧ AK B K v l mb V w' (D13 l) (((((((((((((ei KI) ++ ei FR) ++ ei TO) ++ Num.uv ID) ++ Num.uv AS) ++ Num.uv OF) ++ ei TE) ++ Num.uv CN) ++ ei CO) ++ ei FT) ++ r_txt ts) ++ (Num.uv ms.length ++ ms.flatMap ei)) ++ r_query q)
/-- Behind 14 parts. -/
def KG14 (B K : Nat) (v : Value) (l : Bs) (mb : Nat) (V w' : World) : Prop := ∃ (KI : Int) (FR : Int) (TO : Int) (ID : Nat) (AS : Nat) (OF : Nat) (TE : Int) (CN : Nat) (CO : Int) (FT : Int) (fa : Option Addr) (fn fc : Nat) (ts : List Fi.Str) (ga : Option Addr) (gn gc : Nat) (ms : List Int) (q : Qw) (qa : Option Addr) (qn qc : Nat) (ra : Option Addr) (rn rc : Nat) (sa : Option Addr) (sn sc : Nat) (va : Option Addr) (vn vc : Nat) (y : Sg), (w'.rangeAt mb 0 [.int .i64 KI] ∧ (In64 KI)) ∧ (w'.rangeAt mb 1 [.int .i64 FR] ∧ (In64 FR)) ∧ (w'.rangeAt mb 2 [.int .i64 TO] ∧ (In64 TO)) ∧ (w'.rangeAt mb 3 [.int .u64 (ID : Int)] ∧ (InU ID)) ∧ (w'.rangeAt mb 4 [.int .u64 (AS : Int)] ∧ (InU AS)) ∧ (w'.rangeAt mb 5 [.int .u64 (OF : Int)] ∧ (InU OF)) ∧ (w'.rangeAt mb 6 [.int .i64 TE] ∧ (In64 TE)) ∧ (w'.rangeAt mb 7 [.int .u64 (CN : Int)] ∧ (InU CN)) ∧ (w'.rangeAt mb 8 [.int .i64 CO] ∧ (In64 CO)) ∧ (w'.rangeAt mb 9 [.int .i64 FT] ∧ (In64 FT)) ∧ (w'.rangeAt mb 10 [.slice fa fn fc] ∧ (∀ t ∈ ts, t.length ≤ 1048576) ∧ WinE V.heap.size w' (fun w => Lst 1 cl_str w (.slice fa fn fc) ts)) ∧ (w'.rangeAt mb 11 [.slice ga gn gc] ∧ (∀ x ∈ ms, In64 x) ∧ WinE V.heap.size w' (fun w => Lst 1 cl_i64 w (.slice ga gn gc) ms)) ∧ (w'.rangeAt mb 12 [.int .i64 q.F, .int .i64 q.T, .int .i64 q.t.k, .int .i64 q.t.d, .slice qa qn qc, .int .i64 q.t.lo, .int .i64 q.t.hi, .slice ra rn rc, .int .i64 q.g, .slice sa sn sc, .slice va vn vc, .int .i64 q.G, .int .i64 q.R] ∧ (q.t.tv = .slice qa qn qc ∧ q.t.kv = .slice ra rn rc ∧ q.sv = .slice sa sn sc ∧ q.av = .slice va vn vc) ∧ WinE V.heap.size w' (fun w => q.Ok w)) ∧ (w'.rangeAt mb 25 [.int .i64 y.F, .int .i64 y.T, .int .i64 y.V, .int .i64 y.P, .int .i64 y.C] ∧ (y.In)) ∧ (w'.rangeAt mb 39 [.slice none 0 0]) ∧ AK B K v l mb V w' (D14 l) ((((((((((((((ei KI) ++ ei FR) ++ ei TO) ++ Num.uv ID) ++ Num.uv AS) ++ Num.uv OF) ++ ei TE) ++ Num.uv CN) ++ ei CO) ++ ei FT) ++ r_txt ts) ++ (Num.uv ms.length ++ ms.flatMap ei)) ++ r_query q) ++ r_seg y)
/-- Behind 15 parts. -/
def KG15 (B K : Nat) (v : Value) (l : Bs) (mb : Nat) (V w' : World) : Prop := ∃ (KI : Int) (FR : Int) (TO : Int) (ID : Nat) (AS : Nat) (OF : Nat) (TE : Int) (CN : Nat) (CO : Int) (FT : Int) (fa : Option Addr) (fn fc : Nat) (ts : List Fi.Str) (ga : Option Addr) (gn gc : Nat) (ms : List Int) (q : Qw) (qa : Option Addr) (qn qc : Nat) (ra : Option Addr) (rn rc : Nat) (sa : Option Addr) (sn sc : Nat) (va : Option Addr) (vn vc : Nat) (y : Sg) (F T : Int), (w'.rangeAt mb 0 [.int .i64 KI] ∧ (In64 KI)) ∧ (w'.rangeAt mb 1 [.int .i64 FR] ∧ (In64 FR)) ∧ (w'.rangeAt mb 2 [.int .i64 TO] ∧ (In64 TO)) ∧ (w'.rangeAt mb 3 [.int .u64 (ID : Int)] ∧ (InU ID)) ∧ (w'.rangeAt mb 4 [.int .u64 (AS : Int)] ∧ (InU AS)) ∧ (w'.rangeAt mb 5 [.int .u64 (OF : Int)] ∧ (InU OF)) ∧ (w'.rangeAt mb 6 [.int .i64 TE] ∧ (In64 TE)) ∧ (w'.rangeAt mb 7 [.int .u64 (CN : Int)] ∧ (InU CN)) ∧ (w'.rangeAt mb 8 [.int .i64 CO] ∧ (In64 CO)) ∧ (w'.rangeAt mb 9 [.int .i64 FT] ∧ (In64 FT)) ∧ (w'.rangeAt mb 10 [.slice fa fn fc] ∧ (∀ t ∈ ts, t.length ≤ 1048576) ∧ WinE V.heap.size w' (fun w => Lst 1 cl_str w (.slice fa fn fc) ts)) ∧ (w'.rangeAt mb 11 [.slice ga gn gc] ∧ (∀ x ∈ ms, In64 x) ∧ WinE V.heap.size w' (fun w => Lst 1 cl_i64 w (.slice ga gn gc) ms)) ∧ (w'.rangeAt mb 12 [.int .i64 q.F, .int .i64 q.T, .int .i64 q.t.k, .int .i64 q.t.d, .slice qa qn qc, .int .i64 q.t.lo, .int .i64 q.t.hi, .slice ra rn rc, .int .i64 q.g, .slice sa sn sc, .slice va vn vc, .int .i64 q.G, .int .i64 q.R] ∧ (q.t.tv = .slice qa qn qc ∧ q.t.kv = .slice ra rn rc ∧ q.sv = .slice sa sn sc ∧ q.av = .slice va vn vc) ∧ WinE V.heap.size w' (fun w => q.Ok w)) ∧ (w'.rangeAt mb 25 [.int .i64 y.F, .int .i64 y.T, .int .i64 y.V, .int .i64 y.P, .int .i64 y.C] ∧ (y.In)) ∧ (w'.rangeAt mb 30 [.int .i64 F, .int .i64 T] ∧ (In64 F ∧ In64 T)) ∧ (w'.rangeAt mb 39 [.slice none 0 0]) ∧ AK B K v l mb V w' (D15 l) (((((((((((((((ei KI) ++ ei FR) ++ ei TO) ++ Num.uv ID) ++ Num.uv AS) ++ Num.uv OF) ++ ei TE) ++ Num.uv CN) ++ ei CO) ++ ei FT) ++ r_txt ts) ++ (Num.uv ms.length ++ ms.flatMap ei)) ++ r_query q) ++ r_seg y) ++ r_span F T)
/-- Behind 16 parts. -/
def KG16 (B K : Nat) (v : Value) (l : Bs) (mb : Nat) (V w' : World) : Prop := ∃ (KI : Int) (FR : Int) (TO : Int) (ID : Nat) (AS : Nat) (OF : Nat) (TE : Int) (CN : Nat) (CO : Int) (FT : Int) (fa : Option Addr) (fn fc : Nat) (ts : List Fi.Str) (ga : Option Addr) (gn gc : Nat) (ms : List Int) (q : Qw) (qa : Option Addr) (qn qc : Nat) (ra : Option Addr) (rn rc : Nat) (sa : Option Addr) (sn sc : Nat) (va : Option Addr) (vn vc : Nat) (y : Sg) (F T : Int) (od : Bool), (w'.rangeAt mb 0 [.int .i64 KI] ∧ (In64 KI)) ∧ (w'.rangeAt mb 1 [.int .i64 FR] ∧ (In64 FR)) ∧ (w'.rangeAt mb 2 [.int .i64 TO] ∧ (In64 TO)) ∧ (w'.rangeAt mb 3 [.int .u64 (ID : Int)] ∧ (InU ID)) ∧ (w'.rangeAt mb 4 [.int .u64 (AS : Int)] ∧ (InU AS)) ∧ (w'.rangeAt mb 5 [.int .u64 (OF : Int)] ∧ (InU OF)) ∧ (w'.rangeAt mb 6 [.int .i64 TE] ∧ (In64 TE)) ∧ (w'.rangeAt mb 7 [.int .u64 (CN : Int)] ∧ (InU CN)) ∧ (w'.rangeAt mb 8 [.int .i64 CO] ∧ (In64 CO)) ∧ (w'.rangeAt mb 9 [.int .i64 FT] ∧ (In64 FT)) ∧ (w'.rangeAt mb 10 [.slice fa fn fc] ∧ (∀ t ∈ ts, t.length ≤ 1048576) ∧ WinE V.heap.size w' (fun w => Lst 1 cl_str w (.slice fa fn fc) ts)) ∧ (w'.rangeAt mb 11 [.slice ga gn gc] ∧ (∀ x ∈ ms, In64 x) ∧ WinE V.heap.size w' (fun w => Lst 1 cl_i64 w (.slice ga gn gc) ms)) ∧ (w'.rangeAt mb 12 [.int .i64 q.F, .int .i64 q.T, .int .i64 q.t.k, .int .i64 q.t.d, .slice qa qn qc, .int .i64 q.t.lo, .int .i64 q.t.hi, .slice ra rn rc, .int .i64 q.g, .slice sa sn sc, .slice va vn vc, .int .i64 q.G, .int .i64 q.R] ∧ (q.t.tv = .slice qa qn qc ∧ q.t.kv = .slice ra rn rc ∧ q.sv = .slice sa sn sc ∧ q.av = .slice va vn vc) ∧ WinE V.heap.size w' (fun w => q.Ok w)) ∧ (w'.rangeAt mb 25 [.int .i64 y.F, .int .i64 y.T, .int .i64 y.V, .int .i64 y.P, .int .i64 y.C] ∧ (y.In)) ∧ (w'.rangeAt mb 30 [.int .i64 F, .int .i64 T] ∧ (In64 F ∧ In64 T)) ∧ (w'.rangeAt mb 32 [.bool od] ∧ (True)) ∧ (w'.rangeAt mb 39 [.slice none 0 0]) ∧ AK B K v l mb V w' (D16 l) ((((((((((((((((ei KI) ++ ei FR) ++ ei TO) ++ Num.uv ID) ++ Num.uv AS) ++ Num.uv OF) ++ ei TE) ++ Num.uv CN) ++ ei CO) ++ ei FT) ++ r_txt ts) ++ (Num.uv ms.length ++ ms.flatMap ei)) ++ r_query q) ++ r_seg y) ++ r_span F T) ++ eb od)
/-- Behind 17 parts. -/
def KG17 (B K : Nat) (v : Value) (l : Bs) (mb : Nat) (V w' : World) : Prop := ∃ (KI : Int) (FR : Int) (TO : Int) (ID : Nat) (AS : Nat) (OF : Nat) (TE : Int) (CN : Nat) (CO : Int) (FT : Int) (fa : Option Addr) (fn fc : Nat) (ts : List Fi.Str) (ga : Option Addr) (gn gc : Nat) (ms : List Int) (q : Qw) (qa : Option Addr) (qn qc : Nat) (ra : Option Addr) (rn rc : Nat) (sa : Option Addr) (sn sc : Nat) (va : Option Addr) (vn vc : Nat) (y : Sg) (F T : Int) (od : Bool) (z : Sg), (w'.rangeAt mb 0 [.int .i64 KI] ∧ (In64 KI)) ∧ (w'.rangeAt mb 1 [.int .i64 FR] ∧ (In64 FR)) ∧ (w'.rangeAt mb 2 [.int .i64 TO] ∧ (In64 TO)) ∧ (w'.rangeAt mb 3 [.int .u64 (ID : Int)] ∧ (InU ID)) ∧ (w'.rangeAt mb 4 [.int .u64 (AS : Int)] ∧ (InU AS)) ∧ (w'.rangeAt mb 5 [.int .u64 (OF : Int)] ∧ (InU OF)) ∧ (w'.rangeAt mb 6 [.int .i64 TE] ∧ (In64 TE)) ∧ (w'.rangeAt mb 7 [.int .u64 (CN : Int)] ∧ (InU CN)) ∧ (w'.rangeAt mb 8 [.int .i64 CO] ∧ (In64 CO)) ∧ (w'.rangeAt mb 9 [.int .i64 FT] ∧ (In64 FT)) ∧ (w'.rangeAt mb 10 [.slice fa fn fc] ∧ (∀ t ∈ ts, t.length ≤ 1048576) ∧ WinE V.heap.size w' (fun w => Lst 1 cl_str w (.slice fa fn fc) ts)) ∧ (w'.rangeAt mb 11 [.slice ga gn gc] ∧ (∀ x ∈ ms, In64 x) ∧ WinE V.heap.size w' (fun w => Lst 1 cl_i64 w (.slice ga gn gc) ms)) ∧ (w'.rangeAt mb 12 [.int .i64 q.F, .int .i64 q.T, .int .i64 q.t.k, .int .i64 q.t.d, .slice qa qn qc, .int .i64 q.t.lo, .int .i64 q.t.hi, .slice ra rn rc, .int .i64 q.g, .slice sa sn sc, .slice va vn vc, .int .i64 q.G, .int .i64 q.R] ∧ (q.t.tv = .slice qa qn qc ∧ q.t.kv = .slice ra rn rc ∧ q.sv = .slice sa sn sc ∧ q.av = .slice va vn vc) ∧ WinE V.heap.size w' (fun w => q.Ok w)) ∧ (w'.rangeAt mb 25 [.int .i64 y.F, .int .i64 y.T, .int .i64 y.V, .int .i64 y.P, .int .i64 y.C] ∧ (y.In)) ∧ (w'.rangeAt mb 30 [.int .i64 F, .int .i64 T] ∧ (In64 F ∧ In64 T)) ∧ (w'.rangeAt mb 32 [.bool od] ∧ (True)) ∧ (w'.rangeAt mb 33 [.int .i64 z.F, .int .i64 z.T, .int .i64 z.V, .int .i64 z.P, .int .i64 z.C] ∧ (z.In)) ∧ (w'.rangeAt mb 39 [.slice none 0 0]) ∧ AK B K v l mb V w' (D17 l) (((((((((((((((((ei KI) ++ ei FR) ++ ei TO) ++ Num.uv ID) ++ Num.uv AS) ++ Num.uv OF) ++ ei TE) ++ Num.uv CN) ++ ei CO) ++ ei FT) ++ r_txt ts) ++ (Num.uv ms.length ++ ms.flatMap ei)) ++ r_query q) ++ r_seg y) ++ r_span F T) ++ eb od) ++ r_seg z)
/-- Behind 18 parts. -/
def KG18 (B K : Nat) (v : Value) (l : Bs) (mb : Nat) (V w' : World) : Prop := ∃ (KI : Int) (FR : Int) (TO : Int) (ID : Nat) (AS : Nat) (OF : Nat) (TE : Int) (CN : Nat) (CO : Int) (FT : Int) (fa : Option Addr) (fn fc : Nat) (ts : List Fi.Str) (ga : Option Addr) (gn gc : Nat) (ms : List Int) (q : Qw) (qa : Option Addr) (qn qc : Nat) (ra : Option Addr) (rn rc : Nat) (sa : Option Addr) (sn sc : Nat) (va : Option Addr) (vn vc : Nat) (y : Sg) (F T : Int) (od : Bool) (z : Sg) (nd : Int), (w'.rangeAt mb 0 [.int .i64 KI] ∧ (In64 KI)) ∧ (w'.rangeAt mb 1 [.int .i64 FR] ∧ (In64 FR)) ∧ (w'.rangeAt mb 2 [.int .i64 TO] ∧ (In64 TO)) ∧ (w'.rangeAt mb 3 [.int .u64 (ID : Int)] ∧ (InU ID)) ∧ (w'.rangeAt mb 4 [.int .u64 (AS : Int)] ∧ (InU AS)) ∧ (w'.rangeAt mb 5 [.int .u64 (OF : Int)] ∧ (InU OF)) ∧ (w'.rangeAt mb 6 [.int .i64 TE] ∧ (In64 TE)) ∧ (w'.rangeAt mb 7 [.int .u64 (CN : Int)] ∧ (InU CN)) ∧ (w'.rangeAt mb 8 [.int .i64 CO] ∧ (In64 CO)) ∧ (w'.rangeAt mb 9 [.int .i64 FT] ∧ (In64 FT)) ∧ (w'.rangeAt mb 10 [.slice fa fn fc] ∧ (∀ t ∈ ts, t.length ≤ 1048576) ∧ WinE V.heap.size w' (fun w => Lst 1 cl_str w (.slice fa fn fc) ts)) ∧ (w'.rangeAt mb 11 [.slice ga gn gc] ∧ (∀ x ∈ ms, In64 x) ∧ WinE V.heap.size w' (fun w => Lst 1 cl_i64 w (.slice ga gn gc) ms)) ∧ (w'.rangeAt mb 12 [.int .i64 q.F, .int .i64 q.T, .int .i64 q.t.k, .int .i64 q.t.d, .slice qa qn qc, .int .i64 q.t.lo, .int .i64 q.t.hi, .slice ra rn rc, .int .i64 q.g, .slice sa sn sc, .slice va vn vc, .int .i64 q.G, .int .i64 q.R] ∧ (q.t.tv = .slice qa qn qc ∧ q.t.kv = .slice ra rn rc ∧ q.sv = .slice sa sn sc ∧ q.av = .slice va vn vc) ∧ WinE V.heap.size w' (fun w => q.Ok w)) ∧ (w'.rangeAt mb 25 [.int .i64 y.F, .int .i64 y.T, .int .i64 y.V, .int .i64 y.P, .int .i64 y.C] ∧ (y.In)) ∧ (w'.rangeAt mb 30 [.int .i64 F, .int .i64 T] ∧ (In64 F ∧ In64 T)) ∧ (w'.rangeAt mb 32 [.bool od] ∧ (True)) ∧ (w'.rangeAt mb 33 [.int .i64 z.F, .int .i64 z.T, .int .i64 z.V, .int .i64 z.P, .int .i64 z.C] ∧ (z.In)) ∧ (w'.rangeAt mb 38 [.int .i64 nd] ∧ (In64 nd)) ∧ (w'.rangeAt mb 39 [.slice none 0 0]) ∧ AK B K v l mb V w' (D18 l) ((((((((((((((((((ei KI) ++ ei FR) ++ ei TO) ++ Num.uv ID) ++ Num.uv AS) ++ Num.uv OF) ++ ei TE) ++ Num.uv CN) ++ ei CO) ++ ei FT) ++ r_txt ts) ++ (Num.uv ms.length ++ ms.flatMap ei)) ++ r_query q) ++ r_seg y) ++ r_span F T) ++ eb od) ++ r_seg z) ++ ei nd)
/-- Behind 19 parts. -/
def KG19 (B K : Nat) (v : Value) (l : Bs) (mb : Nat) (V w' : World) : Prop := ∃ (KI : Int) (FR : Int) (TO : Int) (ID : Nat) (AS : Nat) (OF : Nat) (TE : Int) (CN : Nat) (CO : Int) (FT : Int) (fa : Option Addr) (fn fc : Nat) (ts : List Fi.Str) (ga : Option Addr) (gn gc : Nat) (ms : List Int) (q : Qw) (qa : Option Addr) (qn qc : Nat) (ra : Option Addr) (rn rc : Nat) (sa : Option Addr) (sn sc : Nat) (va : Option Addr) (vn vc : Nat) (y : Sg) (F T : Int) (od : Bool) (z : Sg) (nd : Int) (ya : Option Addr) (yn yc : Nat) (xs : List Sg), (w'.rangeAt mb 0 [.int .i64 KI] ∧ (In64 KI)) ∧ (w'.rangeAt mb 1 [.int .i64 FR] ∧ (In64 FR)) ∧ (w'.rangeAt mb 2 [.int .i64 TO] ∧ (In64 TO)) ∧ (w'.rangeAt mb 3 [.int .u64 (ID : Int)] ∧ (InU ID)) ∧ (w'.rangeAt mb 4 [.int .u64 (AS : Int)] ∧ (InU AS)) ∧ (w'.rangeAt mb 5 [.int .u64 (OF : Int)] ∧ (InU OF)) ∧ (w'.rangeAt mb 6 [.int .i64 TE] ∧ (In64 TE)) ∧ (w'.rangeAt mb 7 [.int .u64 (CN : Int)] ∧ (InU CN)) ∧ (w'.rangeAt mb 8 [.int .i64 CO] ∧ (In64 CO)) ∧ (w'.rangeAt mb 9 [.int .i64 FT] ∧ (In64 FT)) ∧ (w'.rangeAt mb 10 [.slice fa fn fc] ∧ (∀ t ∈ ts, t.length ≤ 1048576) ∧ WinE V.heap.size w' (fun w => Lst 1 cl_str w (.slice fa fn fc) ts)) ∧ (w'.rangeAt mb 11 [.slice ga gn gc] ∧ (∀ x ∈ ms, In64 x) ∧ WinE V.heap.size w' (fun w => Lst 1 cl_i64 w (.slice ga gn gc) ms)) ∧ (w'.rangeAt mb 12 [.int .i64 q.F, .int .i64 q.T, .int .i64 q.t.k, .int .i64 q.t.d, .slice qa qn qc, .int .i64 q.t.lo, .int .i64 q.t.hi, .slice ra rn rc, .int .i64 q.g, .slice sa sn sc, .slice va vn vc, .int .i64 q.G, .int .i64 q.R] ∧ (q.t.tv = .slice qa qn qc ∧ q.t.kv = .slice ra rn rc ∧ q.sv = .slice sa sn sc ∧ q.av = .slice va vn vc) ∧ WinE V.heap.size w' (fun w => q.Ok w)) ∧ (w'.rangeAt mb 25 [.int .i64 y.F, .int .i64 y.T, .int .i64 y.V, .int .i64 y.P, .int .i64 y.C] ∧ (y.In)) ∧ (w'.rangeAt mb 30 [.int .i64 F, .int .i64 T] ∧ (In64 F ∧ In64 T)) ∧ (w'.rangeAt mb 32 [.bool od] ∧ (True)) ∧ (w'.rangeAt mb 33 [.int .i64 z.F, .int .i64 z.T, .int .i64 z.V, .int .i64 z.P, .int .i64 z.C] ∧ (z.In)) ∧ (w'.rangeAt mb 38 [.int .i64 nd] ∧ (In64 nd)) ∧ (w'.rangeAt mb 39 [.slice ya yn yc] ∧ (∀ x ∈ xs, x.In) ∧ WinE V.heap.size w' (fun w => Lst 5 cl_seg w (.slice ya yn yc) xs)) ∧ AK B K v l mb V w' (D19 l) (((((((((((((((((((ei KI) ++ ei FR) ++ ei TO) ++ Num.uv ID) ++ Num.uv AS) ++ Num.uv OF) ++ ei TE) ++ Num.uv CN) ++ ei CO) ++ ei FT) ++ r_txt ts) ++ (Num.uv ms.length ++ ms.flatMap ei)) ++ r_query q) ++ r_seg y) ++ r_span F T) ++ eb od) ++ r_seg z) ++ ei nd) ++ (Num.uv xs.length ++ xs.flatMap r_seg))
/-- Behind 20 parts. -/
def KG20 (B K : Nat) (v : Value) (l : Bs) (mb : Nat) (V w' : World) : Prop := ∃ (KI : Int) (FR : Int) (TO : Int) (ID : Nat) (AS : Nat) (OF : Nat) (TE : Int) (CN : Nat) (CO : Int) (FT : Int) (fa : Option Addr) (fn fc : Nat) (ts : List Fi.Str) (ga : Option Addr) (gn gc : Nat) (ms : List Int) (q : Qw) (qa : Option Addr) (qn qc : Nat) (ra : Option Addr) (rn rc : Nat) (sa : Option Addr) (sn sc : Nat) (va : Option Addr) (vn vc : Nat) (y : Sg) (F T : Int) (od : Bool) (z : Sg) (nd : Int) (ya : Option Addr) (yn yc : Nat) (xs : List Sg) (xa : Option Addr) (xn xc : Nat) (gs : List Gp), (w'.rangeAt mb 0 [.int .i64 KI] ∧ (In64 KI)) ∧ (w'.rangeAt mb 1 [.int .i64 FR] ∧ (In64 FR)) ∧ (w'.rangeAt mb 2 [.int .i64 TO] ∧ (In64 TO)) ∧ (w'.rangeAt mb 3 [.int .u64 (ID : Int)] ∧ (InU ID)) ∧ (w'.rangeAt mb 4 [.int .u64 (AS : Int)] ∧ (InU AS)) ∧ (w'.rangeAt mb 5 [.int .u64 (OF : Int)] ∧ (InU OF)) ∧ (w'.rangeAt mb 6 [.int .i64 TE] ∧ (In64 TE)) ∧ (w'.rangeAt mb 7 [.int .u64 (CN : Int)] ∧ (InU CN)) ∧ (w'.rangeAt mb 8 [.int .i64 CO] ∧ (In64 CO)) ∧ (w'.rangeAt mb 9 [.int .i64 FT] ∧ (In64 FT)) ∧ (w'.rangeAt mb 10 [.slice fa fn fc] ∧ (∀ t ∈ ts, t.length ≤ 1048576) ∧ WinE V.heap.size w' (fun w => Lst 1 cl_str w (.slice fa fn fc) ts)) ∧ (w'.rangeAt mb 11 [.slice ga gn gc] ∧ (∀ x ∈ ms, In64 x) ∧ WinE V.heap.size w' (fun w => Lst 1 cl_i64 w (.slice ga gn gc) ms)) ∧ (w'.rangeAt mb 12 [.int .i64 q.F, .int .i64 q.T, .int .i64 q.t.k, .int .i64 q.t.d, .slice qa qn qc, .int .i64 q.t.lo, .int .i64 q.t.hi, .slice ra rn rc, .int .i64 q.g, .slice sa sn sc, .slice va vn vc, .int .i64 q.G, .int .i64 q.R] ∧ (q.t.tv = .slice qa qn qc ∧ q.t.kv = .slice ra rn rc ∧ q.sv = .slice sa sn sc ∧ q.av = .slice va vn vc) ∧ WinE V.heap.size w' (fun w => q.Ok w)) ∧ (w'.rangeAt mb 25 [.int .i64 y.F, .int .i64 y.T, .int .i64 y.V, .int .i64 y.P, .int .i64 y.C] ∧ (y.In)) ∧ (w'.rangeAt mb 30 [.int .i64 F, .int .i64 T] ∧ (In64 F ∧ In64 T)) ∧ (w'.rangeAt mb 32 [.bool od] ∧ (True)) ∧ (w'.rangeAt mb 33 [.int .i64 z.F, .int .i64 z.T, .int .i64 z.V, .int .i64 z.P, .int .i64 z.C] ∧ (z.In)) ∧ (w'.rangeAt mb 38 [.int .i64 nd] ∧ (In64 nd)) ∧ (w'.rangeAt mb 39 [.slice ya yn yc] ∧ (∀ x ∈ xs, x.In) ∧ WinE V.heap.size w' (fun w => Lst 5 cl_seg w (.slice ya yn yc) xs)) ∧ (w'.rangeAt mb 40 [.slice xa xn xc] ∧ (True) ∧ WinE V.heap.size w' (fun w => Lst 4 cl_grp w (.slice xa xn xc) gs ∧ ∀ x ∈ gs, x.Ok w)) ∧ AK B K v l mb V w' (D20 l) ((((((((((((((((((((ei KI) ++ ei FR) ++ ei TO) ++ Num.uv ID) ++ Num.uv AS) ++ Num.uv OF) ++ ei TE) ++ Num.uv CN) ++ ei CO) ++ ei FT) ++ r_txt ts) ++ (Num.uv ms.length ++ ms.flatMap ei)) ++ r_query q) ++ r_seg y) ++ r_span F T) ++ eb od) ++ r_seg z) ++ ei nd) ++ (Num.uv xs.length ++ xs.flatMap r_seg)) ++ (Num.uv gs.length ++ gs.flatMap r_grp))
end Go.Proofs.Ytpdlioidiobbbaa
