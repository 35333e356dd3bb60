/- What Get wants besides: the reader's start, parts one behind the other, whole structs stored and answered. -/
import Derived.Test.YtpdlioidiobbbaaRc
import Derived.Deep.WholeRow
namespace Go.Proofs.Ytpdlioidiobbbaa
open Go.RowKit Go.Sort

set_option maxHeartbeats 400000 in
theorem read_any (w : World) (v : Value) (l : List UInt8) (h : Reads w v l) :
    Calls Try.prog 35 #[v] w fun e w' => e = .returned (.pointer (some ⟨w.heap.size, 0, none⟩)) ∧ w' = w.alloc (.cells #[v, .int .i64 0] 136) := by
  obtain ⟨ao, n, cap, rfl⟩ : ∃ ao n cap, v = .slice ao n cap := by obtain ⟨ao, cap, rfl, _⟩ := h; exact ⟨_, _, _, rfl⟩
  clear h
  go_enter Try.func35, Try.ntmps35
  go_wp2_with fail
  go_ret
  exact ⟨rfl, rfl⟩
theorem PS.start {w : World} {v : Value} {l : List UInt8} (h : Reads w v l) : PS w.heap.size (w.alloc (.cells #[v, .int .i64 0] 136)) w.heap.size l 0 0 := by
  refine ⟨Nat.le_refl _, Nat.zero_le _, v, heap_alloc_new w _, ?_, fun h => absurd rfl h⟩
  rw [if_pos rfl, List.drop_zero]
  have hb : Below w.heap.size w (w.alloc (.cells #[v, .int .i64 0] 136)) := (Below.refl _ _).alloc (Nat.le_refl _) _
  have hr : Reads (w.alloc (.cells #[v, .int .i64 0] 136)) v l := by
    obtain ⟨ao, cap, rfl, h1, h2, h3, h4⟩ := id h
    refine ⟨ao, cap, rfl, h1, h2, h3, fun ad ha j u hj => ?_⟩
    have hc := h4 ad ha j u hj
    rw [hb.cell (World.block_lt_of_cell? _ _ hc)]
    exact hc
  refine ⟨hr, fun ad n c hv hn => ?_⟩
  obtain ⟨ao, cap, hv', h1, h2, h3, h4⟩ := h
  rw [hv'] at hv
  simp only [Value.slice.injEq] at hv
  obtain ⟨rfl, rfl, rfl⟩ := hv
  have := h4 ad rfl 0 _ (bv_get l 0 hn)
  have hlt := World.block_lt_of_cell? _ _ this
  simpa [Addr.add] using hlt
/-- A whole array into the block that was made last, as one step of a list of operations. -/
theorem wpList_store_new {P : Program} {ops : Array Oper} {rest : List Oper} {op : Oper} {a : Act} {w : World} {Q : Exit → Act → World → Prop} (hgd : op.guard = none) (ty : TypeId) (x y : Operand) (ho : op.op = .store ty x y)
    (w0 : World) (c c' : Array Value) (hw : w = w0.alloc (.cells c ty)) (hx : a.eval x = .pointer (some ⟨w0.heap.size, 0, none⟩)) (hy : a.eval y = .agg c')
    (hi : (P.info? ty).map (·.size) = some c'.size) (hc : c.size = c'.size) (h1 : c'.all (·.oneCell') = true)
    (h : wpList P ops Q rest (a.put op.dst undef) (w0.alloc (.cells c' ty))) : wpList P ops Q (op :: rest) a w := by
  subst hw
  refine wpList_plain hgd fun _ hK => ?_
  unfold Oper.wp execOp
  simp only [ho, hx, hy, Instr.storeAt, Instr.sureAddr, Sem.run_bind, Sem.run_pure, Result.andThen_ok, run_storeVar_new w0 ty c c' hi hc h1]
  exact hK _ _ h
/-- A whole struct into a block. -/
theorem wpList_store_row {P : Program} {ops : Array Oper} {rest : List Oper} {op : Oper} {a : Act} {w : World} {Q : Exit → Act → World → Prop} (hgd : op.guard = none) (ty : TypeId) (x y : Operand) (ho : op.op = .store ty x y)
    (g : Nat) (t : TypeId) (old cells : Array Value) (hg : BxA w g t old) (hx : a.eval x = .pointer (some ⟨g, 0, none⟩)) (hy : a.eval y = .agg cells)
    (hi : (P.info? ty).map (·.size) = some cells.size) (hc : old.size = cells.size) (h1 : cells.all (·.oneCell') = true)
    (h : wpList P ops Q rest (a.put op.dst undef) (w.setRow g cells)) : wpList P ops Q (op :: rest) a w := by
  refine wpList_plain hgd fun _ hK => ?_
  unfold Oper.wp execOp
  simp only [ho, hx, hy, Instr.storeAt, Instr.sureAddr, Sem.run_bind, Sem.run_pure, Result.andThen_ok, run_storeVar_row w g t ty old cells hg hi hc h1]
  exact hK _ _ h
theorem results_two {P : Program} {fn : Func} {p q : Tmp} {ty : TypeId} (h : fn.results = #[.cell p ty, .tmp q]) (tmps : Array Value) (w : World) (g : Nat) (t : TypeId) (cs : Array Value) (d : TypeDesc) (v : Value)
    (hp : tmps.getD p undef = .pointer (some ⟨g, 0, none⟩)) (hq : tmps.getD q undef = v) (hg : BxA w g t cs)
    (hu : P.underlying ty = some d) (hd : (match d with | .struct _ | .array _ _ => true | _ => false) = true) (hi : (P.info? ty).map (·.size) = some cs.size) :
    (results fn tmps).run P w = .ok (.tuple #[.agg cs, v]) w := by
  have hp' : tmps[p]?.getD undef = .pointer (some ⟨g, 0, none⟩) := by simpa using hp
  have hq' : tmps[q]?.getD undef = v := by simpa using hq
  simp [results, h, hp', hq', asAddr, run_loadVar_row w g t ty cs (0, 0) d hg hu hd hi]
theorem setRow_grown (w : World) (g : Nat) (cs : Array Value) : w.grownBy (w.setRow g cs) (some g) := ⟨rfl, rfl, rfl, by simp [World.setRow], fun k _ hk => setRow_other w g k cs (fun e => hk (by simp [e]))⟩
theorem range_app {w : World} {b o : Nat} {x y : List Value} (h : w.rangeAt b o x) (k : w.rangeAt b (o + x.length) y) : w.rangeAt b o (x ++ y) := fun j v hv => by
  by_cases hj : j < x.length
  · rw [List.getElem?_append_left hj] at hv
    exact h j v hv
  · rw [List.getElem?_append_right (by omega)] at hv
    have := k (j - x.length) v hv
    rw [show o + x.length + (j - x.length) = o + j by omega] at this
    exact this
/-- Parts one behind the other, from w0 on. -/
structure Acc (B R : Nat) (l : Bs) (mb : Nat) (w0 w' : World) (f : Sg2 → Sg2) (b : Bs) : Prop where
  ps : PS B w' R l (f (0, 0)).1 (f (0, 0)).2
  os : w'.os = w0.os
  tape : w'.tape = w0.tape
  output : w'.output = w0.output
  size : w0.heap.size ≤ w'.heap.size
  block : ∀ i, i < w0.heap.size → i ≠ R → i ≠ mb → w'.heap[i]? = w0.heap[i]?
  th : w'.there mb 0 41
  b : (f (0, 0)).2 = 0 → b = rd l 0 (f (0, 0)).1
theorem Acc.step {B R : Nat} {l : Bs} {mb : Nat} {w0 w w' : World} {f g : Sg2 → Sg2} {b b2 : Bs} {o : Nat} {cs : List Value} (h : Acc B R l mb w0 w f b) (hf : Fwd l f) (hg : Fwd l g) (k : Stp B R l mb w w' ((f (0, 0)).1, (f (0, 0)).2) g b2 o cs) : Acc B R l mb w0 w' (fun s => g (f s)) (b ++ b2) := by
  refine ⟨k.ps, k.os.trans h.os, k.tape.trans h.tape, k.output.trans h.output, Nat.le_trans h.size k.size, fun i h1 h2 h3 => (k.block i (Nat.lt_of_lt_of_le h1 h.size) h2 h3).trans (h.block i h1 h2 h3), k.th, fun h2 => ?_⟩
  have h1 : (f (0, 0)).2 = 0 := Classical.byContradiction fun hn => hn (by
    have e := hg.stay (f (0, 0)) hn
    have h3 : (g (f (0, 0))).2 = 0 := h2
    rw [e] at h3
    exact h3)
  have hl0 := hf.le (0, 0) (Nat.zero_le _)
  have e2 := k.b h1 h2
  show b ++ b2 = rd l 0 (g (f (0, 0))).1
  rw [h.b h1, e2]
  exact (rd_app l hl0.1 (hg.le _ hl0.2).1).symm
def zeroM : Mm := ⟨0, 0, 0, 0, 0, 0, 0, 0, 0, 0, .slice none 0 0, [], .slice none 0 0, [], ⟨0, 0, Fi.Tr.mk 0 0 (.slice none 0 0) [] 0 0 (.slice none 0 0) [], 0, .slice none 0 0, [], .slice none 0 0, [], 0, 0⟩, ⟨0, 0, 0, 0, 0⟩, 0, 0, false, ⟨0, 0, 0, 0, 0⟩, 0, .slice none 0 0, [], .slice none 0 0, []⟩
theorem zero_in : In64 0 := by unfold In64; omega
theorem zero_inu : InU 0 := by unfold InU; omega
theorem zeroM_ok (w : World) : zeroM.Ok w :=
  ⟨zero_in, zero_in, zero_in, zero_inu, zero_inu, zero_inu, zero_in, zero_inu, zero_in, zero_in, Fi.RdsK.nil _ _, (fun _ h => by cases h), Fi.RdsK.nil _ _, (fun _ h => by cases h),
   ⟨zero_in, zero_in, ⟨Fi.Rds.nil _, Fi.RdsK.nil _ _, fun _ h => by cases h⟩, ⟨zero_in, zero_in, zero_in, zero_in, (fun _ h => by cases h), (fun _ h => by cases h)⟩, zero_in, Fi.RdsK.nil _ _, (fun _ h => by cases h), Fi.RdsK.nil _ _, (fun _ h => by cases h), zero_in, zero_in⟩,
   ⟨zero_in, zero_in, zero_in, zero_in, zero_in⟩, zero_in, zero_in, ⟨zero_in, zero_in, zero_in, zero_in, zero_in⟩, zero_in, Fi.RdsK.nil _ _, (fun _ h => by cases h), Fi.RdsK.nil _ _, (fun _ h => by cases h)⟩
/-- A message's cells. -/
def mcells (m : Mm) : Array Value := (List.toArray ((.int .i64 m.kind) :: (.int .i64 m.frm) :: (.int .i64 m.to) :: (.int .u64 (m.id : Nat)) :: (.int .u64 (m.ask : Nat)) :: (.int .u64 (m.off : Nat)) :: (.int .i64 m.term) :: (.int .u64 (m.cnt : Nat)) :: (.int .i64 m.code) :: (.int .i64 m.ft) :: (m.fdv) :: (m.fmv) :: (.int .i64 m.q.F) :: (.int .i64 m.q.T) :: (.int .i64 m.q.t.k) :: (.int .i64 m.q.t.d) :: (m.q.t.tv) :: (.int .i64 m.q.t.lo) :: (.int .i64 m.q.t.hi) :: (m.q.t.kv) :: (.int .i64 m.q.g) :: (m.q.sv) :: (m.q.av) :: (.int .i64 m.q.G) :: (.int .i64 m.q.R) :: (.int .i64 m.ps.F) :: (.int .i64 m.ps.T) :: (.int .i64 m.ps.V) :: (.int .i64 m.ps.P) :: (.int .i64 m.ps.C) :: (.int .i64 m.pF) :: (.int .i64 m.pT) :: (.bool m.od) :: (.int .i64 m.os.F) :: (.int .i64 m.os.T) :: (.int .i64 m.os.V) :: (.int .i64 m.os.P) :: (.int .i64 m.os.C) :: (.int .i64 m.on) :: (m.sv) :: (m.gv) :: []))
/-- What Get's code is. -/
def gcode (l : Bs) : Nat := en l (skMsg l (0, 0)).1 (skMsg l (0, 0)).2
/-- What Get answers. -/
structure GetP (l : Bs) (w : World) (ev : Ending) (w' : World) : Prop where
  bel : Below w.heap.size w w'
  out : ∃ m : Mm, ev = .returned (.tuple #[.agg (mcells m), .int .i64 (gcode l : Nat)]) ∧ m.Ok w' ∧ (gcode l = 0 → r_msg m = l) ∧ (gcode l ≠ 0 → m = zeroM)
theorem fwd_fact (l : Bs) : Fwd l (skFact l) := ((fwd_u l).comp (fwd_txt l)).comp (fwd_l (fwd_u l))
/-- No old block but these two has changed. -/
def Stp0 (R mb : Nat) (w w' : World) : Prop := w.heap.size ≤ w'.heap.size ∧ ∀ i, i < w.heap.size → i ≠ R → i ≠ mb → w'.heap[i]? = w.heap[i]?
theorem Stp0.box {R mb g : Nat} {t : TypeId} {C : Array Value} {w w' : World} (h : Stp0 R mb w w') (k : BxA w g t C) (hR : g ≠ R) (hm : g ≠ mb) : BxA w' g t C := by
  unfold BxA at k ⊢
  rw [h.2 g (Array.getElem?_eq_some_iff.1 k).1 hR hm]
  exact k
def F0 (_ : Bs) (s : Sg2) : Sg2 := s
theorem fwd_F0 (l : Bs) : Fwd l (F0 l) := fwd_id l
def F1 (l : Bs) (s : Sg2) : Sg2 := skU l (skU l (skU l (F0 l s)))
theorem fwd_F1 (l : Bs) : Fwd l (F1 l) := by
  have h := (fwd_F0 l).comp (((fwd_u l).comp (fwd_u l)).comp (fwd_u l))
  exact h
def F2 (l : Bs) (s : Sg2) : Sg2 := skU l (skU l (skU l (F1 l s)))
theorem fwd_F2 (l : Bs) : Fwd l (F2 l) := by
  have h := (fwd_F1 l).comp (((fwd_u l).comp (fwd_u l)).comp (fwd_u l))
  exact h
def F3 (l : Bs) (s : Sg2) : Sg2 := skU l (F2 l s)
theorem fwd_F3 (l : Bs) : Fwd l (F3 l) := by
  have h := (fwd_F2 l).comp (fwd_u l)
  exact h
def F4 (l : Bs) (s : Sg2) : Sg2 := skU l (F3 l s)
theorem fwd_F4 (l : Bs) : Fwd l (F4 l) := by
  have h := (fwd_F3 l).comp (fwd_u l)
  exact h
def F5 (l : Bs) (s : Sg2) : Sg2 := skU l (F4 l s)
theorem fwd_F5 (l : Bs) : Fwd l (F5 l) := by
  have h := (fwd_F4 l).comp (fwd_u l)
  exact h
def F6 (l : Bs) (s : Sg2) : Sg2 := skFact l (F5 l s)
theorem fwd_F6 (l : Bs) : Fwd l (F6 l) := by
  have h := (fwd_F5 l).comp (fwd_fact l)
  exact h
def F7 (l : Bs) (s : Sg2) : Sg2 := skQuery l (F6 l s)
theorem fwd_F7 (l : Bs) : Fwd l (F7 l) := by
  have h := (fwd_F6 l).comp (fwd_query l)
  exact h
def F8 (l : Bs) (s : Sg2) : Sg2 := skSpan l (skSeg l (F7 l s))
theorem fwd_F8 (l : Bs) : Fwd l (F8 l) := by
  have h := (fwd_F7 l).comp ((fwd_seg l).comp (fwd_span l))
  exact h
def F9 (l : Bs) (s : Sg2) : Sg2 := skU l (skSeg l (skB l (F8 l s)))
theorem fwd_F9 (l : Bs) : Fwd l (F9 l) := by
  have h := (fwd_F8 l).comp (((fwd_b l).comp (fwd_seg l)).comp (fwd_u l))
  exact h
def F10 (l : Bs) (s : Sg2) : Sg2 := skL l (skSeg l) (F9 l s)
theorem fwd_F10 (l : Bs) : Fwd l (F10 l) := by
  have h := (fwd_F9 l).comp (fwd_l (fwd_seg l))
  exact h
def F11 (l : Bs) (s : Sg2) : Sg2 := skL l (skGrp l) (F10 l s)
theorem F_msg (l : Bs) : F11 l (0, 0) = skMsg l (0, 0) := by
  simp only [F11, F10, F9, F8, F7, F6, F5, F4, F3, F2, F1, F0, skMsg, skHead]
/-- Behind 0 parts. -/
def GS0 (B R : Nat) (l : Bs) (mb : Nat) (V w' : World) : Prop := Acc B R l mb V w' (F0 l) ([])
/-- Behind 1 parts. -/
def GS1 (B R : Nat) (l : Bs) (mb : Nat) (V w' : World) : Prop := ∃ (KI FR TO : Int), (w'.rangeAt mb 0 [.int .i64 KI, .int .i64 FR, .int .i64 TO] ∧ (In64 KI ∧ In64 FR ∧ In64 TO)) ∧ Acc B R l mb V w' (F1 l) (((ei KI ++ ei FR) ++ ei TO))
/-- Behind 2 parts. -/
def GS2 (B R : Nat) (l : Bs) (mb : Nat) (V w' : World) : Prop := ∃ (KI FR TO : Int) (ID AS OF : Nat), (w'.rangeAt mb 0 [.int .i64 KI, .int .i64 FR, .int .i64 TO] ∧ (In64 KI ∧ In64 FR ∧ In64 TO)) ∧ (w'.rangeAt mb 3 [.int .u64 (ID : Int), .int .u64 (AS : Int), .int .u64 (OF : Int)] ∧ (InU ID ∧ InU AS ∧ InU OF)) ∧ Acc B R l mb V w' (F2 l) ((((ei KI ++ ei FR) ++ ei TO)) ++ ((Num.uv ID ++ Num.uv AS) ++ Num.uv OF))
/-- Behind 3 parts. -/
def GS3 (B R : Nat) (l : Bs) (mb : Nat) (V w' : World) : Prop := ∃ (KI FR TO : Int) (ID AS OF : Nat) (TE : Int), (w'.rangeAt mb 0 [.int .i64 KI, .int .i64 FR, .int .i64 TO] ∧ (In64 KI ∧ In64 FR ∧ In64 TO)) ∧ (w'.rangeAt mb 3 [.int .u64 (ID : Int), .int .u64 (AS : Int), .int .u64 (OF : Int)] ∧ (InU ID ∧ InU AS ∧ InU OF)) ∧ (w'.rangeAt mb 6 [.int .i64 TE] ∧ (In64 TE)) ∧ Acc B R l mb V w' (F3 l) (((((ei KI ++ ei FR) ++ ei TO)) ++ ((Num.uv ID ++ Num.uv AS) ++ Num.uv OF)) ++ ei TE)
/-- Behind 4 parts. -/
def GS4 (B R : Nat) (l : Bs) (mb : Nat) (V w' : World) : Prop := ∃ (KI FR TO : Int) (ID AS OF : Nat) (TE : Int) (CN : Nat), (w'.rangeAt mb 0 [.int .i64 KI, .int .i64 FR, .int .i64 TO] ∧ (In64 KI ∧ In64 FR ∧ In64 TO)) ∧ (w'.rangeAt mb 3 [.int .u64 (ID : Int), .int .u64 (AS : Int), .int .u64 (OF : Int)] ∧ (InU ID ∧ InU AS ∧ InU OF)) ∧ (w'.rangeAt mb 6 [.int .i64 TE] ∧ (In64 TE)) ∧ (w'.rangeAt mb 7 [.int .u64 (CN : Int)] ∧ (InU CN)) ∧ Acc B R l mb V w' (F4 l) ((((((ei KI ++ ei FR) ++ ei TO)) ++ ((Num.uv ID ++ Num.uv AS) ++ Num.uv OF)) ++ ei TE) ++ Num.uv CN)
/-- Behind 5 parts. -/
def GS5 (B R : Nat) (l : Bs) (mb : Nat) (V w' : World) : Prop := ∃ (KI FR TO : Int) (ID AS OF : Nat) (TE : Int) (CN : Nat) (CO : Int), (w'.rangeAt mb 0 [.int .i64 KI, .int .i64 FR, .int .i64 TO] ∧ (In64 KI ∧ In64 FR ∧ In64 TO)) ∧ (w'.rangeAt mb 3 [.int .u64 (ID : Int), .int .u64 (AS : Int), .int .u64 (OF : Int)] ∧ (InU ID ∧ InU AS ∧ InU OF)) ∧ (w'.rangeAt mb 6 [.int .i64 TE] ∧ (In64 TE)) ∧ (w'.rangeAt mb 7 [.int .u64 (CN : Int)] ∧ (InU CN)) ∧ (w'.rangeAt mb 8 [.int .i64 CO] ∧ (In64 CO)) ∧ Acc B R l mb V w' (F5 l) (((((((ei KI ++ ei FR) ++ ei TO)) ++ ((Num.uv ID ++ Num.uv AS) ++ Num.uv OF)) ++ ei TE) ++ Num.uv CN) ++ ei CO)
/-- Behind 6 parts. -/
def GS6 (B R : Nat) (l : Bs) (mb : Nat) (V w' : World) : Prop := ∃ (KI FR TO : Int) (ID AS OF : Nat) (TE : Int) (CN : Nat) (CO : Int) (FT : Int) (fa : Option Addr) (fn fc : Nat) (ts : List Fi.Str) (ga : Option Addr) (gn gc : Nat) (ms : List Int), (w'.rangeAt mb 0 [.int .i64 KI, .int .i64 FR, .int .i64 TO] ∧ (In64 KI ∧ In64 FR ∧ In64 TO)) ∧ (w'.rangeAt mb 3 [.int .u64 (ID : Int), .int .u64 (AS : Int), .int .u64 (OF : Int)] ∧ (InU ID ∧ InU AS ∧ InU OF)) ∧ (w'.rangeAt mb 6 [.int .i64 TE] ∧ (In64 TE)) ∧ (w'.rangeAt mb 7 [.int .u64 (CN : Int)] ∧ (InU CN)) ∧ (w'.rangeAt mb 8 [.int .i64 CO] ∧ (In64 CO)) ∧ (w'.rangeAt mb 9 [.int .i64 FT, .slice fa fn fc, .slice ga gn gc] ∧ (In64 FT ∧ (∀ t ∈ ts, t.length ≤ 1048576) ∧ (∀ x ∈ ms, In64 x)) ∧ Win V.heap.size w' (fun w => Lst 1 cl_str w (.slice fa fn fc) ts ∧ Lst 1 cl_i64 w (.slice ga gn gc) ms)) ∧ Acc B R l mb V w' (F6 l) ((((((((ei KI ++ ei FR) ++ ei TO)) ++ ((Num.uv ID ++ Num.uv AS) ++ Num.uv OF)) ++ ei TE) ++ Num.uv CN) ++ ei CO) ++ (ei FT ++ (r_txt ts ++ (Num.uv ms.length ++ ms.flatMap ei))))
/-- Behind 7 parts. -/
def GS7 (B R : Nat) (l : Bs) (mb : Nat) (V w' : World) : Prop := ∃ (KI FR TO : Int) (ID AS OF : Nat) (TE : Int) (CN : Nat) (CO : Int) (FT : Int) (fa : Option Addr) (fn fc : Nat) (ts : List Fi.Str) (ga : Option Addr) (gn gc : Nat) (ms : List Int) (q : Qw) (qa : Option Addr) (qn qc : Nat) (ra : Option Addr) (rn rc : Nat) (sa : Option Addr) (sn sc : Nat) (va : Option Addr) (vn vc : Nat), (w'.rangeAt mb 0 [.int .i64 KI, .int .i64 FR, .int .i64 TO] ∧ (In64 KI ∧ In64 FR ∧ In64 TO)) ∧ (w'.rangeAt mb 3 [.int .u64 (ID : Int), .int .u64 (AS : Int), .int .u64 (OF : Int)] ∧ (InU ID ∧ InU AS ∧ InU OF)) ∧ (w'.rangeAt mb 6 [.int .i64 TE] ∧ (In64 TE)) ∧ (w'.rangeAt mb 7 [.int .u64 (CN : Int)] ∧ (InU CN)) ∧ (w'.rangeAt mb 8 [.int .i64 CO] ∧ (In64 CO)) ∧ (w'.rangeAt mb 9 [.int .i64 FT, .slice fa fn fc, .slice ga gn gc] ∧ (In64 FT ∧ (∀ t ∈ ts, t.length ≤ 1048576) ∧ (∀ x ∈ ms, In64 x)) ∧ Win V.heap.size w' (fun w => Lst 1 cl_str w (.slice fa fn fc) ts ∧ Lst 1 cl_i64 w (.slice ga gn gc) ms)) ∧ (w'.rangeAt mb 12 [.int .i64 q.F, .int .i64 q.T, .int .i64 q.t.k, .int .i64 q.t.d, .slice qa qn qc, .int .i64 q.t.lo, .int .i64 q.t.hi, .slice ra rn rc, .int .i64 q.g, .slice sa sn sc, .slice va vn vc, .int .i64 q.G, .int .i64 q.R] ∧ (q.t.tv = .slice qa qn qc ∧ q.t.kv = .slice ra rn rc ∧ q.sv = .slice sa sn sc ∧ q.av = .slice va vn vc) ∧ Win V.heap.size w' (fun w => q.Ok w)) ∧ Acc B R l mb V w' (F7 l) (((((((((ei KI ++ ei FR) ++ ei TO)) ++ ((Num.uv ID ++ Num.uv AS) ++ Num.uv OF)) ++ ei TE) ++ Num.uv CN) ++ ei CO) ++ (ei FT ++ (r_txt ts ++ (Num.uv ms.length ++ ms.flatMap ei)))) ++ r_query q)
/-- Behind 8 parts. -/
def GS8 (B R : Nat) (l : Bs) (mb : Nat) (V w' : World) : Prop := ∃ (KI FR TO : Int) (ID AS OF : Nat) (TE : Int) (CN : Nat) (CO : Int) (FT : Int) (fa : Option Addr) (fn fc : Nat) (ts : List Fi.Str) (ga : Option Addr) (gn gc : Nat) (ms : List Int) (q : Qw) (qa : Option Addr) (qn qc : Nat) (ra : Option Addr) (rn rc : Nat) (sa : Option Addr) (sn sc : Nat) (va : Option Addr) (vn vc : Nat) (y : Sg) (F T : Int), (w'.rangeAt mb 0 [.int .i64 KI, .int .i64 FR, .int .i64 TO] ∧ (In64 KI ∧ In64 FR ∧ In64 TO)) ∧ (w'.rangeAt mb 3 [.int .u64 (ID : Int), .int .u64 (AS : Int), .int .u64 (OF : Int)] ∧ (InU ID ∧ InU AS ∧ InU OF)) ∧ (w'.rangeAt mb 6 [.int .i64 TE] ∧ (In64 TE)) ∧ (w'.rangeAt mb 7 [.int .u64 (CN : Int)] ∧ (InU CN)) ∧ (w'.rangeAt mb 8 [.int .i64 CO] ∧ (In64 CO)) ∧ (w'.rangeAt mb 9 [.int .i64 FT, .slice fa fn fc, .slice ga gn gc] ∧ (In64 FT ∧ (∀ t ∈ ts, t.length ≤ 1048576) ∧ (∀ x ∈ ms, In64 x)) ∧ Win V.heap.size w' (fun w => Lst 1 cl_str w (.slice fa fn fc) ts ∧ Lst 1 cl_i64 w (.slice ga gn gc) ms)) ∧ (w'.rangeAt mb 12 [.int .i64 q.F, .int .i64 q.T, .int .i64 q.t.k, .int .i64 q.t.d, .slice qa qn qc, .int .i64 q.t.lo, .int .i64 q.t.hi, .slice ra rn rc, .int .i64 q.g, .slice sa sn sc, .slice va vn vc, .int .i64 q.G, .int .i64 q.R] ∧ (q.t.tv = .slice qa qn qc ∧ q.t.kv = .slice ra rn rc ∧ q.sv = .slice sa sn sc ∧ q.av = .slice va vn vc) ∧ Win V.heap.size w' (fun w => q.Ok w)) ∧ (w'.rangeAt mb 25 [.int .i64 y.F, .int .i64 y.T, .int .i64 y.V, .int .i64 y.P, .int .i64 y.C, .int .i64 F, .int .i64 T] ∧ (y.In ∧ In64 F ∧ In64 T)) ∧ Acc B R l mb V w' (F8 l) ((((((((((ei KI ++ ei FR) ++ ei TO)) ++ ((Num.uv ID ++ Num.uv AS) ++ Num.uv OF)) ++ ei TE) ++ Num.uv CN) ++ ei CO) ++ (ei FT ++ (r_txt ts ++ (Num.uv ms.length ++ ms.flatMap ei)))) ++ r_query q) ++ (r_seg y ++ r_span F T))
/-- Behind 9 parts. -/
def GS9 (B R : Nat) (l : Bs) (mb : Nat) (V w' : World) : Prop := ∃ (KI FR TO : Int) (ID AS OF : Nat) (TE : Int) (CN : Nat) (CO : Int) (FT : Int) (fa : Option Addr) (fn fc : Nat) (ts : List Fi.Str) (ga : Option Addr) (gn gc : Nat) (ms : List Int) (q : Qw) (qa : Option Addr) (qn qc : Nat) (ra : Option Addr) (rn rc : Nat) (sa : Option Addr) (sn sc : Nat) (va : Option Addr) (vn vc : Nat) (y : Sg) (F T : Int) (od : Bool) (z : Sg) (nd : Int), (w'.rangeAt mb 0 [.int .i64 KI, .int .i64 FR, .int .i64 TO] ∧ (In64 KI ∧ In64 FR ∧ In64 TO)) ∧ (w'.rangeAt mb 3 [.int .u64 (ID : Int), .int .u64 (AS : Int), .int .u64 (OF : Int)] ∧ (InU ID ∧ InU AS ∧ InU OF)) ∧ (w'.rangeAt mb 6 [.int .i64 TE] ∧ (In64 TE)) ∧ (w'.rangeAt mb 7 [.int .u64 (CN : Int)] ∧ (InU CN)) ∧ (w'.rangeAt mb 8 [.int .i64 CO] ∧ (In64 CO)) ∧ (w'.rangeAt mb 9 [.int .i64 FT, .slice fa fn fc, .slice ga gn gc] ∧ (In64 FT ∧ (∀ t ∈ ts, t.length ≤ 1048576) ∧ (∀ x ∈ ms, In64 x)) ∧ Win V.heap.size w' (fun w => Lst 1 cl_str w (.slice fa fn fc) ts ∧ Lst 1 cl_i64 w (.slice ga gn gc) ms)) ∧ (w'.rangeAt mb 12 [.int .i64 q.F, .int .i64 q.T, .int .i64 q.t.k, .int .i64 q.t.d, .slice qa qn qc, .int .i64 q.t.lo, .int .i64 q.t.hi, .slice ra rn rc, .int .i64 q.g, .slice sa sn sc, .slice va vn vc, .int .i64 q.G, .int .i64 q.R] ∧ (q.t.tv = .slice qa qn qc ∧ q.t.kv = .slice ra rn rc ∧ q.sv = .slice sa sn sc ∧ q.av = .slice va vn vc) ∧ Win V.heap.size w' (fun w => q.Ok w)) ∧ (w'.rangeAt mb 25 [.int .i64 y.F, .int .i64 y.T, .int .i64 y.V, .int .i64 y.P, .int .i64 y.C, .int .i64 F, .int .i64 T] ∧ (y.In ∧ In64 F ∧ In64 T)) ∧ (w'.rangeAt mb 32 [.bool od, .int .i64 z.F, .int .i64 z.T, .int .i64 z.V, .int .i64 z.P, .int .i64 z.C, .int .i64 nd] ∧ (z.In ∧ In64 nd)) ∧ Acc B R l mb V w' (F9 l) (((((((((((ei KI ++ ei FR) ++ ei TO)) ++ ((Num.uv ID ++ Num.uv AS) ++ Num.uv OF)) ++ ei TE) ++ Num.uv CN) ++ ei CO) ++ (ei FT ++ (r_txt ts ++ (Num.uv ms.length ++ ms.flatMap ei)))) ++ r_query q) ++ (r_seg y ++ r_span F T)) ++ (eb od ++ (r_seg z ++ ei nd)))
/-- Behind 10 parts. -/
def GS10 (B R : Nat) (l : Bs) (mb : Nat) (V w' : World) : Prop := ∃ (KI FR TO : Int) (ID AS OF : Nat) (TE : Int) (CN : Nat) (CO : Int) (FT : Int) (fa : Option Addr) (fn fc : Nat) (ts : List Fi.Str) (ga : Option Addr) (gn gc : Nat) (ms : List Int) (q : Qw) (qa : Option Addr) (qn qc : Nat) (ra : Option Addr) (rn rc : Nat) (sa : Option Addr) (sn sc : Nat) (va : Option Addr) (vn vc : Nat) (y : Sg) (F T : Int) (od : Bool) (z : Sg) (nd : Int) (ya : Option Addr) (yn yc : Nat) (xs : List Sg), (w'.rangeAt mb 0 [.int .i64 KI, .int .i64 FR, .int .i64 TO] ∧ (In64 KI ∧ In64 FR ∧ In64 TO)) ∧ (w'.rangeAt mb 3 [.int .u64 (ID : Int), .int .u64 (AS : Int), .int .u64 (OF : Int)] ∧ (InU ID ∧ InU AS ∧ InU OF)) ∧ (w'.rangeAt mb 6 [.int .i64 TE] ∧ (In64 TE)) ∧ (w'.rangeAt mb 7 [.int .u64 (CN : Int)] ∧ (InU CN)) ∧ (w'.rangeAt mb 8 [.int .i64 CO] ∧ (In64 CO)) ∧ (w'.rangeAt mb 9 [.int .i64 FT, .slice fa fn fc, .slice ga gn gc] ∧ (In64 FT ∧ (∀ t ∈ ts, t.length ≤ 1048576) ∧ (∀ x ∈ ms, In64 x)) ∧ Win V.heap.size w' (fun w => Lst 1 cl_str w (.slice fa fn fc) ts ∧ Lst 1 cl_i64 w (.slice ga gn gc) ms)) ∧ (w'.rangeAt mb 12 [.int .i64 q.F, .int .i64 q.T, .int .i64 q.t.k, .int .i64 q.t.d, .slice qa qn qc, .int .i64 q.t.lo, .int .i64 q.t.hi, .slice ra rn rc, .int .i64 q.g, .slice sa sn sc, .slice va vn vc, .int .i64 q.G, .int .i64 q.R] ∧ (q.t.tv = .slice qa qn qc ∧ q.t.kv = .slice ra rn rc ∧ q.sv = .slice sa sn sc ∧ q.av = .slice va vn vc) ∧ Win V.heap.size w' (fun w => q.Ok w)) ∧ (w'.rangeAt mb 25 [.int .i64 y.F, .int .i64 y.T, .int .i64 y.V, .int .i64 y.P, .int .i64 y.C, .int .i64 F, .int .i64 T] ∧ (y.In ∧ In64 F ∧ In64 T)) ∧ (w'.rangeAt mb 32 [.bool od, .int .i64 z.F, .int .i64 z.T, .int .i64 z.V, .int .i64 z.P, .int .i64 z.C, .int .i64 nd] ∧ (z.In ∧ In64 nd)) ∧ (w'.rangeAt mb 39 [.slice ya yn yc] ∧ (∀ x ∈ xs, x.In) ∧ Win V.heap.size w' (fun w => Lst 5 cl_seg w (.slice ya yn yc) xs)) ∧ Acc B R l mb V w' (F10 l) ((((((((((((ei KI ++ ei FR) ++ ei TO)) ++ ((Num.uv ID ++ Num.uv AS) ++ Num.uv OF)) ++ ei TE) ++ Num.uv CN) ++ ei CO) ++ (ei FT ++ (r_txt ts ++ (Num.uv ms.length ++ ms.flatMap ei)))) ++ r_query q) ++ (r_seg y ++ r_span F T)) ++ (eb od ++ (r_seg z ++ ei nd))) ++ (Num.uv xs.length ++ xs.flatMap r_seg))
/-- Behind 11 parts. -/
def GS11 (B R : Nat) (l : Bs) (mb : Nat) (V w' : World) : Prop := ∃ (KI FR TO : Int) (ID AS OF : Nat) (TE : Int) (CN : Nat) (CO : Int) (FT : Int) (fa : Option Addr) (fn fc : Nat) (ts : List Fi.Str) (ga : Option Addr) (gn gc : Nat) (ms : List Int) (q : Qw) (qa : Option Addr) (qn qc : Nat) (ra : Option Addr) (rn rc : Nat) (sa : Option Addr) (sn sc : Nat) (va : Option Addr) (vn vc : Nat) (y : Sg) (F T : Int) (od : Bool) (z : Sg) (nd : Int) (ya : Option Addr) (yn yc : Nat) (xs : List Sg) (xa : Option Addr) (xn xc : Nat) (gs : List Gp), (w'.rangeAt mb 0 [.int .i64 KI, .int .i64 FR, .int .i64 TO] ∧ (In64 KI ∧ In64 FR ∧ In64 TO)) ∧ (w'.rangeAt mb 3 [.int .u64 (ID : Int), .int .u64 (AS : Int), .int .u64 (OF : Int)] ∧ (InU ID ∧ InU AS ∧ InU OF)) ∧ (w'.rangeAt mb 6 [.int .i64 TE] ∧ (In64 TE)) ∧ (w'.rangeAt mb 7 [.int .u64 (CN : Int)] ∧ (InU CN)) ∧ (w'.rangeAt mb 8 [.int .i64 CO] ∧ (In64 CO)) ∧ (w'.rangeAt mb 9 [.int .i64 FT, .slice fa fn fc, .slice ga gn gc] ∧ (In64 FT ∧ (∀ t ∈ ts, t.length ≤ 1048576) ∧ (∀ x ∈ ms, In64 x)) ∧ Win V.heap.size w' (fun w => Lst 1 cl_str w (.slice fa fn fc) ts ∧ Lst 1 cl_i64 w (.slice ga gn gc) ms)) ∧ (w'.rangeAt mb 12 [.int .i64 q.F, .int .i64 q.T, .int .i64 q.t.k, .int .i64 q.t.d, .slice qa qn qc, .int .i64 q.t.lo, .int .i64 q.t.hi, .slice ra rn rc, .int .i64 q.g, .slice sa sn sc, .slice va vn vc, .int .i64 q.G, .int .i64 q.R] ∧ (q.t.tv = .slice qa qn qc ∧ q.t.kv = .slice ra rn rc ∧ q.sv = .slice sa sn sc ∧ q.av = .slice va vn vc) ∧ Win V.heap.size w' (fun w => q.Ok w)) ∧ (w'.rangeAt mb 25 [.int .i64 y.F, .int .i64 y.T, .int .i64 y.V, .int .i64 y.P, .int .i64 y.C, .int .i64 F, .int .i64 T] ∧ (y.In ∧ In64 F ∧ In64 T)) ∧ (w'.rangeAt mb 32 [.bool od, .int .i64 z.F, .int .i64 z.T, .int .i64 z.V, .int .i64 z.P, .int .i64 z.C, .int .i64 nd] ∧ (z.In ∧ In64 nd)) ∧ (w'.rangeAt mb 39 [.slice ya yn yc] ∧ (∀ x ∈ xs, x.In) ∧ Win V.heap.size w' (fun w => Lst 5 cl_seg w (.slice ya yn yc) xs)) ∧ (w'.rangeAt mb 40 [.slice xa xn xc] ∧ (True) ∧ Win V.heap.size w' (fun w => Lst 4 cl_grp w (.slice xa xn xc) gs ∧ ∀ x ∈ gs, x.Ok w)) ∧ Acc B R l mb V w' (F11 l) (((((((((((((ei KI ++ ei FR) ++ ei TO)) ++ ((Num.uv ID ++ Num.uv AS) ++ Num.uv OF)) ++ ei TE) ++ Num.uv CN) ++ ei CO) ++ (ei FT ++ (r_txt ts ++ (Num.uv ms.length ++ ms.flatMap ei)))) ++ r_query q) ++ (r_seg y ++ r_span F T)) ++ (eb od ++ (r_seg z ++ ei nd))) ++ (Num.uv xs.length ++ xs.flatMap r_seg)) ++ (Num.uv gs.length ++ gs.flatMap r_grp))
theorem gs1 {B R : Nat} {l : Bs} {mb : Nat} {V w w' : World} (_ : R < V.heap.size) (_ : mb < V.heap.size) {ev : Ending} (hs : GS0 B R l mb V w) (h : Cp1 B R l mb w (F0 l (0, 0)).1 (F0 l (0, 0)).2 ev w') : GS1 B R l mb V w' ∧ ev = .returned (.tuple #[]) ∧ Stp0 R mb w w' := by
  have A := hs
  obtain ⟨KI, FR, TO, rfl, pr, st⟩ := h.out
  refine ⟨⟨KI, FR, TO, ⟨st.rg, pr⟩, ?_⟩, rfl, st.size, st.block⟩
  have hh := A.step (fwd_F0 l) (((fwd_u l).comp (fwd_u l)).comp (fwd_u l)) st
  exact hh
theorem gs0_ps {B R : Nat} {l : Bs} {mb : Nat} {V w : World} (hs : GS0 B R l mb V w) : PS B w R l (F0 l (0, 0)).1 (F0 l (0, 0)).2 ∧ w.there mb 0 41 ∧ V.heap.size ≤ w.heap.size := by
  have A := hs
  exact ⟨A.ps, A.th, A.size⟩
theorem gs2 {B R : Nat} {l : Bs} {mb : Nat} {V w w' : World} (_ : R < V.heap.size) (_ : mb < V.heap.size) {ev : Ending} (hs : GS1 B R l mb V w) (h : Cp2 B R l mb w (F1 l (0, 0)).1 (F1 l (0, 0)).2 ev w') : GS2 B R l mb V w' ∧ ev = .returned (.tuple #[]) ∧ Stp0 R mb w w' := by
  obtain ⟨KI, FR, TO, ⟨rg1, pr1⟩, A⟩ := hs
  obtain ⟨ID, AS, OF, rfl, pr, st⟩ := h.out
  refine ⟨⟨KI, FR, TO, ID, AS, OF, ⟨st.ap _ _ rg1 (.inl (by simp)), pr1⟩, ⟨st.rg, pr⟩, ?_⟩, rfl, st.size, st.block⟩
  have hh := A.step (fwd_F1 l) (((fwd_u l).comp (fwd_u l)).comp (fwd_u l)) st
  exact hh
theorem gs1_ps {B R : Nat} {l : Bs} {mb : Nat} {V w : World} (hs : GS1 B R l mb V w) : PS B w R l (F1 l (0, 0)).1 (F1 l (0, 0)).2 ∧ w.there mb 0 41 ∧ V.heap.size ≤ w.heap.size := by
  obtain ⟨KI, FR, TO, ⟨rg1, pr1⟩, A⟩ := hs
  exact ⟨A.ps, A.th, A.size⟩
theorem gs3 {B R : Nat} {l : Bs} {mb : Nat} {V w w' : World} (_ : R < V.heap.size) (_ : mb < V.heap.size) {ev : Ending} (hs : GS2 B R l mb V w) (h : Cp3 B R l mb w (F2 l (0, 0)).1 (F2 l (0, 0)).2 ev w') : GS3 B R l mb V w' ∧ ev = .returned (.tuple #[]) ∧ Stp0 R mb w w' := by
  obtain ⟨KI, FR, TO, ID, AS, OF, ⟨rg1, pr1⟩, ⟨rg2, pr2⟩, A⟩ := hs
  obtain ⟨TE, rfl, pr, st⟩ := h.out
  refine ⟨⟨KI, FR, TO, ID, AS, OF, TE, ⟨st.ap _ _ rg1 (.inl (by simp)), pr1⟩, ⟨st.ap _ _ rg2 (.inl (by simp)), pr2⟩, ⟨st.rg, pr⟩, ?_⟩, rfl, st.size, st.block⟩
  have hh := A.step (fwd_F2 l) (fwd_u l) st
  exact hh
theorem gs2_ps {B R : Nat} {l : Bs} {mb : Nat} {V w : World} (hs : GS2 B R l mb V w) : PS B w R l (F2 l (0, 0)).1 (F2 l (0, 0)).2 ∧ w.there mb 0 41 ∧ V.heap.size ≤ w.heap.size := by
  obtain ⟨KI, FR, TO, ID, AS, OF, ⟨rg1, pr1⟩, ⟨rg2, pr2⟩, A⟩ := hs
  exact ⟨A.ps, A.th, A.size⟩
theorem gs4 {B R : Nat} {l : Bs} {mb : Nat} {V w w' : World} (_ : R < V.heap.size) (_ : mb < V.heap.size) {ev : Ending} (hs : GS3 B R l mb V w) (h : Cp4 B R l mb w (F3 l (0, 0)).1 (F3 l (0, 0)).2 ev w') : GS4 B R l mb V w' ∧ ev = .returned (.tuple #[]) ∧ Stp0 R mb w w' := by
  obtain ⟨KI, FR, TO, ID, AS, OF, TE, ⟨rg1, pr1⟩, ⟨rg2, pr2⟩, ⟨rg3, pr3⟩, A⟩ := hs
  obtain ⟨CN, rfl, pr, st⟩ := h.out
  refine ⟨⟨KI, FR, TO, ID, AS, OF, TE, CN, ⟨st.ap _ _ rg1 (.inl (by simp)), pr1⟩, ⟨st.ap _ _ rg2 (.inl (by simp)), pr2⟩, ⟨st.ap _ _ rg3 (.inl (by simp)), pr3⟩, ⟨st.rg, pr⟩, ?_⟩, rfl, st.size, st.block⟩
  have hh := A.step (fwd_F3 l) (fwd_u l) st
  exact hh
theorem gs3_ps {B R : Nat} {l : Bs} {mb : Nat} {V w : World} (hs : GS3 B R l mb V w) : PS B w R l (F3 l (0, 0)).1 (F3 l (0, 0)).2 ∧ w.there mb 0 41 ∧ V.heap.size ≤ w.heap.size := by
  obtain ⟨KI, FR, TO, ID, AS, OF, TE, ⟨rg1, pr1⟩, ⟨rg2, pr2⟩, ⟨rg3, pr3⟩, A⟩ := hs
  exact ⟨A.ps, A.th, A.size⟩
theorem gs5 {B R : Nat} {l : Bs} {mb : Nat} {V w w' : World} (_ : R < V.heap.size) (_ : mb < V.heap.size) {ev : Ending} (hs : GS4 B R l mb V w) (h : Cp5 B R l mb w (F4 l (0, 0)).1 (F4 l (0, 0)).2 ev w') : GS5 B R l mb V w' ∧ ev = .returned (.tuple #[]) ∧ Stp0 R mb w w' := by
  obtain ⟨KI, FR, TO, ID, AS, OF, TE, CN, ⟨rg1, pr1⟩, ⟨rg2, pr2⟩, ⟨rg3, pr3⟩, ⟨rg4, pr4⟩, A⟩ := hs
  obtain ⟨CO, rfl, pr, st⟩ := h.out
  refine ⟨⟨KI, FR, TO, ID, AS, OF, TE, CN, CO, ⟨st.ap _ _ rg1 (.inl (by simp)), pr1⟩, ⟨st.ap _ _ rg2 (.inl (by simp)), pr2⟩, ⟨st.ap _ _ rg3 (.inl (by simp)), pr3⟩, ⟨st.ap _ _ rg4 (.inl (by simp)), pr4⟩, ⟨st.rg, pr⟩, ?_⟩, rfl, st.size, st.block⟩
  have hh := A.step (fwd_F4 l) (fwd_u l) st
  exact hh
theorem gs4_ps {B R : Nat} {l : Bs} {mb : Nat} {V w : World} (hs : GS4 B R l mb V w) : PS B w R l (F4 l (0, 0)).1 (F4 l (0, 0)).2 ∧ w.there mb 0 41 ∧ V.heap.size ≤ w.heap.size := by
  obtain ⟨KI, FR, TO, ID, AS, OF, TE, CN, ⟨rg1, pr1⟩, ⟨rg2, pr2⟩, ⟨rg3, pr3⟩, ⟨rg4, pr4⟩, A⟩ := hs
  exact ⟨A.ps, A.th, A.size⟩
theorem gs6 {B R : Nat} {l : Bs} {mb : Nat} {V w w' : World} (_ : R < V.heap.size) (_ : mb < V.heap.size) {ev : Ending} (hs : GS5 B R l mb V w) (h : Cp6 B R l mb w (F5 l (0, 0)).1 (F5 l (0, 0)).2 ev w') : GS6 B R l mb V w' ∧ ev = .returned (.tuple #[]) ∧ Stp0 R mb w w' := by
  obtain ⟨KI, FR, TO, ID, AS, OF, TE, CN, CO, ⟨rg1, pr1⟩, ⟨rg2, pr2⟩, ⟨rg3, pr3⟩, ⟨rg4, pr4⟩, ⟨rg5, pr5⟩, A⟩ := hs
  obtain ⟨FT, fa, fn, fc, ts, ga, gn, gc, ms, rfl, p1, p2, p3, wn, st⟩ := h.out
  refine ⟨⟨KI, FR, TO, ID, AS, OF, TE, CN, CO, FT, fa, fn, fc, ts, ga, gn, gc, ms, ⟨st.ap _ _ rg1 (.inl (by simp)), pr1⟩, ⟨st.ap _ _ rg2 (.inl (by simp)), pr2⟩, ⟨st.ap _ _ rg3 (.inl (by simp)), pr3⟩, ⟨st.ap _ _ rg4 (.inl (by simp)), pr4⟩, ⟨st.ap _ _ rg5 (.inl (by simp)), pr5⟩, ⟨st.rg, ⟨p1, p2, p3⟩, wn.mono A.size⟩, ?_⟩, rfl, st.size, st.block⟩
  have hh := A.step (fwd_F5 l) (fwd_fact l) st
  exact hh
theorem gs5_ps {B R : Nat} {l : Bs} {mb : Nat} {V w : World} (hs : GS5 B R l mb V w) : PS B w R l (F5 l (0, 0)).1 (F5 l (0, 0)).2 ∧ w.there mb 0 41 ∧ V.heap.size ≤ w.heap.size := by
  obtain ⟨KI, FR, TO, ID, AS, OF, TE, CN, CO, ⟨rg1, pr1⟩, ⟨rg2, pr2⟩, ⟨rg3, pr3⟩, ⟨rg4, pr4⟩, ⟨rg5, pr5⟩, A⟩ := hs
  exact ⟨A.ps, A.th, A.size⟩
theorem gs7 {B R : Nat} {l : Bs} {mb : Nat} {V w w' : World} (hR2 : R < V.heap.size) (hm2 : mb < V.heap.size) {ev : Ending} (hs : GS6 B R l mb V w) (h : Cp7 B R l mb w (F6 l (0, 0)).1 (F6 l (0, 0)).2 ev w') : GS7 B R l mb V w' ∧ ev = .returned (.tuple #[]) ∧ Stp0 R mb w w' := by
  obtain ⟨KI, FR, TO, ID, AS, OF, TE, CN, CO, FT, fa, fn, fc, ts, ga, gn, gc, ms, ⟨rg1, pr1⟩, ⟨rg2, pr2⟩, ⟨rg3, pr3⟩, ⟨rg4, pr4⟩, ⟨rg5, pr5⟩, ⟨rg6, pr6, wn6⟩, A⟩ := hs
  obtain ⟨q, qa, qn, qc, ra, rn, rc, sa, sn, sc, va, vn, vc, rfl, p1, p2, p3, p4, wn, st⟩ := h.out
  refine ⟨⟨KI, FR, TO, ID, AS, OF, TE, CN, CO, FT, fa, fn, fc, ts, ga, gn, gc, ms, q, qa, qn, qc, ra, rn, rc, sa, sn, sc, va, vn, vc, ⟨st.ap _ _ rg1 (.inl (by simp)), pr1⟩, ⟨st.ap _ _ rg2 (.inl (by simp)), pr2⟩, ⟨st.ap _ _ rg3 (.inl (by simp)), pr3⟩, ⟨st.ap _ _ rg4 (.inl (by simp)), pr4⟩, ⟨st.ap _ _ rg5 (.inl (by simp)), pr5⟩, ⟨st.ap _ _ rg6 (.inl (by simp)), pr6, st.win wn6 hR2 hm2⟩, ⟨st.rg, ⟨p1, p2, p3, p4⟩, wn.mono A.size⟩, ?_⟩, rfl, st.size, st.block⟩
  have hh := A.step (fwd_F6 l) (fwd_query l) st
  exact hh
theorem gs6_ps {B R : Nat} {l : Bs} {mb : Nat} {V w : World} (hs : GS6 B R l mb V w) : PS B w R l (F6 l (0, 0)).1 (F6 l (0, 0)).2 ∧ w.there mb 0 41 ∧ V.heap.size ≤ w.heap.size := by
  obtain ⟨KI, FR, TO, ID, AS, OF, TE, CN, CO, FT, fa, fn, fc, ts, ga, gn, gc, ms, ⟨rg1, pr1⟩, ⟨rg2, pr2⟩, ⟨rg3, pr3⟩, ⟨rg4, pr4⟩, ⟨rg5, pr5⟩, ⟨rg6, pr6, wn6⟩, A⟩ := hs
  exact ⟨A.ps, A.th, A.size⟩
theorem gs8 {B R : Nat} {l : Bs} {mb : Nat} {V w w' : World} (hR2 : R < V.heap.size) (hm2 : mb < V.heap.size) {ev : Ending} (hs : GS7 B R l mb V w) (h : Cp8 B R l mb w (F7 l (0, 0)).1 (F7 l (0, 0)).2 ev w') : GS8 B R l mb V w' ∧ ev = .returned (.tuple #[]) ∧ Stp0 R mb w w' := by
  obtain ⟨KI, FR, TO, ID, AS, OF, TE, CN, CO, FT, fa, fn, fc, ts, ga, gn, gc, ms, q, qa, qn, qc, ra, rn, rc, sa, sn, sc, va, vn, vc, ⟨rg1, pr1⟩, ⟨rg2, pr2⟩, ⟨rg3, pr3⟩, ⟨rg4, pr4⟩, ⟨rg5, pr5⟩, ⟨rg6, pr6, wn6⟩, ⟨rg7, pr7, wn7⟩, A⟩ := hs
  obtain ⟨y, F, T, rfl, p1, p2, p3, st⟩ := h.out
  refine ⟨⟨KI, FR, TO, ID, AS, OF, TE, CN, CO, FT, fa, fn, fc, ts, ga, gn, gc, ms, q, qa, qn, qc, ra, rn, rc, sa, sn, sc, va, vn, vc, y, F, T, ⟨st.ap _ _ rg1 (.inl (by simp)), pr1⟩, ⟨st.ap _ _ rg2 (.inl (by simp)), pr2⟩, ⟨st.ap _ _ rg3 (.inl (by simp)), pr3⟩, ⟨st.ap _ _ rg4 (.inl (by simp)), pr4⟩, ⟨st.ap _ _ rg5 (.inl (by simp)), pr5⟩, ⟨st.ap _ _ rg6 (.inl (by simp)), pr6, st.win wn6 hR2 hm2⟩, ⟨st.ap _ _ rg7 (.inl (by simp)), pr7, st.win wn7 hR2 hm2⟩, ⟨st.rg, ⟨p1, p2, p3⟩⟩, ?_⟩, rfl, st.size, st.block⟩
  have hh := A.step (fwd_F7 l) ((fwd_seg l).comp (fwd_span l)) st
  exact hh
theorem gs7_ps {B R : Nat} {l : Bs} {mb : Nat} {V w : World} (hs : GS7 B R l mb V w) : PS B w R l (F7 l (0, 0)).1 (F7 l (0, 0)).2 ∧ w.there mb 0 41 ∧ V.heap.size ≤ w.heap.size := by
  obtain ⟨KI, FR, TO, ID, AS, OF, TE, CN, CO, FT, fa, fn, fc, ts, ga, gn, gc, ms, q, qa, qn, qc, ra, rn, rc, sa, sn, sc, va, vn, vc, ⟨rg1, pr1⟩, ⟨rg2, pr2⟩, ⟨rg3, pr3⟩, ⟨rg4, pr4⟩, ⟨rg5, pr5⟩, ⟨rg6, pr6, wn6⟩, ⟨rg7, pr7, wn7⟩, A⟩ := hs
  exact ⟨A.ps, A.th, A.size⟩
theorem gs9 {B R : Nat} {l : Bs} {mb : Nat} {V w w' : World} (hR2 : R < V.heap.size) (hm2 : mb < V.heap.size) {ev : Ending} (hs : GS8 B R l mb V w) (h : Cp9 B R l mb w (F8 l (0, 0)).1 (F8 l (0, 0)).2 ev w') : GS9 B R l mb V w' ∧ ev = .returned (.tuple #[]) ∧ Stp0 R mb w w' := by
  obtain ⟨KI, FR, TO, ID, AS, OF, TE, CN, CO, FT, fa, fn, fc, ts, ga, gn, gc, ms, q, qa, qn, qc, ra, rn, rc, sa, sn, sc, va, vn, vc, y, F, T, ⟨rg1, pr1⟩, ⟨rg2, pr2⟩, ⟨rg3, pr3⟩, ⟨rg4, pr4⟩, ⟨rg5, pr5⟩, ⟨rg6, pr6, wn6⟩, ⟨rg7, pr7, wn7⟩, ⟨rg8, pr8⟩, A⟩ := hs
  obtain ⟨od, z, nd, rfl, p1, p2, st⟩ := h.out
  refine ⟨⟨KI, FR, TO, ID, AS, OF, TE, CN, CO, FT, fa, fn, fc, ts, ga, gn, gc, ms, q, qa, qn, qc, ra, rn, rc, sa, sn, sc, va, vn, vc, y, F, T, od, z, nd, ⟨st.ap _ _ rg1 (.inl (by simp)), pr1⟩, ⟨st.ap _ _ rg2 (.inl (by simp)), pr2⟩, ⟨st.ap _ _ rg3 (.inl (by simp)), pr3⟩, ⟨st.ap _ _ rg4 (.inl (by simp)), pr4⟩, ⟨st.ap _ _ rg5 (.inl (by simp)), pr5⟩, ⟨st.ap _ _ rg6 (.inl (by simp)), pr6, st.win wn6 hR2 hm2⟩, ⟨st.ap _ _ rg7 (.inl (by simp)), pr7, st.win wn7 hR2 hm2⟩, ⟨st.ap _ _ rg8 (.inl (by simp)), pr8⟩, ⟨st.rg, ⟨p1, p2⟩⟩, ?_⟩, rfl, st.size, st.block⟩
  have hh := A.step (fwd_F8 l) (((fwd_b l).comp (fwd_seg l)).comp (fwd_u l)) st
  exact hh
theorem gs8_ps {B R : Nat} {l : Bs} {mb : Nat} {V w : World} (hs : GS8 B R l mb V w) : PS B w R l (F8 l (0, 0)).1 (F8 l (0, 0)).2 ∧ w.there mb 0 41 ∧ V.heap.size ≤ w.heap.size := by
  obtain ⟨KI, FR, TO, ID, AS, OF, TE, CN, CO, FT, fa, fn, fc, ts, ga, gn, gc, ms, q, qa, qn, qc, ra, rn, rc, sa, sn, sc, va, vn, vc, y, F, T, ⟨rg1, pr1⟩, ⟨rg2, pr2⟩, ⟨rg3, pr3⟩, ⟨rg4, pr4⟩, ⟨rg5, pr5⟩, ⟨rg6, pr6, wn6⟩, ⟨rg7, pr7, wn7⟩, ⟨rg8, pr8⟩, A⟩ := hs
  exact ⟨A.ps, A.th, A.size⟩
theorem gs10 {B R : Nat} {l : Bs} {mb : Nat} {V w w' : World} (hR2 : R < V.heap.size) (hm2 : mb < V.heap.size) {ev : Ending} (hs : GS9 B R l mb V w) (h : Cp10 B R l mb w (F9 l (0, 0)).1 (F9 l (0, 0)).2 ev w') : GS10 B R l mb V w' ∧ ev = .returned (.tuple #[]) ∧ Stp0 R mb w w' := by
  obtain ⟨KI, FR, TO, ID, AS, OF, TE, CN, CO, FT, fa, fn, fc, ts, ga, gn, gc, ms, q, qa, qn, qc, ra, rn, rc, sa, sn, sc, va, vn, vc, y, F, T, od, z, nd, ⟨rg1, pr1⟩, ⟨rg2, pr2⟩, ⟨rg3, pr3⟩, ⟨rg4, pr4⟩, ⟨rg5, pr5⟩, ⟨rg6, pr6, wn6⟩, ⟨rg7, pr7, wn7⟩, ⟨rg8, pr8⟩, ⟨rg9, pr9⟩, A⟩ := hs
  obtain ⟨ya, yn, yc, xs, rfl, pr, wn, st⟩ := h.out
  refine ⟨⟨KI, FR, TO, ID, AS, OF, TE, CN, CO, FT, fa, fn, fc, ts, ga, gn, gc, ms, q, qa, qn, qc, ra, rn, rc, sa, sn, sc, va, vn, vc, y, F, T, od, z, nd, ya, yn, yc, xs, ⟨st.ap _ _ rg1 (.inl (by simp)), pr1⟩, ⟨st.ap _ _ rg2 (.inl (by simp)), pr2⟩, ⟨st.ap _ _ rg3 (.inl (by simp)), pr3⟩, ⟨st.ap _ _ rg4 (.inl (by simp)), pr4⟩, ⟨st.ap _ _ rg5 (.inl (by simp)), pr5⟩, ⟨st.ap _ _ rg6 (.inl (by simp)), pr6, st.win wn6 hR2 hm2⟩, ⟨st.ap _ _ rg7 (.inl (by simp)), pr7, st.win wn7 hR2 hm2⟩, ⟨st.ap _ _ rg8 (.inl (by simp)), pr8⟩, ⟨st.ap _ _ rg9 (.inl (by simp)), pr9⟩, ⟨st.rg, pr, wn.mono A.size⟩, ?_⟩, rfl, st.size, st.block⟩
  have hh := A.step (fwd_F9 l) (fwd_l (fwd_seg l)) st
  exact hh
theorem gs9_ps {B R : Nat} {l : Bs} {mb : Nat} {V w : World} (hs : GS9 B R l mb V w) : PS B w R l (F9 l (0, 0)).1 (F9 l (0, 0)).2 ∧ w.there mb 0 41 ∧ V.heap.size ≤ w.heap.size := by
  obtain ⟨KI, FR, TO, ID, AS, OF, TE, CN, CO, FT, fa, fn, fc, ts, ga, gn, gc, ms, q, qa, qn, qc, ra, rn, rc, sa, sn, sc, va, vn, vc, y, F, T, od, z, nd, ⟨rg1, pr1⟩, ⟨rg2, pr2⟩, ⟨rg3, pr3⟩, ⟨rg4, pr4⟩, ⟨rg5, pr5⟩, ⟨rg6, pr6, wn6⟩, ⟨rg7, pr7, wn7⟩, ⟨rg8, pr8⟩, ⟨rg9, pr9⟩, A⟩ := hs
  exact ⟨A.ps, A.th, A.size⟩
theorem gs11 {B R : Nat} {l : Bs} {mb : Nat} {V w w' : World} (hR2 : R < V.heap.size) (hm2 : mb < V.heap.size) {ev : Ending} (hs : GS10 B R l mb V w) (h : Cp11 B R l mb w (F10 l (0, 0)).1 (F10 l (0, 0)).2 ev w') : GS11 B R l mb V w' ∧ ev = .returned (.tuple #[]) ∧ Stp0 R mb w w' := by
  obtain ⟨KI, FR, TO, ID, AS, OF, TE, CN, CO, FT, fa, fn, fc, ts, ga, gn, gc, ms, q, qa, qn, qc, ra, rn, rc, sa, sn, sc, va, vn, vc, y, F, T, od, z, nd, ya, yn, yc, xs, ⟨rg1, pr1⟩, ⟨rg2, pr2⟩, ⟨rg3, pr3⟩, ⟨rg4, pr4⟩, ⟨rg5, pr5⟩, ⟨rg6, pr6, wn6⟩, ⟨rg7, pr7, wn7⟩, ⟨rg8, pr8⟩, ⟨rg9, pr9⟩, ⟨rg10, pr10, wn10⟩, A⟩ := hs
  obtain ⟨xa, xn, xc, gs, rfl, wn, st⟩ := h.out
  refine ⟨⟨KI, FR, TO, ID, AS, OF, TE, CN, CO, FT, fa, fn, fc, ts, ga, gn, gc, ms, q, qa, qn, qc, ra, rn, rc, sa, sn, sc, va, vn, vc, y, F, T, od, z, nd, ya, yn, yc, xs, xa, xn, xc, gs, ⟨st.ap _ _ rg1 (.inl (by simp)), pr1⟩, ⟨st.ap _ _ rg2 (.inl (by simp)), pr2⟩, ⟨st.ap _ _ rg3 (.inl (by simp)), pr3⟩, ⟨st.ap _ _ rg4 (.inl (by simp)), pr4⟩, ⟨st.ap _ _ rg5 (.inl (by simp)), pr5⟩, ⟨st.ap _ _ rg6 (.inl (by simp)), pr6, st.win wn6 hR2 hm2⟩, ⟨st.ap _ _ rg7 (.inl (by simp)), pr7, st.win wn7 hR2 hm2⟩, ⟨st.ap _ _ rg8 (.inl (by simp)), pr8⟩, ⟨st.ap _ _ rg9 (.inl (by simp)), pr9⟩, ⟨st.ap _ _ rg10 (.inl (by simp)), pr10, st.win wn10 hR2 hm2⟩, ⟨st.rg, trivial, wn.mono A.size⟩, ?_⟩, rfl, st.size, st.block⟩
  have hh := A.step (fwd_F10 l) (fwd_l (fwd_grp l)) st
  exact hh
theorem gs10_ps {B R : Nat} {l : Bs} {mb : Nat} {V w : World} (hs : GS10 B R l mb V w) : PS B w R l (F10 l (0, 0)).1 (F10 l (0, 0)).2 ∧ w.there mb 0 41 ∧ V.heap.size ≤ w.heap.size := by
  obtain ⟨KI, FR, TO, ID, AS, OF, TE, CN, CO, FT, fa, fn, fc, ts, ga, gn, gc, ms, q, qa, qn, qc, ra, rn, rc, sa, sn, sc, va, vn, vc, y, F, T, od, z, nd, ya, yn, yc, xs, ⟨rg1, pr1⟩, ⟨rg2, pr2⟩, ⟨rg3, pr3⟩, ⟨rg4, pr4⟩, ⟨rg5, pr5⟩, ⟨rg6, pr6, wn6⟩, ⟨rg7, pr7, wn7⟩, ⟨rg8, pr8⟩, ⟨rg9, pr9⟩, ⟨rg10, pr10, wn10⟩, A⟩ := hs
  exact ⟨A.ps, A.th, A.size⟩
end Go.Proofs.Ytpdlioidiobbbaa
