/- Filters without their values, what a filter turned is, and trees that lie in new memory. No walk stands here. -/
import Derived.Test.YtlfkhinmncbkcaaFcx
namespace Go.Proofs.Ytlfkhinmncbkcaa
open Go.RowKit Go.Sort

theorem Grows.setCell {w W : World} (h : Grows w W) {a : Addr} (ha : w.heap.size ≤ a.block) (u : Value) : Grows w (W.setCell a u) := by
  obtain ⟨q, os, rfl⟩ := h
  refine ⟨q, ?_⟩
  unfold World.setCell grow
  simp only
  exact ⟨_, by rw [modify_append_right _ _ _ _ (show (w.drewN q).heap.size ≤ a.block from ha)]⟩

theorem ks_lt {t c : Tr} (h : c ∈ t.ks) : SizeOf.sizeOf c < SizeOf.sizeOf t := by
  have h1 := List.sizeOf_lt_of_mem h
  cases t with
  | mk k d tv ts lo hi kv ks => simp [Tr.ks] at h1; simp; omega
/-- Without its values. -/
def Tr.er (t : Tr) : Tr := .mk t.k t.d (.slice none 0 0) t.ts t.lo t.hi (.slice none 0 0) (t.ks.attach.map fun c => c.1.er)
termination_by SizeOf.sizeOf t
decreasing_by exact ks_lt c.2
theorem Tr.er_eq (t : Tr) : t.er = .mk t.k t.d (.slice none 0 0) t.ts t.lo t.hi (.slice none 0 0) (t.ks.map Tr.er) := by
  rw [Tr.er, List.attach_map_val (f := Tr.er)]
theorem er_k (t : Tr) : t.er.k = t.k := by rw [t.er_eq]; rfl
theorem er_d (t : Tr) : t.er.d = t.d := by rw [t.er_eq]; rfl
theorem er_ts (t : Tr) : t.er.ts = t.ts := by rw [t.er_eq]; rfl
theorem er_lo (t : Tr) : t.er.lo = t.lo := by rw [t.er_eq]; rfl
theorem er_hi (t : Tr) : t.er.hi = t.hi := by rw [t.er_eq]; rfl
theorem er_ks (t : Tr) : t.er.ks = t.ks.map Tr.er := by rw [t.er_eq]; rfl
theorem er_kids (t : Tr) : t.er.kids = t.kids.map Tr.er := by
  unfold Tr.kids
  rw [er_k, er_ks]
  split
  · rw [List.map_take]
  · split
    · rfl
    · rfl
/-- What hangs on a tree without its values. -/
theorem er_ind {P : Tr → Tr → Prop} (h : ∀ t : Tr, (∀ c ∈ t.kids, P c c.er) → P t t.er) (t : Tr) : P t t.er := by
  suffices k : ∀ N (t : Tr), SizeOf.sizeOf t < N → P t t.er from k _ t (Nat.lt_succ_self _)
  intro N
  induction N with
  | zero => intro t h; omega
  | succ N ih => intro t ht; exact h t fun c hc => ih c (by have := kids_lt hc; omega)
theorem er_sz (t : Tr) : t.er.sz = t.sz := by
  refine er_ind (P := fun t u => u.sz = t.sz) (fun t h => ?_) t
  rw [t.er.sz_eq, t.sz_eq, er_kids]
  unfold szL
  rw [List.map_map, show t.kids.map (Tr.sz ∘ Tr.er) = t.kids.map (Tr.sz) from List.map_congr_left fun c hc => h c hc]
theorem er_dp (t : Tr) : t.er.dp = t.dp := by
  refine er_ind (P := fun t u => u.dp = t.dp) (fun t h => ?_) t
  rw [t.er.dp_eq, t.dp_eq, er_kids]
  unfold dpL
  rw [List.map_map, show t.kids.map (Tr.dp ∘ Tr.er) = t.kids.map (Tr.dp) from List.map_congr_left fun c hc => h c hc]
theorem er_fit (D M : Int) (t : Tr) : t.er.fit D M = t.fit D M := by
  unfold Tr.fit
  rw [er_k, er_d, er_ts, er_ks, List.length_map]
theorem er_fitA (D M : Int) (t : Tr) : t.er.fitA D M = t.fitA D M := by
  refine er_ind (P := fun t u => u.fitA D M = t.fitA D M) (fun t h => ?_) t
  rw [t.er.fitA_eq, t.fitA_eq, er_kids, er_fit]
  unfold fitL
  rw [List.map_map, show t.kids.map ((Tr.fitA D M) ∘ Tr.er) = t.kids.map (Tr.fitA D M) from List.map_congr_left fun c hc => h c hc]
theorem er_may (D M : Int) (t : Tr) : t.er.may D M = t.may D M := by
  unfold Tr.may
  rw [er_sz, er_dp, er_fitA]

abbrev sn : Value := .slice none 0 0
/-- A part without its Kids and without what doesn't count; its texts' value stays. -/
def Tr.own (t : Tr) : Tr :=
  if t.k = 5 ∨ t.k = 6 ∨ t.k = 7 then .mk t.k t.d t.tv t.ts 0 0 sn []
  else if t.k = 8 then .mk t.k t.d sn [] t.lo t.hi sn []
  else .mk t.k 0 sn [] 0 0 sn []
def turnE (t : Tr) (fs : List (Bool → Tr)) (b : Bool) : Tr :=
  if t.k = 3 ∨ t.k = 4 then .mk (if b then 7 - t.k else t.k) 0 sn [] 0 0 sn (fs.map fun f => f b)
  else match fs with
    | f :: _ => f (!b)
    | [] => if b then .mk 2 0 sn [] 0 0 sn [t.own.er] else t.own.er
/-- The filter, turned or not. -/
def Tr.turn (t : Tr) : Bool → Tr := turnE t (t.kids.attach.map fun c => c.1.turn)
termination_by SizeOf.sizeOf t
decreasing_by exact kids_lt c.2
theorem Tr.turn_eq (t : Tr) : t.turn = turnE t (t.kids.map Tr.turn) := by
  rw [Tr.turn, List.attach_map_val (f := Tr.turn)]

/-- Its memory lies from B on. -/
def vfrom (B : Nat) (v : Value) : Prop := ∀ a n c, v = .slice (some a) n c → B ≤ a.block
inductive Tr.From (B : Nat) : Tr → Prop
  | mk {t : Tr} (ht : vfrom B t.tv) (hk : vfrom B t.kv) (h : ∀ c ∈ t.ks, Tr.From B c) : Tr.From B t
theorem vfrom.mono {B B' : Nat} (hB : B' ≤ B) {v : Value} (h : vfrom B v) : vfrom B' v := fun a n c e => Nat.le_trans hB (h a n c e)
theorem Tr.From.mono {B B' : Nat} (hB : B' ≤ B) {t : Tr} (h : t.From B) : t.From B' := by
  induction h with
  | mk ht hk _ ih => exact .mk (ht.mono hB) (hk.mono hB) ih
theorem vfrom_nil (B : Nat) : vfrom B sn := fun a n c e => by cases e
/-- The worlds are the same in the blocks from B on that there were. -/
def Keeps (B : Nat) (w w' : World) : Prop := ∀ k, B ≤ k → k < w.heap.size → w'.heap[k]? = w.heap[k]?
theorem cell_keep {B : Nat} {w w' : World} (hk : Keeps B w w') {a : Addr} {u : Value} (ha : B ≤ a.block) (h : w.cell? a = some u) : w'.cell? a = some u := by
  rw [World.cell?_of_block (w := w) (hk a.block ha (World.block_lt_of_cell? _ _ h))]
  exact h
theorem add_block (a : Addr) (j : Nat) : (a.add j).block = a.block := by
  unfold Addr.add
  split <;> rfl
theorem Rds.keep {B : Nat} {w w' : World} (hk : Keeps B w w') {v : Value} {xs : List Value} (hv : vfrom B v) (h : Rds w v xs) : Rds w' v xs := by
  obtain ⟨ao, cap, rfl, h1, h2, h3, h4⟩ := h
  refine ⟨ao, cap, rfl, h1, h2, h3, fun ad ha j u hj => ?_⟩
  subst ha
  exact cell_keep hk (by rw [add_block]; exact hv ad _ _ rfl) (h4 ad rfl j u hj)
theorem RdsK.keep {B k n : Nat} {w w' : World} (hk : Keeps B w w') {v : Value} {xs : List Value} (hv : vfrom B v) (h : RdsK k w v n xs) : RdsK k w' v n xs := by
  obtain ⟨ao, cap, rfl, h0, h1, h2, h3, h4⟩ := h
  refine ⟨ao, cap, rfl, h0, h1, h2, h3, fun ad ha j u hj => ?_⟩
  subst ha
  exact cell_keep hk (by rw [add_block]; exact hv ad _ _ rfl) (h4 ad rfl j u hj)
theorem Tr.Ok.keep {B : Nat} {w w' : World} (hk : Keeps B w w') {t : Tr} (h : t.Ok w) : t.From B → t.Ok w' := by
  induction h with
  | mk rt rk _ ih =>
    intro hf
    cases hf with
    | mk ht hkv hks => exact .mk (rt.keep hk ht) (rk.keep hk hkv) fun c hc => ih c hc (hks c hc)
end Go.Proofs.Ytlfkhinmncbkcaa
