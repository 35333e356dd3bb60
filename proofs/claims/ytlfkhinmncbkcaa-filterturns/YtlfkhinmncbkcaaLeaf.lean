/- The contract of the reference's leaf; trees that keep off some blocks. -/
import Derived.Test.YtlfkhinmncbkcaaTurnM
namespace Go.Proofs.Ytlfkhinmncbkcaa
open Go.RowKit Go.Sort

set_option maxHeartbeats 4000000 in
theorem leaf_any (w : World) (t : Tr) (h : t.Ok w) :
    Calls Try.prog 32 #[.agg #[.int .i64 t.k, .int .i64 t.d, t.tv, .int .i64 t.lo, .int .i64 t.hi, t.kv]] w fun e w' => e = .returned (.agg #[.int .i64 t.own.k, .int .i64 t.own.d, t.own.tv, .int .i64 t.own.lo, .int .i64 t.own.hi, t.own.kv]) ∧ Grows w w' := by
  obtain ⟨at', nt, ct, ak, nk, ck, e1, e2, -, -, -, -⟩ := h.lens
  have hv : t.own = if t.k = 5 ∨ t.k = 6 ∨ t.k = 7 then Tr.mk t.k t.d (.slice at' nt ct) t.ts 0 0 sn [] else if t.k = 8 then .mk t.k t.d sn [] t.lo t.hi sn [] else .mk t.k 0 sn [] 0 0 sn [] := by unfold Tr.own; rw [e1]
  rw [hv, e1, e2]
  clear hv e1 e2 h
  generalize t.k = k
  generalize t.d = d
  generalize t.lo = lo
  generalize t.hi = hi
  by_cases h5 : k = 5
  · rw [if_pos (.inl h5)]
    have c5 : (k == 5) = true := by simp [h5]
    clear h5
    go_enter Try.func32, Try.ntmps32
    go_wp2_with fail
    go_returns
    exact ⟨rfl, (Grows.alloc _ _).trans (Grows.alloc _ _)⟩
  · have c5 : (k == 5) = false := by simp [h5]
    by_cases h6 : k = 6
    · rw [if_pos (.inr (.inl h6))]
      have c6 : (k == 6) = true := by simp [h6]
      clear h5 h6
      go_enter Try.func32, Try.ntmps32
      go_wp2_with fail
      go_returns
      exact ⟨rfl, (Grows.alloc _ _).trans (Grows.alloc _ _)⟩
    · have c6 : (k == 6) = false := by simp [h6]
      by_cases h7 : k = 7
      · rw [if_pos (.inr (.inr h7))]
        have c7 : (k == 7) = true := by simp [h7]
        clear h5 h6 h7
        go_enter Try.func32, Try.ntmps32
        go_wp2_with fail
        go_returns
        exact ⟨rfl, (Grows.alloc _ _).trans (Grows.alloc _ _)⟩
      · have c7 : (k == 7) = false := by simp [h7]
        rw [if_neg (fun h => h.elim h5 fun h => h.elim h6 h7)]
        by_cases h8 : k = 8
        · rw [if_pos h8]
          have c8 : (k == 8) = true := by simp [h8]
          clear h5 h6 h7 h8
          go_enter Try.func32, Try.ntmps32
          go_wp2_with fail
          go_returns
          exact ⟨rfl, (Grows.alloc _ _).trans (Grows.alloc _ _)⟩
        · rw [if_neg h8]
          have c8 : (k == 8) = false := by simp [h8]
          clear h5 h6 h7 h8
          go_enter Try.func32, Try.ntmps32
          go_wp2_with fail
          go_returns
          exact ⟨rfl, (Grows.alloc _ _).trans (Grows.alloc _ _)⟩

/-- The blocks in which its slices lie are of this kind. -/
def vout (P : Nat → Prop) (v : Value) : Prop := ∀ a n c, v = .slice (some a) n c → 0 < n → P a.block
inductive Tr.Off (P : Nat → Prop) : Tr → Prop
  | mk {t : Tr} (ht : vout P t.tv) (hk : vout P t.kv) (h : ∀ c ∈ t.ks, Tr.Off P c) : Tr.Off P t
theorem Tr.Off.tv {P : Nat → Prop} {t : Tr} (h : t.Off P) : vout P t.tv := by cases h; assumption
theorem Tr.Off.kid {P : Nat → Prop} {t : Tr} (h : t.Off P) : ∀ c ∈ t.ks, c.Off P := by cases h; assumption
theorem vout.mono {P Q : Nat → Prop} (hp : ∀ k, P k → Q k) {v : Value} (h : vout P v) : vout Q v := fun a n c e h0 => hp _ (h a n c e h0)
theorem Tr.Off.mono {P Q : Nat → Prop} (hp : ∀ k, P k → Q k) {t : Tr} (h : t.Off P) : t.Off Q := by
  induction h with
  | mk ht hk _ ih => exact .mk (ht.mono hp) (hk.mono hp) ih
theorem vout_nil (P : Nat → Prop) : vout P sn := fun a n c e => by cases e
theorem Rds.lt {w : World} {v : Value} {xs : List Value} (h : Rds w v xs) : vout (· < w.heap.size) v := by
  obtain ⟨ao, cap, rfl, h1, h2, h3, h4⟩ := h
  intro a n c e h0
  simp only [Value.slice.injEq] at e
  obtain ⟨rfl, rfl, rfl⟩ := e
  have := World.block_lt_of_cell? _ _ (h4 a rfl 0 _ (List.getElem?_eq_getElem h0))
  rwa [add_block] at this
theorem RdsK.lt {w : World} {v : Value} {n : Nat} {xs : List Value} (h : RdsK 6 w v n xs) : vout (· < w.heap.size) v := by
  obtain ⟨ao, cap, rfl, h0, h1, h2, h3, h4⟩ := h
  intro a n' c e hp
  simp only [Value.slice.injEq] at e
  obtain ⟨rfl, rfl, rfl⟩ := e
  have := World.block_lt_of_cell? _ _ (h4 a rfl 0 _ (List.getElem?_eq_getElem (by omega)))
  rwa [add_block] at this
theorem Tr.Ok.off {w : World} {t : Tr} (h : t.Ok w) : t.Off (· < w.heap.size) := by
  induction h with
  | mk rt rk _ ih => exact .mk rt.lt rk.lt ih
theorem Tr.Off.both {P Q : Nat → Prop} {t : Tr} (h : t.Off P) : t.Off Q → t.Off fun k => P k ∧ Q k := by
  induction h with
  | mk ht hk _ ih =>
    intro hq
    cases hq with
    | mk ht' hk' hks => exact .mk (fun a n c e h0 => ⟨ht a n c e h0, ht' a n c e h0⟩) (fun a n c e h0 => ⟨hk a n c e h0, hk' a n c e h0⟩) fun c hc => ih c hc (hks c hc)
theorem Rds.keepP {P : Nat → Prop} {w w' : World} (hk : ∀ k, P k → k < w.heap.size → w'.heap[k]? = w.heap[k]?) {v : Value} {xs : List Value} (hv : vout P v) (h : Rds w v xs) : Rds w' v xs := by
  obtain ⟨ao, cap, rfl, h1, h2, h3, h4⟩ := h
  refine ⟨ao, cap, rfl, h1, h2, h3, fun ad ha j u hj => ?_⟩
  subst ha
  have hc := h4 ad rfl j u hj
  have hj' := (List.getElem?_eq_some_iff.1 hj).1
  rw [World.cell?_of_block (w := w) (hk _ (by rw [add_block]; exact hv ad _ _ rfl (by omega)) (World.block_lt_of_cell? _ _ hc))]
  exact hc
theorem RdsK.keepP {P : Nat → Prop} {n : Nat} {w w' : World} (hk : ∀ k, P k → k < w.heap.size → w'.heap[k]? = w.heap[k]?) {v : Value} {xs : List Value} (hv : vout P v) (h : RdsK 6 w v n xs) : RdsK 6 w' v n xs := by
  obtain ⟨ao, cap, rfl, h0, h1, h2, h3, h4⟩ := h
  refine ⟨ao, cap, rfl, h0, h1, h2, h3, fun ad ha j u hj => ?_⟩
  subst ha
  have hc := h4 ad rfl j u hj
  have hj' := (List.getElem?_eq_some_iff.1 hj).1
  rw [World.cell?_of_block (w := w) (hk _ (by rw [add_block]; exact hv ad _ _ rfl (by omega)) (World.block_lt_of_cell? _ _ hc))]
  exact hc
theorem Tr.Ok.keepP {P : Nat → Prop} {w w' : World} (hk : ∀ k, P k → k < w.heap.size → w'.heap[k]? = w.heap[k]?) {t : Tr} (h : t.Ok w) : t.Off P → t.Ok w' := by
  induction h with
  | mk rt rk _ ih =>
    intro hf
    cases hf with
    | mk ht hkv hks => exact .mk (rt.keepP hk ht) (rk.keepP hk hkv) fun c hc => ih c hc (hks c hc)
theorem own_off {P : Nat → Prop} {t : Tr} (h : t.Off P) : t.own.Off P := by
  refine .mk ?_ (by rw [own_kv]; exact vout_nil P) fun c hc => by rw [own_ks] at hc; cases hc
  unfold Tr.own
  split
  · exact h.tv
  · split
    · exact vout_nil P
    · exact vout_nil P
theorem own_ok {w : World} {t : Tr} (h : t.Ok w) : t.own.Ok w := .mk (own_rt h) (by rw [own_kv, own_ks]; exact RdsK.nil 6 w) fun c hc => by rw [own_ks] at hc; cases hc
/-- What the reference's Made promises of trees below N: of a tree that lies below B0, in a world that is greater. -/
def RMadeC (D M : Int) (B0 N : Nat) : Prop := ∀ t : Tr, SizeOf.sizeOf t < N → ∀ (b : Bool) (w : World), B0 ≤ w.heap.size → t.Ok w → t.Off (· < B0) → t.fitA D M = true → t.sz ≤ 1000 →
  Calls Try.prog 20 #[.agg #[.int .i64 t.k, .int .i64 t.d, t.tv, .int .i64 t.lo, .int .i64 t.hi, t.kv], .bool b] w fun e w' =>
    ∃ t' : Tr, e = .returned (.agg #[.int .i64 t'.k, .int .i64 t'.d, t'.tv, .int .i64 t'.lo, .int .i64 t'.hi, t'.kv]) ∧ t'.Ok w' ∧ t'.Off (fun k => k < B0 ∨ w.heap.size ≤ k) ∧ t'.er = t.turn b ∧ Below w.heap.size w w'
end Go.Proofs.Ytlfkhinmncbkcaa
