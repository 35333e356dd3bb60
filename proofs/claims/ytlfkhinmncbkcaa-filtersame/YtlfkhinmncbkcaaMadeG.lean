/- What a filter turned is. -/
import Derived.Test.YtlfkhinmncbkcaaMadeF
namespace Go.Proofs.Ytlfkhinmncbkcaa
open Go.RowKit Go.Sort

theorem RdsT.keep {B : Nat} {w w' : World} (hk : Keeps B w w') {v : Value} {l : List Tr} (hv : vfrom B v) (hf : ∀ t ∈ l, t.From B) (h : RdsT w v l) : RdsT w' v l :=
  ⟨h.r.keep hk hv, fun t ht => (h.ok t ht).keep hk (hf t ht)⟩
theorem own_rt {w : World} {t : Tr} (h : t.Ok w) : Rds w t.own.tv (sv t.own.ts) := by
  unfold Tr.own
  split
  · exact h.rt
  · split
    · exact Rds.nil w
    · exact Rds.nil w
theorem own_len {t : Tr} (h : t.Lim) : t.own.ts.length * 16 ≤ 140737488351232 := by
  unfold Tr.own
  split
  · exact h.len
  · split
    · show 0 * 16 ≤ _; omega
    · show 0 * 16 ≤ _; omega
theorem own_kv (t : Tr) : t.own.kv = sn := by
  unfold Tr.own
  split
  · rfl
  · split <;> rfl
theorem own_ks (t : Tr) : t.own.ks = [] := by
  unfold Tr.own
  split
  · rfl
  · split <;> rfl
def leafT (o : Tr) (v : Value) : Tr := .mk o.k o.d v o.ts o.lo o.hi sn []
theorem leafT_er (t : Tr) (v : Value) : (leafT t.own v).er = t.own.er := by
  rw [Tr.er_eq, Tr.er_eq, own_ks]; rfl
theorem leafT_ok {w : World} {o : Tr} {v : Value} (h : Rds w v (sv o.ts)) : (leafT o v).Ok w := .mk h (RdsK.nil 6 w) fun _ h => by cases h
theorem leafT_from {B : Nat} {o : Tr} {v : Value} (h : vfrom B v) : (leafT o v).From B := .mk h (vfrom_nil B) fun _ h => by cases h
theorem turn_leaf {t : Tr} (h3 : t.k ≠ 3) (h4 : t.k ≠ 4) (hk : t.kids = []) (b : Bool) : t.turn b = if b then .mk 2 0 sn [] 0 0 sn [t.own.er] else t.own.er := by
  rw [t.turn_eq, hk]
  unfold turnE
  rw [if_neg (fun h => h.elim h3 h4)]
  rfl
theorem turn_not {t c : Tr} (h2 : t.k = 2) {r : List Tr} (hk : t.ks = c :: r) (b : Bool) : t.turn b = c.turn (!b) := by
  rw [t.turn_eq]
  unfold turnE Tr.kids
  rw [if_neg (by omega), if_pos h2, hk]
  rfl
theorem turn_and {t : Tr} (h : t.k = 3 ∨ t.k = 4) (b : Bool) : t.turn b = .mk (if b then 7 - t.k else t.k) 0 sn [] 0 0 sn (t.ks.map fun c => c.turn b) := by
  rw [t.turn_eq]
  have hk : t.kids = t.ks := by unfold Tr.kids; rw [if_neg (fun h2 => by rcases h with h | h <;> omega), if_pos h]
  unfold turnE
  rw [if_pos h, hk, List.map_map]
  rfl
theorem kids_none {t : Tr} (h2 : t.k ≠ 2) (h3 : t.k ≠ 3) (h4 : t.k ≠ 4) : t.kids = [] := by
  unfold Tr.kids
  rw [if_neg h2, if_neg (fun h => h.elim h3 h4)]
theorem not_tree {w : World} {K : Nat} {c : Tr} (h : RdsT w (.slice (some ⟨K, 0, none⟩) 1 1) [c]) : (Tr.mk 2 0 sn [] 0 0 (.slice (some ⟨K, 0, none⟩) 1 1) [c]).Ok w := .mk (Rds.nil w) h.r h.ok
theorem not_from {B K : Nat} {c : Tr} (hK : B ≤ K) (h : c.From B) : (Tr.mk 2 0 sn [] 0 0 (.slice (some ⟨K, 0, none⟩) 1 1) [c]).From B :=
  .mk (vfrom_nil B) (fun a n c e => by cases e; exact hK) fun d hd => by
    have : d = c := by simpa [Tr.ks] using hd
    rw [this]; exact h

end Go.Proofs.Ytlfkhinmncbkcaa
