/- Contracts of the reference's Rollup and Cube. -/
import Derived.Test.YtiiihjihegilnaaGreatDoorQcc
namespace Go.Proofs.YtiiihjihegilnaaGreatDoor
open Go.RowKit Go.Sort

theorem OwS.mono {w : World} {base base' : Nat} {v : Value} {l : List St} (h : OwS w base v l) (hb : base' ≤ base) : OwS w base' v l := ⟨own_mono h.own hb, fun s hs => own_mono (h.each s hs) hb⟩
theorem OwS.addL {w w' : World} {base : Nat} {v v' : Value} {l m : List St} (h : OwS w base v l) (hs : ∀ s ∈ m, w.ownsRow base 3 1 s.1 s.2.length (iv s.2))
    (hg : w.grownBy w' v.ownBlock) (ho : w'.ownsRow base 55 1 v' (l.length + m.length) (l.map (·.1) ++ m.map (·.1))) : OwS w' base v' (l ++ m) := by
  refine ⟨by rw [List.length_append, List.map_append]; exact ho, fun x hx => ?_⟩
  have hk : w.ownsRow base 3 1 x.1 x.2.length (iv x.2) := (List.mem_append.1 hx).elim (h.each x) (hs x)
  exact own_grown hk hg fun g hgx => fun e => own_ne h.own hk (by decide) g e hgx
theorem rcub_len : ∀ d, (rcub d).length = 2 ^ d.length
  | [] => rfl
  | d :: r => by rw [rcub, List.length_append, List.length_map, rcub_len r, List.length_cons, Nat.pow_succ]; omega
theorem rcub_in : ∀ (d : List Int), ∀ s ∈ rcub d, s.length ≤ d.length
  | [], s, h => by simp [rcub] at h; subst h; simp
  | d :: r, s, h => by
    rw [rcub] at h
    rcases List.mem_append.1 h with h | h
    · obtain ⟨t, ht, rfl⟩ := List.mem_map.1 h
      have := rcub_in r t ht
      simp; omega
    · have := rcub_in r s h
      simp; omega
theorem St.ones (l : List St) {w : World} {base : Nat} (h : ∀ s ∈ l, w.ownsRow base 3 1 s.1 s.2.length (iv s.2)) : ∀ u ∈ l.map (·.1), u.oneCell' = true := fun u hu => by
  obtain ⟨s, hs, rfl⟩ := List.mem_map.1 hu
  obtain ⟨a, n, c, e⟩ := own_sl (h s hs)
  rw [e]; rfl
end Go.Proofs.YtiiihjihegilnaaGreatDoor
