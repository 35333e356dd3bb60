/- The reference's Made puts the Kids together: what holds behind each round. No walk stands here. -/
import Derived.Test.YtlfkhinmncbkcaaRMade
import Derived.Deep.AppendLies
import Derived.Deep.RegionLaw
import Derived.Deep.DeepCutAuto
namespace Go.Proofs.Ytlfkhinmncbkcaa
open Go.RowKit Go.Sort

structure MInv (B0 g2 : Nat) (K : Int) (b : Bool) (ks : List Tr) (W wr : World) (i : Nat) (l' : List Tr) (vk : Value) : Prop where
  len : l'.length = i
  own : wr.ownsRow (g2 + 1) 27 6 vk i (tvs l')
  box : wr.cell? ⟨g2, 0, none⟩ = some (.int .i64 K) ∧ wr.cell? ⟨g2, 1, none⟩ = some (.int .i64 0) ∧ wr.cell? ⟨g2, 2, none⟩ = some (.slice none 0 0) ∧ wr.cell? ⟨g2, 3, none⟩ = some (.int .i64 0) ∧ wr.cell? ⟨g2, 4, none⟩ = some (.int .i64 0) ∧ wr.cell? ⟨g2, 5, none⟩ = some vk
  frz : ∀ c, wr.frozen? ⟨g2, c, none⟩ = false
  ok : ∀ t ∈ l', t.Ok wr ∧ t.Off fun k => (k < B0 ∨ g2 + 1 ≤ k) ∧ vk.ownBlock ≠ some k
  er : l'.map Tr.er = (ks.take i).map fun c => c.turn b
  bel : Below g2 W wr
  sz : g2 < wr.heap.size
theorem ownBlock_in {w : World} {base e k n j : Nat} {v : Value} {xs : List Value} (h : w.ownsRow base e k v n xs) (hj : v.ownBlock = some j) : base ≤ j ∧ j < w.heap.size := by
  rcases h.2 with ⟨rfl, _⟩ | ⟨g, cap, cur, rfl, hb, hg, _⟩
  · simp [Value.ownBlock] at hj
  · have : g = j := by simpa [Value.ownBlock] using hj
    subst this
    exact ⟨hb, (Array.getElem?_eq_some_iff.1 hg).1⟩
theorem own_sl6 {w : World} {base e k n : Nat} {v : Value} {xs : List Value} (h : w.ownsRow base e k v n xs) : ∃ a m c, v = .slice a m c := by
  rcases h.2 with ⟨rfl, _⟩ | ⟨g, cap, cur, rfl, _⟩
  · exact ⟨_, _, _, rfl⟩
  · exact ⟨_, _, _, rfl⟩
theorem tvs_append (l m : List Tr) : tvs (l ++ m) = tvs l ++ tvs m := by simp [tvs]
theorem minv_step {B0 g2 i cap g : Nat} {K : Int} {b : Bool} {ks : List Tr} {W wr w6 w7 w8 : World} {l' : List Tr} {vk : Value} {t' : Tr} (hB : B0 ≤ g2) (h : MInv B0 g2 K b ks W wr i l' vk) (hi : i < ks.length)
    (b6 : Below wr.heap.size wr w6) (ok' : t'.Ok w6) (of' : t'.Off fun k => k < B0 ∨ wr.heap.size ≤ k) (er' : t'.er = ks[i].turn b) (o : Obj) (h7 : w7 = w6.alloc o)
    (hown8 : w8.ownsRow (g2 + 1) 27 6 (.slice (some ⟨g, 0, none⟩) (i + 1) cap) (i + 1) (tvs l' ++ tvs [t'])) (hgrow8 : w7.grownBy w8 vk.ownBlock) (hat : vk.ownBlock = some g ∨ g = w7.heap.size) :
    MInv B0 g2 K b ks W (w8.setCell ⟨g2, 5, none⟩ (.slice (some ⟨g, 0, none⟩) (i + 1) cap)) (i + 1) (l' ++ [t']) (.slice (some ⟨g, 0, none⟩) (i + 1) cap) := by
  have s6 := b6.size
  have s7 : w7.heap.size = w6.heap.size + 1 := by rw [h7]; simp
  have s8 := hgrow8.size
  have hsz := h.sz
  have e6 : ∀ k, k < w6.heap.size → vk.ownBlock ≠ some k → w8.heap[k]? = w6.heap[k]? := fun k hk hne => by
    rw [hgrow8.block k (by omega) (fun e => hne (by simpa using e.symm)), h7, Below.heap_alloc _ _ _ hk]
  have eR : ∀ k, k < wr.heap.size → vk.ownBlock ≠ some k → w8.heap[k]? = wr.heap[k]? := fun k hk hne => by rw [e6 k (by omega) hne, b6.block k hk]
  have hn2 : vk.ownBlock ≠ some g2 := fun e => by have := (ownBlock_in h.own e).1; omega
  have hb2 : w8.heap[g2]? = wr.heap[g2]? := eR g2 hsz hn2
  have c2 : ∀ c, w8.cell? ⟨g2, c, none⟩ = wr.cell? ⟨g2, c, none⟩ := fun c => World.cell?_of_block (w := wr) hb2
  obtain ⟨x0, x1, x2, x3, x4, x5⟩ := h.box
  have n5 : ∀ c, c ≠ 5 → (w8.setCell ⟨g2, 5, none⟩ (.slice (some ⟨g, 0, none⟩) (i + 1) cap)).cell? ⟨g2, c, none⟩ = w8.cell? ⟨g2, c, none⟩ := fun c hc => World.cell?_setCell_other _ _ _ _ (by intro e; simp only [Addr.mk.injEq] at e; omega)
  refine ⟨by simp [h.len], ?_, ⟨?_, ?_, ?_, ?_, ?_, ?_⟩, fun c => ?_, fun t ht => ?_, ?_, ?_, by simp; omega⟩
  · have := ownsRow_setCell_below hown8 (a := ⟨g2, 5, none⟩) (Nat.lt_succ_self g2) (.slice (some ⟨g, 0, none⟩) (i + 1) cap)
    rw [tvs_append]
    exact this
  · rw [n5 0 (by omega), c2]; exact x0
  · rw [n5 1 (by omega), c2]; exact x1
  · rw [n5 2 (by omega), c2]; exact x2
  · rw [n5 3 (by omega), c2]; exact x3
  · rw [n5 4 (by omega), c2]; exact x4
  · exact World.cell?_setCell_same _ _ _ (u := vk) (by rw [c2]; exact x5)
  · have e : (w8.setCell ⟨g2, 5, none⟩ (.slice (some ⟨g, 0, none⟩) (i + 1) cap)).frozen? ⟨g2, c, none⟩ = w8.frozen? ⟨g2, c, none⟩ := by simp
    rw [e, World.frozen?_of_block (w := wr) hb2]
    exact h.frz c
  · have hset : ∀ k, k ≠ g2 → (w8.setCell ⟨g2, 5, none⟩ (.slice (some ⟨g, 0, none⟩) (i + 1) cap)).heap[k]? = w8.heap[k]? := fun k hk => Below.heap_setCell _ _ _ _ hk
    rcases List.mem_append.1 ht with ht | ht
    · obtain ⟨k1, k2⟩ := h.ok t ht
      refine ⟨k1.keepP (P := fun k => (k < B0 ∨ g2 + 1 ≤ k) ∧ vk.ownBlock ≠ some k) (fun k hk hl => by rw [hset k (by omega), eR k hl hk.2]) k2, (k2.both k1.off).mono fun k hk => ⟨hk.1.1, ?_⟩⟩
      rcases hat with hat | hat
      · show some g ≠ some k
        rw [← hat]; exact hk.1.2
      · intro e
        have : g = k := by simpa [Value.ownBlock] using e
        have := hk.2
        omega
    · simp only [List.mem_singleton] at ht
      subst ht
      have hvk : ∀ k, (k < B0 ∨ wr.heap.size ≤ k) → vk.ownBlock ≠ some k := fun k hk e => by
        have := ownBlock_in h.own e
        omega
      refine ⟨ok'.keepP (P := fun k => k < B0 ∨ wr.heap.size ≤ k) (fun k hk hl => by rw [hset k (by omega), e6 k hl (hvk k hk)]) of', (of'.both ok'.off).mono fun k hk => ⟨by have := hk.1; omega, ?_⟩⟩
      rcases hat with hat | hat
      · show some g ≠ some k
        rw [← hat]; exact hvk k hk.1
      · intro e
        have : g = k := by simpa [Value.ownBlock] using e
        have := hk.2
        omega
  · rw [List.map_append, h.er, List.take_succ_eq_append_getElem hi, List.map_append]; simp only [List.map_cons, List.map_nil, er']
  · refine Below.setCell (B := g2) (w := w8) ⟨?_, ?_, ?_, ?_, ?_⟩ (p := ⟨g2, 5, none⟩) (Nat.le_refl g2) _
    · rw [hgrow8.os, h7]; exact b6.os.trans h.bel.os
    · rw [hgrow8.tape, h7]; exact b6.tape.trans h.bel.tape
    · rw [hgrow8.output, h7]; exact b6.output.trans h.bel.output
    · have := h.bel.size; omega
    · intro k hk
      rw [eR k (by omega) (fun e => by have := (ownBlock_in h.own e).1; omega)]
      exact h.bel.block k hk
end Go.Proofs.Ytlfkhinmncbkcaa
