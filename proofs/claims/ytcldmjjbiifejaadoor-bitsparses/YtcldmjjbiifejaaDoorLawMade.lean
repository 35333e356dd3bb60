/- The contract of the law's made: a set, and which rows are in. -/
import Derived.Test.YtcldmjjbiifejaaDoorAwake
namespace Go.Proofs.YtcldmjjbiifejaaDoor
open Go.RowKit

/-- Which rows are in, as cells. -/
def bls (n X : Nat) : List Value := (List.range n).map fun i => .bool (X.testBit i)
theorem bls_length (n X : Nat) : (bls n X).length = n := by simp [bls]
theorem bls_get (n X i : Nat) (h : i < n) : (bls n X)[i]? = some (.bool (X.testBit i)) := by simp [bls, h]
theorem bls_set (n X r : Nat) : (bls n X).set r (.bool true) = bls n (X ||| 2 ^ r) := by
  apply List.ext_getElem
  · simp [bls]
  · intro i h1 h2
    rw [List.getElem_set]
    by_cases h : r = i
    · subst h; simp [bls, Nat.testBit_or, Nat.testBit_two_pow]
    · simp [bls, Nat.testBit_or, Nat.testBit_two_pow, h]
theorem made_bls (n : Nat) : (madeCells (Value.bool false).cells (n * 1)).toList = bls n 0 := by
  rw [Nat.mul_one]
  refine (toList_madeCells_one _ n).trans ?_
  apply List.ext_getElem
  · simp [bls]
  · intro i h1 h2
    simp [bls]
theorem own_other {w w' : World} {base e n g h cap : Nat} {xs : List Value} (ho : w.ownsRow base e 1 (.slice (some ⟨g, 0, none⟩) n cap) n xs) (hg : w.grownBy w' (some h)) (hne : h ≠ g) : w'.ownsRow base e 1 (.slice (some ⟨g, 0, none⟩) n cap) n xs := by
  refine ⟨ho.1, ?_⟩
  rcases ho.2 with h2 | ⟨g', cap', cur, h1, h2, h3, h4⟩
  · exact .inl h2
  · refine .inr ⟨g', cap', cur, h1, h2, ?_, h4⟩
    simp only [Value.slice.injEq, Option.some.injEq, Addr.mk.injEq] at h1
    rw [hg.block g' (Array.getElem?_eq_some_iff.1 h3).1 (by rw [← h1.1.1]; simp; exact hne.symm)]
    exact h3
theorem ISet.other {w w' : World} {base n X B g h : Nat} {p : Value} (hs : ISet w base p n X B g) (hg : w.grownBy w' (some h)) (h1 : h ≠ B) (h2 : h ≠ g) : ISet w' base p n X B g :=
  ⟨hs.ptr, hs.ge, hs.ne, hg.cell hs.rows (by simpa using h1.symm), hg.cell hs.words (by simpa using h1.symm), own_other hs.own hg h2, hs.lt, hs.le⟩

set_option maxHeartbeats 800000 in
theorem lawmade_any (w : World) (v : Value) (l : List Int) (n : Nat) (h : Rds w v (iv l)) (hi : Ints l) (hn : n ≤ 1000) :
    Calls Tryd.prog 9 #[.int .i64 n, v] w fun e w' => ∃ p B g hb X, e = .returned (.tuple #[p, .slice (some ⟨hb, 0, none⟩) n n, .bool true]) ∧ ISet w' w.heap.size p n X B g ∧
      w'.ownsRow w.heap.size 4 1 (.slice (some ⟨hb, 0, none⟩) n n) n (bls n X) ∧ Below w.heap.size w w' := by
  obtain ⟨ao, nn, cap, rfl⟩ : ∃ ao n cap, v = .slice ao n cap := by obtain ⟨ao, cap, rfl, _⟩ := h; exact ⟨_, _, _, rfl⟩
  have hnn : nn = l.length := by have := h.cells.1; rwa [iv_length] at this
  subst hnn
  obtain ⟨_, h1, h2, h3⟩ := h.cells
  simp only [iv_length] at *
  have hll : l.length ≤ maxLen := by omega
  have hmx : maxLen ≤ 9223372036854775807 := by unfold maxLen; omega
  obtain ⟨i0, hin, hz0, hz1, hz2⟩ := info_parts Tryd.info_bool
  go_enter Tryd.func9, Tryd.ntmps9
  go_wp2_with fail
  refine (new_any w n (by omega)).mono ?_
  rintro e1 w1 ⟨p, B, g, rfl, hs, hb1⟩
  have hp := hs.ptr
  subst hp
  have hsz1 := hb1.size
  have hBl : B < w1.heap.size := World.block_lt_of_cell? _ _ hs.rows
  have hgl : g < w1.heap.size := (World.ownsRow.lt hs.own g rfl).2
  have hgg := hs.own_ge
  clear h
  go_wp2_with (first
    | (at_make; refine wpList_make_full _ rfl _ _ 26 rfl w.heap.size 4 i0 (.bool false) 1 Tryd.underlying26 hin hz0 hz1 .i64 .i64 _ _ n rfl rfl (by omega) (by omega) (by rw [hz2]; omega) (by unfold maxLen; omega) (by omega) ?_; intro w2 hown2 hgrow2))
  rw [made_bls] at hown2
  have hs2 : ISet w2 w.heap.size (.pointer (some ⟨B, 0, none⟩)) n 0 B g := hs.below ((Below.refl _ _).grown hgrow2 (Nat.le_refl _) (by simp))
  have hb2 : Below w.heap.size w w2 := hb1.grown hgrow2 (by omega) (by simp)
  clear hgrow2 hs
  obtain ⟨hb, hhb⟩ : ∃ hb, hb = w1.heap.size := ⟨_, rfl⟩
  rw [← hhb] at hown2 hBl hgl ⊢
  have HB := hide hhb
  clear hhb
  go_loopw [10] (fun i wr => ∃ k X : Nat, k ≤ l.length ∧ i = .int .i64 k ∧ ISet wr w.heap.size (.pointer (some ⟨B, 0, none⟩)) n X B g ∧
      wr.ownsRow w.heap.size 4 1 (.slice (some ⟨hb, 0, none⟩) n n) n (bls n X) ∧ Below w.heap.size w wr) (fun i _ => l.length - (intOf i).toNat)
  case atStart => exact ⟨0, 0, by omega, rfl, hs2, hown2, hb2⟩
  case round =>
    obtain ⟨k, X, hk, rfl, hsr, hown, hbel⟩ := hrel
    by_cases hlt : k < l.length
    · have hlt' : (k : Int) < (l.length : Int) := by omega
      obtain ⟨b, off, rfl, hc⟩ := h3 (by omega)
      have hck := hc k _ (iv_get l k hlt)
      rw [← hbel.cell (World.block_lt_of_cell? _ _ hck)] at hck
      have hzb := hi.at k hlt
      have hbw : b < w.heap.size := by
        have := hc k _ (iv_get l k hlt)
        exact World.block_lt_of_cell? _ _ this
      obtain ⟨z, hz⟩ : ∃ z, z = l.getD k 0 := ⟨_, rfl⟩
      rw [← hz] at hck hzb
      clear hz hc h3 hs2 hown2 hb2
      by_cases hz0' : 0 ≤ z
      · obtain ⟨r, rfl⟩ : ∃ r : Nat, z = r := ⟨z.toNat, by omega⟩
        by_cases hrn : r < n
        · have hrn' : (r : Int) < (n : Int) := by omega
          go_wp2_with fail
          refine (put_any wr _ _ _ _ _ _ r hsr hrn).mono ?_
          rintro e1 w3 ⟨rfl, hs3, hg3⟩
          have hck3 : w3.cell? ⟨b, off + k, none⟩ = _ := hg3.cell hck (by simp; omega)
          have hown3 := own_other hown hg3 (by omega)
          have hb3 : Below w.heap.size w w3 := hbel.grown hg3 hbel.size (fun k hk => by cases hk; exact hgg)
          have hcell := (World.ownsRow.cellAt hown3 r (by omega)).trans (bls_get n X r hrn)
          have hfr := World.ownsRow.frozenAt hown3 r
          obtain ⟨s1, s2⟩ := World.ownsRow.stored hown3 r (.bool true)
          have hs4 := hs3.other s2 (by omega) (by omega)
          rw [bls_set] at s1
          have HS1 := hide s1
          have HS2 := hide s2
          have HS4 := hide hs4
          clear s1 s2 hs4 hs3 hsr hown hg3 hown3 hck
          go_wp2_with fail
          go_roundw
          case rel => exact ⟨k + 1, _, by omega, by go_num, unhide HS4, unhide HS1, hb3.grown (unhide HS2) hb3.size (fun k hk => by cases hk; have := unhide HB; omega)⟩
          case measure => simp [intOf]; omega
        · have hrn' : ¬ (r : Int) < (n : Int) := by omega
          go_wp2_with fail
          refine (put_bad wr _ _ _ _ _ _ r hsr hzb (by omega)).mono ?_
          rintro e1 w3 ⟨rfl, rfl⟩
          go_wp2_with fail
          go_roundw
          case rel => exact ⟨k + 1, X, by omega, by go_num, hsr, hown, hbel⟩
          case measure => simp [intOf]; omega
      · go_wp2_with fail
        refine (put_bad wr _ _ _ _ _ _ z hsr hzb (by omega)).mono ?_
        rintro e1 w3 ⟨rfl, rfl⟩
        go_wp2_with fail
        go_roundw
        case rel => exact ⟨k + 1, X, by omega, by go_num, hsr, hown, hbel⟩
        case measure => simp [intOf]; omega
    · have ek : k = l.length := by omega
      subst ek
      go_wp2
      go_ret3
      exact ⟨_, _, _, _, _, rfl, hsr, hown, hbel⟩
end Go.Proofs.YtcldmjjbiifejaaDoor
