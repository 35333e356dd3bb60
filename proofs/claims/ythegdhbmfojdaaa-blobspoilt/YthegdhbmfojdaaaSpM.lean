/- A blob whose file was changed: what is said without a walk. -/
import Derived.Test.YthegdhbmfojdaaaKpM
import Derived.Test.YthegdhbmfojdaaaWTurn
import Derived.Test.YthegdhbmfojdaaaOnc
namespace Go.Proofs.Ythegdhbmfojdaaa
open Go.RowKit Go.Maps Go.Sort
set_option linter.unusedVariables false

theorem xor_flip (c : UInt8) (j : Nat) (hj : j < 8) : bits .xor .u8 (c.toNat : Int) (2 ^ j % 256) = (((Wi.Four.flip c j).toNat : Nat) : Int) := by
  have h1 : 2 ^ j < 256 := by
    have : 2 ^ j < 2 ^ 8 := Nat.pow_lt_pow_right (by decide) hj
    simpa using this
  have e : (2 : Int) ^ j % 256 = ((2 ^ j : Nat) : Int) := by
    have e1 : (2 : Int) ^ j = ((2 ^ j : Nat) : Int) := by simp
    rw [e1]
    exact Int.emod_eq_of_lt (Int.natCast_nonneg _) (Int.ofNat_lt.2 h1)
  rw [e, Wi.Four.flip_nat c j hj]
  exact u8_xor_nat _ _ c.toNat_lt h1
theorem and_bit (E i : Nat) (hE : E < 4294967296) : bits .and .u32 ((E : Int) / 2 ^ i) 1 = ((E / 2 ^ i % 2 : Nat) : Int) := by
  have h1 : E / 2 ^ i ≤ E := Nat.div_le_self _ _
  have e : (E : Int) / 2 ^ i = ((E / 2 ^ i : Nat) : Int) := by simp
  rw [e]; exact Wi.Crc.and_one (by omega)

theorem turn_own {wr : World} {base g n cp : Nat} {m : Str} {K : Nat} (h : Owns wr base (.slice (some ⟨g, 0, none⟩) n cp) m) :
    Owns (wr.setCell ⟨g, K / 8, none⟩ (.int .u8 (bits .xor .u8 ((m.getD (K / 8) 0).toNat : Int) (2 ^ (K % 8) % 256)))) base (.slice (some ⟨g, 0, none⟩) n cp) (m.set (K / 8) (Wi.Four.flip (m.getD (K / 8) 0) (K % 8))) := by
  rw [xor_flip _ _ (Nat.mod_lt _ (by decide))]
  exact owns_set h _ _
/-- What header and length say. -/
theorem unf_len {x : Str} {n : Nat} (hn : n ≤ 1048576) (h : 8 ≤ x.length → Wi.Four.num ((x.drop 4).take 4) = n) (hl : x.length ≠ 8 + n) : Wi.unf x ≠ 0 := by
  unfold Wi.unf
  by_cases h8 : x.length < 8
  · rw [if_pos h8]
    decide
  · rw [if_neg h8, if_pos (.inl (by rw [h (by omega)]; omega))]
    decide
theorem head_framed (l : Str) (h : l.length ≤ 1048576) : Wi.Four.num (((Wi.framed l).drop 4).take 4) = l.length := by
  have e1 : ((Wi.framed l).drop 4).take 4 = Wi.Four.le4 l.length := rfl
  rw [e1, Wi.Four.num_le4 _ (by omega)]
theorem unf_cut (l : Str) (K : Nat) (h : l.length ≤ 1048576) (hK : K < 8 + l.length) : Wi.unf ((Wi.framed l).take K) ≠ 0 := by
  have hfl := framed_len l
  refine unf_len h (fun h8 => ?_) (by rw [List.length_take]; omega)
  rw [List.length_take] at h8
  rw [List.drop_take, List.take_take, Nat.min_eq_left (by omega)]
  exact head_framed l h
theorem unf_more (l m : Str) (h : l.length ≤ 1048576) (hm : 0 < m.length) : Wi.unf (Wi.framed l ++ m) ≠ 0 := by
  have hfl := framed_len l
  refine unf_len h (fun h8 => ?_) (by rw [List.length_append]; omega)
  rw [List.drop_append_of_le_length (by omega), List.take_append_of_le_length (by simp; omega)]
  exact head_framed l h
/-- A disk with the blob a, and a file b.b. -/
def spS (l m : Str) : St := ⟨[⟨[98, 46, 97], Wi.framed l, (Wi.framed l).length⟩, ⟨[98, 46, 98], m, 0⟩], 4, false, false, 0, 0⟩
theorem sp_app (l m : Str) : (onS l).append [98, 46, 98] m = (0, spS l m) := by kernel_rfl
theorem sp_read (l : Str) : rfF (onS l) [98, 46, 97] [] = 0 ∧ rdC (onS l) [98, 46, 97] = Wi.framed l := ⟨by kernel_rfl, by kernel_rfl⟩
theorem sp_b (l m : Str) (h : Wi.unf m ≠ 0) : bget (spS l m) [98] = (11, []) := by
  have e0 : rfB (spS l m) [98] = 0 := by kernel_rfl
  have e1 : rfF (spS l m) (fB [98]) [] = 0 := by kernel_rfl
  have e2 : rdC (spS l m) (fB [98]) = m := by kernel_rfl
  unfold bget
  rw [e0, if_neg (by simp), e1, if_neg (by simp), e2, if_neg h]
theorem sp_a (l m : Str) (h : l.length ≤ 1048576) : bget (spS l m) [97] = (0, l) := by
  have e0 : rfB (spS l m) [97] = 0 := by kernel_rfl
  have e1 : rfF (spS l m) (fB [97]) [] = 0 := by kernel_rfl
  have e2 : rdC (spS l m) (fB [97]) = Wi.framed l := by kernel_rfl
  unfold bget
  rw [e0, if_neg (by simp), e1, if_neg (by simp), e2, if_pos (unf_framed l h), drop_framed]
theorem Reads.take {w : World} {ao : Option Addr} {n c : Nat} {l : Str} (h : Reads w (.slice ao n c) l) (k : Nat) (hk : k ≤ l.length) (ha : ao ≠ none) : Reads w (.slice ao k c) (l.take k) := by
  obtain ⟨ao', c', e, h1, h2, h3, h4⟩ := h
  simp only [Value.slice.injEq] at e
  obtain ⟨rfl, rfl, rfl⟩ := e
  refine ⟨ao, c, by rw [List.length_take, Nat.min_eq_left hk], by rw [List.length_take]; omega, h2, fun q => absurd q ha, fun ad had j u hj => h4 ad had j u ?_⟩
  have : bv (l.take k) = (bv l).take k := by simp [bv, List.map_take]
  rw [this, List.getElem?_take] at hj
  split at hj
  · exact hj
  · cases hj
theorem Dk.tight {w : World} {d N M : Nat} {F : Nat → Prop} {s : St} (h : Dk w d F N s) (hm : ∀ f ∈ s.fs, f.bs.length ≤ M) : Dk w d F M s := by
  obtain ⟨mo, Z, z⟩ := h
  refine ⟨mo, Z, z.b, z.f, z.m, z.fm, z.e, z.ap, z.fs, fun x hx => ?_, z.nm, z.few, z.ops, z.lt⟩
  exact hm x.fl (by rw [← z.fs]; exact List.mem_map.2 ⟨x, hx, rfl⟩)
theorem LS.tight {w0 w : World} {p d N M : Nat} {F : Nat → Prop} {s : St} (h : LS w0 w p d F N s) (hm : ∀ f ∈ s.fs, f.bs.length ≤ M) : LS w0 w p d F M s := ⟨h.dk.tight hm, h.sr, h.np, h.F0, h.p0, h.bel⟩
end Go.Proofs.Ythegdhbmfojdaaa
