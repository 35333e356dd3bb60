/- Frame and Unframe, the program's and the reference's, as one answer each: an error's number and bytes. -/
import Derived.Test.YtklnheonlnnjoaaRefUn
namespace Go.Proofs.Ytklnheonlnnjoaa
open Go.RowKit
def fe (l : List UInt8) : Int := if 1048576 < l.length then 1 else 0
def fl (l : List UInt8) : List UInt8 := if 1048576 < l.length then [] else framed l
def ul (l : List UInt8) : List UInt8 := if unf l = 0 then l.drop 8 else []
theorem frame_all (w : World) (v : Value) (l : List UInt8) (h : Reads w v l) :
    Calls Try.prog 30 #[v] w fun e w' => ∃ v', e = .returned (.tuple #[v', .int .i64 (fe l)]) ∧ Reads w' v' (fl l) ∧ Below w.heap.size w w' := by
  unfold fe fl
  by_cases hl : 1048576 < l.length
  · rw [if_pos hl, if_pos hl]
    refine (frame_long w v l h hl).mono ?_
    rintro e w' ⟨rfl, rfl⟩
    exact ⟨_, rfl, Reads.nil _, Below.refl _ _⟩
  · rw [if_neg hl, if_neg hl]
    refine (frame_any w v l h (by omega)).mono ?_
    rintro e w' ⟨v', rfl, ho, hb⟩
    exact ⟨_, rfl, ho.reads, hb⟩
theorem refframe_all (w : World) (v : Value) (l : List UInt8) (h : Reads w v l) :
    Calls Try.prog 31 #[v] w fun e w' => ∃ v', e = .returned (.tuple #[v', .int .i64 (fe l)]) ∧ Reads w' v' (fl l) ∧ Below w.heap.size w w' := by
  unfold fe fl
  by_cases hl : 1048576 < l.length
  · rw [if_pos hl, if_pos hl]
    refine (refframe_long w v l h hl).mono ?_
    rintro e w' ⟨rfl, rfl⟩
    exact ⟨_, rfl, Reads.nil _, Below.refl _ _⟩
  · rw [if_neg hl, if_neg hl]
    refine (refframe_any w v l h (by omega)).mono ?_
    rintro e w' ⟨v', rfl, ho, hb⟩
    exact ⟨_, rfl, ho.reads, hb⟩
theorem Reads.bound {w : World} {v : Value} {l : List UInt8} (h : Reads w v l) : l.length ≤ 2 ^ 63 - 1 := by
  obtain ⟨ao, cap, _, h1, h2, _⟩ := h
  unfold maxLen at h2
  omega
theorem unframe_all (w : World) (v : Value) (l : List UInt8) (h : Reads w v l) :
    Calls Try.prog 32 #[v] w fun e w' => ∃ v', e = .returned (.tuple #[v', .int .i64 (unf l : Nat)]) ∧ Reads w' v' (ul l) ∧ Below w.heap.size w w' := by
  unfold ul
  by_cases hl : unf l = 0
  · rw [if_pos hl]
    refine (unframe_ok w v l h hl).mono ?_
    rintro e w' ⟨v', rfl, ho, hb⟩
    exact ⟨_, by rw [hl]; rfl, ho.reads, hb⟩
  · rw [if_neg hl]
    refine (unframe_bad w v l h h.bound hl).mono ?_
    rintro e w' ⟨rfl, hb⟩
    exact ⟨_, rfl, Reads.nil _, hb⟩
theorem refun_all (w : World) (v : Value) (l : List UInt8) (h : Reads w v l) :
    Calls Try.prog 33 #[v] w fun e w' => ∃ v', e = .returned (.tuple #[v', .int .i64 (unf l : Nat)]) ∧ Reads w' v' (ul l) ∧ Below w.heap.size w w' := by
  unfold ul
  by_cases hl : unf l = 0
  · rw [if_pos hl]
    refine (refun_ok w v l h hl).mono ?_
    rintro e w' ⟨v', rfl, ho, hb⟩
    exact ⟨_, by rw [hl]; rfl, ho.reads, hb⟩
  · rw [if_neg hl]
    refine (refun_bad w v l h h.bound hl).mono ?_
    rintro e w' ⟨rfl, hb⟩
    exact ⟨_, rfl, Reads.nil _, hb⟩
end Go.Proofs.Ytklnheonlnnjoaa
