/- The contract of awake: it is true, and changes nothing that was there. -/
import Derived.Test.YtpdlioidiobbbaaUnframe
import Derived.Test.YtpdlioidiobbbaaRefNums
import Derived.Lib.SlBytesConst
import Derived.Laws.BytesArg
namespace Go.Proofs.Ytpdlioidiobbbaa
open Go.RowKit

theorem framed_length (l : List UInt8) : (framed l).length = 8 + l.length := by simp [framed, Four.le4_length]; omega
theorem unf_framed (l : List UInt8) (hl : l.length ≤ 1048576) : unf (framed l) = 0 ∧ (framed l).drop 8 = l := by
  have h4 : (framed l).take 4 = Four.le4 (Crc.sum (Four.le4 l.length ++ l)) := by unfold framed; rw [List.take_append_of_le_length (by simp [Four.le4_length])]; exact List.take_of_length_le (by simp [Four.le4_length])
  have hd : (framed l).drop 4 = Four.le4 l.length ++ l := by unfold framed; rw [List.drop_append_of_le_length (by simp [Four.le4_length])]; simp [Four.le4]
  have h8 : (framed l).drop 8 = l := by
    have : (framed l).drop 8 = ((framed l).drop 4).drop 4 := by rw [List.drop_drop]
    rw [this, hd]; simp [Four.le4]
  refine ⟨?_, h8⟩
  have e4 : ((framed l).drop 4).take 4 = Four.le4 l.length := by rw [hd]; simp [Four.le4]
  unfold unf
  rw [framed_length, if_neg (by omega), e4, Four.num_le4 _ (by omega), if_neg (by omega), h4, hd, Four.num_le4 _ (Crc.sum_lt _), if_neg (by simp)]

theorem nine : Crc.sum [49, 50, 51, 52, 53, 54, 55, 56, 57] = 3421780262 := by decide +kernel

set_option maxRecDepth 100000 in
set_option maxHeartbeats 400000 in
theorem awake_any (w : World) : Calls Try.prog 7 #[] w fun e w' => e = .returned (.bool true) ∧ Below w.heap.size w w' := by
  have kc := fun (w : World) (C : Array Value) (n c : Nat) => Lib.run_convert_bytes_const (P := Try.prog) w 49 5 C n c Try.underlying49 Try.underlying5
  obtain ⟨L, hL⟩ : ∃ L : List UInt8, L = [97, 98] := ⟨_, rfl⟩
  have hL2 : L.length = 2 := by rw [hL]; rfl
  have HC : Hid (#[Value.int .u8 97, .int .u8 98] = (bv L).toArray) := by rw [hL]; exact (by simp [bv] : #[Value.int .u8 97, .int .u8 98] = (bv [97, 98]).toArray)
  have HL := hide hL
  have HL2 := hide hL2
  clear hL hL2
  go_enter Try.func7, Try.ntmps7
  go_wp2_with fail
  refine (frame_any _ _ L (const_reads w L _ 2 (by rw [unhide HL2]) (by rw [unhide HL2]; unfold maxLen; omega) _ (unhide HC)) (by rw [unhide HL2]; omega)).mono ?_
  rintro e w1 ⟨v1, rfl, hown1, hbel1⟩
  obtain ⟨a1, c1, hv1⟩ := hown1.shape 10 (by rw [framed_length, unhide HL2])
  rw [hv1]
  rw [hv1] at hown1
  clear hv1 v1
  go_wp2_with fail
  refine (unframe_ok _ _ (framed L) hown1.reads (unf_framed L (by rw [unhide HL2]; omega)).1).mono ?_
  rintro e w2 ⟨v2, rfl, hown2, hbel2⟩
  rw [(unf_framed L (by rw [unhide HL2]; omega)).2] at hown2
  obtain ⟨M, hM⟩ : ∃ M : List UInt8, M = [49, 50, 51, 52, 53, 54, 55, 56, 57] := ⟨_, rfl⟩
  have HM2 : Hid (M.length = 9) := by rw [hM]; exact (rfl : ([49, 50, 51, 52, 53, 54, 55, 56, 57] : List UInt8).length = 9)
  have HMC : Hid (#[Value.int .u8 49, .int .u8 50, .int .u8 51, .int .u8 52, .int .u8 53, .int .u8 54, .int .u8 55, .int .u8 56, .int .u8 57] = (bv M).toArray) := by rw [hM]; exact (by simp [bv] : #[Value.int .u8 49, .int .u8 50, .int .u8 51, .int .u8 52, .int .u8 53, .int .u8 54, .int .u8 55, .int .u8 56, .int .u8 57] = (bv [49, 50, 51, 52, 53, 54, 55, 56, 57]).toArray)
  have hMS : (((Crc.sum M : Nat) : Int) == 3421780262) = true := by rw [hM, nine]; rfl
  clear hM
  go_wp2_with fail
  refine (sum_any _ _ M (const_reads w2 M _ 9 (by rw [unhide HM2]) (by rw [unhide HM2]; unfold maxLen; omega) _ (unhide HMC))).mono ?_
  rintro e w3 ⟨rfl, hw3⟩
  have hbel3 : Below w2.heap.size w2 w3 := by rw [hw3]; exact (Below.refl _ _).alloc (Nat.le_refl _) _
  clear hw3
  go_wp2_with fail
  refine (uint_lit _ _ [] 300 300 (Reads.nil _) (by decide) (by omega) rfl).mono ?_
  rintro e w4 ⟨v4, rfl, hown4, hbel4⟩
  have hcv4 : (convert 49 9 v4).run Try.prog w4 = .ok (.string ⟨#[172, 2]⟩) w4 := conv_string _ _ _ hown4.reads
  go_wp2_with fail
  refine (int_any _ _ [] (-2) (Reads.nil _) (by decide) (by omega) (by omega)).mono ?_
  rintro e w5 ⟨v5, rfl, hown5, hbel5⟩
  have hcv5 : (convert 49 9 v5).run Try.prog w5 = .ok (.string ⟨#[3]⟩) w5 := conv_string _ _ _ hown5.reads
  have hcv2 : (convert 49 9 v2).run Try.prog w5 = .ok (.string ⟨#[97, 98]⟩) w5 := by
    rw [conv_string _ _ L (((hown2.reads.below hbel3).below hbel4).below hbel5), unhide HL]
  go_wp2
  go_ret
  refine ⟨rfl, ?_⟩
  have b1 : Below w.heap.size w w1 := ((Below.refl _ _).alloc (Nat.le_refl _) _).trans (hbel1.mono (by simp))
  have b2 : Below w.heap.size w w2 := b1.trans (hbel2.mono b1.size)
  have b3 : Below w.heap.size w w3 := b2.trans (hbel3.mono b2.size)
  have b4 : Below w.heap.size w w4 := b3.trans (hbel4.mono b3.size)
  exact b4.trans (hbel5.mono b4.size)
end Go.Proofs.Ytpdlioidiobbbaa
