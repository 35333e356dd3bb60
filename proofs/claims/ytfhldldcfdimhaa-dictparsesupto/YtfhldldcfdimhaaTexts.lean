/- Contracts of Uint, Int and Text of the program and of the reference, for bytes and texts of any size that can be. -/
import Derived.Test.YtfhldldcfdimhaaRoom
import Derived.Test.YtfhldldcfdimhaaApp
import Derived.Lib.AppendStr
namespace Go.Proofs.Ytfhldldcfdimhaa
open Go.RowKit

theorem Has.owns {w : World} {base g cap : Nat} {l : List UInt8} (h : Has w base g cap l) : Owns w base (.slice (.some ⟨g, 0, none⟩) l.length cap) l := h

set_option maxHeartbeats 400000 in
theorem uint_cap (w : World) (v : Value) (l : List UInt8) (n : Nat) (h : Reads w v l) (hl : l.length ≤ 140737488351232) (hn : n < 18446744073709551616) :
    Calls Try.prog 41 #[v, .int .u64 n] w fun e w' => ∃ v', e = .returned v' ∧ Owns w' w.heap.size v' (l ++ Num.uv n) ∧ Below w.heap.size w w' := by
  go_enter Try.func41, Try.ntmps41
  go_wp2_with fail
  refine (room_cap w v l 10 10 rfl h (by omega)).mono ?_
  rintro e w1 ⟨rfl, hown1, hbel1⟩
  go_wp2_with fail
  refine (add_cap w1 w.heap.size w.heap.size (l.length + 10) l n l.length rfl hown1 hbel1.size (Nat.le_refl _) (Nat.le_refl _) hn).mono ?_
  rintro e w2 ⟨rfl, hown2, hbel2⟩
  generalize hLe : l ++ Num.uv n = L at *
  have HLe := hide hLe
  clear hLe
  go_wp2_with fail
  go_ret
  rw [unhide HLe]
  exact ⟨_, rfl, hown2.owns, hbel1.trans hbel2⟩

theorem strCells_bv (s : ByteArray) : Lib.strCells s = bv s.data.toList := rfl

set_option maxHeartbeats 800000 in
theorem text_cap (w : World) (v : Value) (l : List UInt8) (s : ByteArray) (h : Reads w v l) (hl : l.length ≤ 140737488351232) (hs : s.size ≤ 140737488351232) :
    Calls Try.prog 43 #[v, .string s] w fun e w' => ∃ v', e = .returned v' ∧ Owns w' w.heap.size v' (l ++ Num.uv s.size ++ s.data.toList) ∧ Below w.heap.size w w' := by
  obtain ⟨i0, hi, hz0, hz1, hz2⟩ := info_parts Try.info5
  go_enter Try.func43, Try.ntmps43
  go_wp2_with fail
  refine (room_cap w v l (10 + s.size) _ (by simp) h (by omega)).mono ?_
  rintro e w1 ⟨rfl, hown1, hbel1⟩
  go_wp2_with fail
  refine (add_cap w1 w.heap.size w.heap.size (l.length + (10 + s.size)) l s.size l.length rfl hown1 hbel1.size (Nat.le_refl _) (by omega) (by omega)).mono ?_
  rintro e w2 ⟨rfl, hown2, hbel2⟩
  have hul := Num.uv_length s.size
  have hL : (l ++ Num.uv s.size).length ≤ l.length + 10 := by simp; omega
  have hsl : s.data.toList.length = s.size := by simp
  generalize hLe : l ++ Num.uv s.size = L at *
  have HLe := hide hLe
  clear hLe
  go_wp2_with (first
    | (at_builtin; refine Lib.wpList_append_fits_string _ rfl _ _ 33 9 rfl w.heap.size 5 i0 Try.underlying33 Try.underlying9 hi hz1 (.some ⟨w.heap.size, 0, none⟩) L.length (l.length + (10 + s.size)) (bv L) rfl hown2 s rfl (by omega) (by omega) ?_; intro w3 hown3 hgrow3))
  go_ret
  rw [strCells_bv] at hown3
  refine ⟨.slice (.some ⟨w.heap.size, 0, none⟩) (L.length + s.size) (l.length + (10 + s.size)), rfl, ?_, (hbel1.trans hbel2).grown hgrow3 (hbel1.trans hbel2).size (fun k hk => by cases hk; exact Nat.le_refl _)⟩
  have h4 : w3.ownsRow w.heap.size 5 1 (.slice (.some ⟨w.heap.size, 0, none⟩) (L.length + s.size) (l.length + (10 + s.size))) (L.length + s.data.toList.length) (bv L ++ bv s.data.toList) := by rw [hsl]; exact hown3
  rw [unhide HLe]
  exact app_owns h4
end Go.Proofs.Ytfhldldcfdimhaa
