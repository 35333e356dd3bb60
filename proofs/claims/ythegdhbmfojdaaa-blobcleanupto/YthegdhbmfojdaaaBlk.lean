/- What a bound on all that comes in says of one slice. -/
import Derived.Test.YthegdhbmfojdaaaRows
namespace Go.Proofs.Ythegdhbmfojdaaa

theorem bulk_pos {H : Type} (d : DataW H) : 1 ≤ Rows.uptoBulk d := by
  rcases d with l | _ | _ | _ | _ | _ | _ | _
  · cases l <;> simp only [Rows.uptoBulk] <;> omega
  all_goals (simp only [Rows.uptoBulk]; omega)
theorem bulk_len {H : Type} : ∀ l : List (DataW H), l.length ≤ Rows.uptoBulkAll l
  | [] => Nat.zero_le _
  | d :: l => by
    have h1 := bulk_pos d
    have h2 := bulk_len l
    simp only [Rows.uptoBulkAll, List.length_cons]; omega
theorem bulk_slice {H : Type} {d : DataW H} {a b : List (DataW H)} (h : d = .slice a b) : a.length ≤ Rows.uptoBulk d := by
  subst h
  have := bulk_len a
  simp only [Rows.uptoBulk]; omega
end Go.Proofs.Ythegdhbmfojdaaa
