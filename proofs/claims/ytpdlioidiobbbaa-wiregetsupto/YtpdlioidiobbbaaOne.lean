/- The walk of WireOne. -/
import Derived.Test.YtpdlioidiobbbaaFof
namespace Go.Proofs.Ytpdlioidiobbbaa
open Go.RowKit Go.Sort

theorem mcells_all {w : World} (m : Mm) (h : m.Ok w) : (mcells m).all (·.oneCell') = true := by
  obtain ⟨za0, zn0, zc0, ze0⟩ := lst_sl h.fd
  obtain ⟨za1, zn1, zc1, ze1⟩ := lst_sl h.fm
  obtain ⟨za2, zn2, zc2, ze2⟩ := lst_sl (rds_lst h.q.t.rt)
  obtain ⟨za3, zn3, zc3, ze3⟩ := lst_sl (tr_lst h.q.t)
  obtain ⟨za4, zn4, zc4, ze4⟩ := lst_sl h.q.s
  obtain ⟨za5, zn5, zc5, ze5⟩ := lst_sl h.q.a
  obtain ⟨za6, zn6, zc6, ze6⟩ := lst_sl h.s
  obtain ⟨za7, zn7, zc7, ze7⟩ := lst_sl h.g
  unfold mcells
  rw [ze0, ze1, ze2, ze3, ze4, ze5, ze6, ze7]
  kernel_rfl
theorem mcells_info (m : Mm) : (Try.prog.info? 46).map (·.size) = some (mcells m).size := Try.msg_info
end Go.Proofs.Ytpdlioidiobbbaa
