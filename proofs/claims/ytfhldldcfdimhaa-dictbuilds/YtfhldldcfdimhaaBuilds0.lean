/- The walk of DictBuilds. -/
import Derived.Test.YtfhldldcfdimhaaTells
import Derived.Test.YtfhldldcfdimhaaAwake
namespace Go.Proofs.Ytfhldldcfdimhaa
open Go.RowKit Go.Shelf Go.Sort

set_option maxRecDepth 100000 in
set_option maxHeartbeats 1600000 in
theorem builds_law (w : World) (v : Value) (ts : List Str) (h : Rds w v (sv ts)) (hbig : ts.length * 16 ≤ 140737488351232) (va : Value) (asks : List Str) (ha : Rds w va (sv asks)) (_hb : asks.length * 16 ≤ 140737488351232)
    (vi : Value) (ids : List Int) (hi : Rds w vi (iv ids)) (hii : Ints ids) (_hc : ids.length ≤ 140737488351232) :
    Calls Try.prog 3 #[v, va, vi] w fun e w' => e = .returned (.bool true) ∧ Below w.heap.size w w' := by
  by_cases hok : okT ts
  · go_enter Try.func3, Try.ntmps3
    go_wp2_with fail
    refine (awake_any w).mono ?_
    rintro e w1 ⟨rfl, b1⟩
    go_wp2_with fail
    refine (build_ok w1 v ts (h.below b1) (by omega) hok).mono ?_
    rintro e w2 ⟨p, rfl, d2, b2⟩
    have bw2 := b1.trans (b2.mono b1.size)
    obtain ⟨B, vv, rfl, _⟩ := id d2.ex
    go_wp2_with fail
    refine (refbuild_any w2 v ts (h.below bw2) hbig).mono ?_
    rintro e w3 ⟨hy, _, b3⟩
    obtain ⟨v3, rfl, o3⟩ := hy hok
    have bw3 := bw2.trans (b3.mono bw2.size)
    have d3 := d2.below b3
    clear hy b1 b2 b3 d2
    go_wp2_with fail
    refine (tells_any w3 _ v3 va vi (uniq ts) asks ids d3 o3.rds (ha.below bw3) (hi.below bw3) hii).mono ?_
    rintro e w4 ⟨rfl, b4⟩
    go_wp2_with fail
    go_ret
    exact ⟨rfl, bw3.trans (b4.mono bw3.size)⟩
  · go_enter Try.func3, Try.ntmps3
    go_wp2_with fail
    refine (awake_any w).mono ?_
    rintro e w1 ⟨rfl, b1⟩
    go_wp2_with fail
    refine (build_bad w1 v ts (h.below b1) (by omega) hok).mono ?_
    rintro e w2 ⟨rfl, b2⟩
    have bw2 := b1.trans (b2.mono b1.size)
    go_wp2_with fail
    refine (refbuild_any w2 v ts (h.below bw2) hbig).mono ?_
    rintro e w3 ⟨_, hn, b3⟩
    obtain rfl := hn hok
    have bw3 := bw2.trans (b3.mono bw2.size)
    go_wp2_with fail
    go_ret
    exact ⟨rfl, bw3⟩
end Go.Proofs.Ytfhldldcfdimhaa
