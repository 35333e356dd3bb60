/- A closure of Get. -/
import Derived.Test.YtpdlioidiobbbaaRg9
namespace Go.Proofs.Ytpdlioidiobbbaa
open Go.RowKit Go.Sort

/-- What the closure 1 of Get does. -/
structure Cp1 (B R : Nat) (l : Bs) (mb : Nat) (w : World) (p e : Nat) (ev : Ending) (w' : World) : Prop where
  out : ∃ (KI : Int) (FR : Int) (TO : Int), ev = .returned (.tuple #[]) ∧ (In64 KI ∧ In64 FR ∧ In64 TO) ∧ Stp B R l mb w w' (p, e) (fun s => skU l (skU l (skU l s))) ((ei KI ++ ei FR) ++ ei TO) 0 [.int .i64 KI, .int .i64 FR, .int .i64 TO]
set_option maxRecDepth 100000 in
set_option maxHeartbeats 3200000 in
theorem gc1 (B R : Nat) (l : Bs) (w : World) (rb mb p e : Nat) (_hlb : l.length ≤ 1048576) (hb : BxA w rb 88 #[.pointer (some ⟨R, 0, none⟩)]) (ht : w.there mb 0 41) (hm : mb < w.heap.size) (hR : R < mb) (h : PS B w R l p e) (hrb : rb ≠ mb) (hrR : R < rb) :
    Calls Try.prog 36 #[.pointer (some ⟨rb, 0, none⟩), .pointer (some ⟨mb, 0, none⟩)] w (Cp1 B R l mb w p e) := by
  have hple := h.le
  have mixed : Try.prog.follows .mixedOrders = true := by kernel_rfl
  have hSig0 : BxA w.drew rb 88 #[.pointer (some ⟨R, 0, none⟩)] := hb
  have hS00 : Got B R l w w.drew (p, e) (fun s => s) [] := Got.id h ⟨rfl, rfl, rfl, Nat.le_refl _, fun _ _ _ => rfl⟩
  have HT : Hid _ := ht
  clear hb ht h
  go_enter Try.func36, Try.ntmps36
  go_upto_region 0 with fail
  refine wp_region_invF (β := Value × Value × Value × Value × Value × Value × Value × Value × Value) (fun a0 xq => (((((((((a0.put (some 2) (xq.1)).put (some 3) (xq.2.1)).put (some 4) (xq.2.2.1)).put (some 5) (xq.2.2.2.1)).put (some 6) (xq.2.2.2.2.1)).put (some 7) (xq.2.2.2.2.2.1)).put (some 8) (xq.2.2.2.2.2.2.1)).put (some 9) (xq.2.2.2.2.2.2.2.1)).put (some 10) (xq.2.2.2.2.2.2.2.2))) ?fr2 (fun xq d w' => (BxA w' rb 88 #[.pointer (some ⟨R, 0, none⟩)]) ∧ ((d 0 = true → (xq.1) = .pointer (some ⟨R, 0, none⟩)) ∧ (d 2 = true → (xq.2.2.1) = .pointer (some ⟨R, 0, none⟩)) ∧ (d 4 = true → (xq.2.2.2.2.1) = .pointer (some ⟨R, 0, none⟩)) ∧ (d 6 = true → (xq.2.2.2.2.2.2.1) = .pointer (some ⟨mb, 0, none⟩)) ∧ (d 8 = true → (xq.2.2.2.2.2.2.2.1) = .pointer (some ⟨mb, 1, none⟩)) ∧ (d 10 = true → (xq.2.2.2.2.2.2.2.2) = .pointer (some ⟨mb, 2, none⟩))) ∧ ∃ j : Nat, j ≤ 6 ∧ (d 1 = decide (0 < j) ∧ d 3 = decide (1 < j) ∧ d 5 = decide (2 < j) ∧ d 7 = decide (3 < j) ∧ d 9 = decide (4 < j) ∧ d 11 = decide (5 < j)) ∧ ((j = 0 → Got B R l w w' (p, e) (fun s => s) ([])) ∧ (j = 1 → ∃ (KI : Int), ((xq.2.1) = .int .i64 KI ∧ In64 KI) ∧ Got B R l w w' (p, e) (fun s => skU l s) (ei KI)) ∧ (j = 2 → ∃ (KI : Int) (FR : Int), ((xq.2.1) = .int .i64 KI ∧ In64 KI) ∧ ((xq.2.2.2.1) = .int .i64 FR ∧ In64 FR) ∧ Got B R l w w' (p, e) (fun s => skU l (skU l s)) (ei KI ++ ei FR)) ∧ (j = 3 → ∃ (KI : Int) (FR : Int) (TO : Int), ((xq.2.1) = .int .i64 KI ∧ In64 KI) ∧ ((xq.2.2.2.1) = .int .i64 FR ∧ In64 FR) ∧ ((xq.2.2.2.2.2.1) = .int .i64 TO ∧ In64 TO) ∧ Got B R l w w' (p, e) (fun s => skU l (skU l (skU l s))) ((ei KI ++ ei FR) ++ ei TO)) ∧ (j = 4 → ∃ (KI : Int) (FR : Int) (TO : Int) (w3 : World), ((xq.2.1) = .int .i64 KI ∧ In64 KI) ∧ ((xq.2.2.2.1) = .int .i64 FR ∧ In64 FR) ∧ ((xq.2.2.2.2.2.1) = .int .i64 TO ∧ In64 TO) ∧ Got B R l w w3 (p, e) (fun s => skU l (skU l (skU l s))) ((ei KI ++ ei FR) ++ ei TO) ∧ w' = (w3.setCell ⟨mb, 0, none⟩ (.int .i64 KI))) ∧ (j = 5 → ∃ (KI : Int) (FR : Int) (TO : Int) (w3 : World), ((xq.2.1) = .int .i64 KI ∧ In64 KI) ∧ ((xq.2.2.2.1) = .int .i64 FR ∧ In64 FR) ∧ ((xq.2.2.2.2.2.1) = .int .i64 TO ∧ In64 TO) ∧ Got B R l w w3 (p, e) (fun s => skU l (skU l (skU l s))) ((ei KI ++ ei FR) ++ ei TO) ∧ w' = ((w3.setCell ⟨mb, 0, none⟩ (.int .i64 KI)).setCell ⟨mb, 1, none⟩ (.int .i64 FR))) ∧ (j = 6 → ∃ (KI : Int) (FR : Int) (TO : Int) (w3 : World), ((xq.2.1) = .int .i64 KI ∧ In64 KI) ∧ ((xq.2.2.2.1) = .int .i64 FR ∧ In64 FR) ∧ ((xq.2.2.2.2.2.1) = .int .i64 TO ∧ In64 TO) ∧ Got B R l w w3 (p, e) (fun s => skU l (skU l (skU l s))) ((ei KI ++ ei FR) ++ ei TO) ∧ w' = (((w3.setCell ⟨mb, 0, none⟩ (.int .i64 KI)).setCell ⟨mb, 1, none⟩ (.int .i64 FR)).setCell ⟨mb, 2, none⟩ (.int .i64 TO))))) ?lay2 mixed (by kernel_rfl) ?h02 ?hs2 ?he2
  case lay2 =>
    intro xq
    simp only [Act.put, List.setIfInBounds_toArray, List.set_cons_zero, List.set_cons_succ]
    rfl
  case h02 =>
    refine ⟨(undef, undef, undef, undef, undef, undef, undef, undef, undef), rfl, ?sig2, ⟨(fun h => by cases h), (fun h => by cases h), (fun h => by cases h), (fun h => by cases h), (fun h => by cases h), (fun h => by cases h)⟩, 0, Nat.zero_le _, ⟨rfl, rfl, rfl, rfl, rfl, rfl⟩, ?S02, (fun h => by cases h), (fun h => by cases h), (fun h => by cases h), (fun h => by cases h), (fun h => by cases h), (fun h => by cases h)⟩
    case sig2 => exact hSig0
    case S02 => exact fun _ => hS00
  case hs2 =>
    refine ⟨?_, ?_, ?_, ?_, ?_, ?_, ?_, ?_, ?_, ?_, ?_, ?_, trivial⟩
    · rintro d ⟨x2, x3, x4, x5, x6, x7, x8, x9, x10⟩ w' hI hd hdp K hK
      dsimp only at hI
      obtain ⟨hS, ⟨f0, f2, f4, f6, f8, f10⟩, j, hj, ⟨dd1, dd3, dd5, dd7, dd9, dd11⟩, ⟨p0, p1, p2, p3, p4, p5, p6⟩⟩ := hI
      have c0 : w'.cell? ⟨rb, 0, none⟩ = some (.pointer (some ⟨R, 0, none⟩)) := BxA.cell hS 0 _ rfl
      have HF : Hid _ := And.intro hS (And.intro (And.intro f0 (And.intro f2 (And.intro f4 (And.intro f6 (And.intro f8 f10))))) (And.intro hj (And.intro (And.intro dd1 (And.intro dd3 (And.intro dd5 (And.intro dd7 (And.intro dd9 dd11))))) (And.intro p0 (And.intro p1 (And.intro p2 (And.intro p3 (And.intro p4 (And.intro p5 p6)))))))))
      clear hS f0 f2 f4 f6 f8 f10 hj dd1 dd3 dd5 dd7 dd9 dd11 p0 p1 p2 p3 p4 p5 p6 hdp hd
      refine Opn.mk ?_
      dsimp only
      go_simp
      obtain ⟨hS, ⟨f0, f2, f4, f6, f8, f10⟩, hj, ⟨dd1, dd3, dd5, dd7, dd9, dd11⟩, ⟨p0, p1, p2, p3, p4, p5, p6⟩⟩ := HF.out
      exact hK.out (.pointer (some ⟨R, 0, none⟩), x3, x4, x5, x6, x7, x8, x9, x10) _ ⟨hS, ⟨(fun _ => rfl), (fun h => f2 (upd_ne h (by decide))), (fun h => f4 (upd_ne h (by decide))), (fun h => f6 (upd_ne h (by decide))), (fun h => f8 (upd_ne h (by decide))), (fun h => f10 (upd_ne h (by decide)))⟩, j, hj, ⟨((upd_no (by decide)).trans dd1), ((upd_no (by decide)).trans dd3), ((upd_no (by decide)).trans dd5), ((upd_no (by decide)).trans dd7), ((upd_no (by decide)).trans dd9), ((upd_no (by decide)).trans dd11)⟩, ⟨p0, p1, p2, p3, p4, p5, p6⟩⟩
    · rintro d ⟨x2, x3, x4, x5, x6, x7, x8, x9, x10⟩ w' hI hd hdp K hK
      dsimp only at hI
      obtain ⟨hS, ⟨f0, f2, f4, f6, f8, f10⟩, j, hj, ⟨dd1, dd3, dd5, dd7, dd9, dd11⟩, ⟨p0, p1, p2, p3, p4, p5, p6⟩⟩ := hI
      obtain rfl := f0 (hdp 0 (by decide +kernel))
      obtain rfl := ph_zero dd1 hd
      have s := p0 rfl
      clear p0 p1 p2 p3 p4 p5 p6 hj
      have G := s
      clear s
      have kk := gwhole B R l w' _ _ G.ps
      have HG : Hid _ := And.intro hS G
      clear hS G
      have HF : Hid _ := And.intro (And.intro f0 (And.intro f2 (And.intro f4 (And.intro f6 (And.intro f8 f10))))) (And.intro dd1 (And.intro dd3 (And.intro dd5 (And.intro dd7 (And.intro dd9 dd11)))))
      clear f0 f2 f4 f6 f8 f10 dd1 dd3 dd5 dd7 dd9 dd11 hdp hd
      refine Opn.mk ?_
      dsimp only
      go_simp
      go_wp2_with (first | (go_at_call 37; with_reducible refine kk.mono ?_; rintro e5 w5 ⟨KI, rfl, i0, G5⟩))
      obtain ⟨hS, G⟩ := HG.out
      obtain ⟨⟨f0, f2, f4, f6, f8, f10⟩, ⟨dd1, dd3, dd5, dd7, dd9, dd11⟩⟩ := HF.out
      refine hK.out (.pointer (some ⟨R, 0, none⟩), .int .i64 KI, x4, x5, x6, x7, x8, x9, x10) _ ⟨?sg, ⟨(fun _ => rfl), (fun h => f2 (upd_ne h (by decide))), (fun h => f4 (upd_ne h (by decide))), (fun h => f6 (upd_ne h (by decide))), (fun h => f8 (upd_ne h (by decide))), (fun h => f10 (upd_ne h (by decide)))⟩, 1, by decide, ⟨(by simp [upd]), ((upd_no (by decide)).trans (dd3.trans (by decide))), ((upd_no (by decide)).trans (dd5.trans (by decide))), ((upd_no (by decide)).trans (dd7.trans (by decide))), ((upd_no (by decide)).trans (dd9.trans (by decide))), ((upd_no (by decide)).trans (dd11.trans (by decide)))⟩, ⟨(fun h => absurd h (by decide)), (fun _ => ?new), (fun h => absurd h (by decide)), (fun h => absurd h (by decide)), (fun h => absurd h (by decide)), (fun h => absurd h (by decide)), (fun h => absurd h (by decide))⟩⟩
      case sg => exact BxA.grow hS G5.g (by omega)
      case new =>
        exact ⟨KI, ⟨rfl, i0⟩, Got.comp2 hple (fwd_id l) (fwd_u l) G G5⟩
    · rintro d ⟨x2, x3, x4, x5, x6, x7, x8, x9, x10⟩ w' hI hd hdp K hK
      dsimp only at hI
      obtain ⟨hS, ⟨f0, f2, f4, f6, f8, f10⟩, j, hj, ⟨dd1, dd3, dd5, dd7, dd9, dd11⟩, ⟨p0, p1, p2, p3, p4, p5, p6⟩⟩ := hI
      have c0 : w'.cell? ⟨rb, 0, none⟩ = some (.pointer (some ⟨R, 0, none⟩)) := BxA.cell hS 0 _ rfl
      have HF : Hid _ := And.intro hS (And.intro (And.intro f0 (And.intro f2 (And.intro f4 (And.intro f6 (And.intro f8 f10))))) (And.intro hj (And.intro (And.intro dd1 (And.intro dd3 (And.intro dd5 (And.intro dd7 (And.intro dd9 dd11))))) (And.intro p0 (And.intro p1 (And.intro p2 (And.intro p3 (And.intro p4 (And.intro p5 p6)))))))))
      clear hS f0 f2 f4 f6 f8 f10 hj dd1 dd3 dd5 dd7 dd9 dd11 p0 p1 p2 p3 p4 p5 p6 hdp hd
      refine Opn.mk ?_
      dsimp only
      go_simp
      obtain ⟨hS, ⟨f0, f2, f4, f6, f8, f10⟩, hj, ⟨dd1, dd3, dd5, dd7, dd9, dd11⟩, ⟨p0, p1, p2, p3, p4, p5, p6⟩⟩ := HF.out
      exact hK.out (x2, x3, .pointer (some ⟨R, 0, none⟩), x5, x6, x7, x8, x9, x10) _ ⟨hS, ⟨(fun h => f0 (upd_ne h (by decide))), (fun _ => rfl), (fun h => f4 (upd_ne h (by decide))), (fun h => f6 (upd_ne h (by decide))), (fun h => f8 (upd_ne h (by decide))), (fun h => f10 (upd_ne h (by decide)))⟩, j, hj, ⟨((upd_no (by decide)).trans dd1), ((upd_no (by decide)).trans dd3), ((upd_no (by decide)).trans dd5), ((upd_no (by decide)).trans dd7), ((upd_no (by decide)).trans dd9), ((upd_no (by decide)).trans dd11)⟩, ⟨p0, p1, p2, p3, p4, p5, p6⟩⟩
    · rintro d ⟨x2, x3, x4, x5, x6, x7, x8, x9, x10⟩ w' hI hd hdp K hK
      dsimp only at hI
      obtain ⟨hS, ⟨f0, f2, f4, f6, f8, f10⟩, j, hj, ⟨dd1, dd3, dd5, dd7, dd9, dd11⟩, ⟨p0, p1, p2, p3, p4, p5, p6⟩⟩ := hI
      obtain rfl := f2 (hdp 2 (by decide +kernel))
      obtain rfl := ph_eq (k := 0) dd3 hd dd1 (hdp 1 (by decide +kernel))
      have s := p1 rfl
      clear p0 p1 p2 p3 p4 p5 p6 hj
      obtain ⟨KI, ⟨v0, i0⟩, G⟩ := s
      have kk := gwhole B R l w' _ _ G.ps
      have HG : Hid _ := (And.intro hS (And.intro v0 (And.intro i0 G)))
      clear hS v0 i0 G
      have HF : Hid _ := And.intro (And.intro f0 (And.intro f2 (And.intro f4 (And.intro f6 (And.intro f8 f10))))) (And.intro dd1 (And.intro dd3 (And.intro dd5 (And.intro dd7 (And.intro dd9 dd11)))))
      clear f0 f2 f4 f6 f8 f10 dd1 dd3 dd5 dd7 dd9 dd11 hdp hd
      refine Opn.mk ?_
      dsimp only
      go_simp
      go_wp2_with (first | (go_at_call 37; with_reducible refine kk.mono ?_; rintro e5 w5 ⟨FR, rfl, i1, G5⟩))
      obtain ⟨hS, v0, i0, G⟩ := HG.out
      obtain ⟨⟨f0, f2, f4, f6, f8, f10⟩, ⟨dd1, dd3, dd5, dd7, dd9, dd11⟩⟩ := HF.out
      refine hK.out (x2, x3, .pointer (some ⟨R, 0, none⟩), .int .i64 FR, x6, x7, x8, x9, x10) _ ⟨?sg, ⟨(fun h => f0 (upd_ne h (by decide))), (fun _ => rfl), (fun h => f4 (upd_ne h (by decide))), (fun h => f6 (upd_ne h (by decide))), (fun h => f8 (upd_ne h (by decide))), (fun h => f10 (upd_ne h (by decide)))⟩, 2, by decide, ⟨((upd_no (by decide)).trans (dd1.trans (by decide))), (by simp [upd]), ((upd_no (by decide)).trans (dd5.trans (by decide))), ((upd_no (by decide)).trans (dd7.trans (by decide))), ((upd_no (by decide)).trans (dd9.trans (by decide))), ((upd_no (by decide)).trans (dd11.trans (by decide)))⟩, ⟨(fun h => absurd h (by decide)), (fun h => absurd h (by decide)), (fun _ => ?new), (fun h => absurd h (by decide)), (fun h => absurd h (by decide)), (fun h => absurd h (by decide)), (fun h => absurd h (by decide))⟩⟩
      case sg => exact BxA.grow hS G5.g (by omega)
      case new =>
        exact ⟨KI, FR, ⟨v0, i0⟩, ⟨rfl, i1⟩, Got.comp2 hple (fwd_u l) (fwd_u l) G G5⟩
    · rintro d ⟨x2, x3, x4, x5, x6, x7, x8, x9, x10⟩ w' hI hd hdp K hK
      dsimp only at hI
      obtain ⟨hS, ⟨f0, f2, f4, f6, f8, f10⟩, j, hj, ⟨dd1, dd3, dd5, dd7, dd9, dd11⟩, ⟨p0, p1, p2, p3, p4, p5, p6⟩⟩ := hI
      have c0 : w'.cell? ⟨rb, 0, none⟩ = some (.pointer (some ⟨R, 0, none⟩)) := BxA.cell hS 0 _ rfl
      have HF : Hid _ := And.intro hS (And.intro (And.intro f0 (And.intro f2 (And.intro f4 (And.intro f6 (And.intro f8 f10))))) (And.intro hj (And.intro (And.intro dd1 (And.intro dd3 (And.intro dd5 (And.intro dd7 (And.intro dd9 dd11))))) (And.intro p0 (And.intro p1 (And.intro p2 (And.intro p3 (And.intro p4 (And.intro p5 p6)))))))))
      clear hS f0 f2 f4 f6 f8 f10 hj dd1 dd3 dd5 dd7 dd9 dd11 p0 p1 p2 p3 p4 p5 p6 hdp hd
      refine Opn.mk ?_
      dsimp only
      go_simp
      obtain ⟨hS, ⟨f0, f2, f4, f6, f8, f10⟩, hj, ⟨dd1, dd3, dd5, dd7, dd9, dd11⟩, ⟨p0, p1, p2, p3, p4, p5, p6⟩⟩ := HF.out
      exact hK.out (x2, x3, x4, x5, .pointer (some ⟨R, 0, none⟩), x7, x8, x9, x10) _ ⟨hS, ⟨(fun h => f0 (upd_ne h (by decide))), (fun h => f2 (upd_ne h (by decide))), (fun _ => rfl), (fun h => f6 (upd_ne h (by decide))), (fun h => f8 (upd_ne h (by decide))), (fun h => f10 (upd_ne h (by decide)))⟩, j, hj, ⟨((upd_no (by decide)).trans dd1), ((upd_no (by decide)).trans dd3), ((upd_no (by decide)).trans dd5), ((upd_no (by decide)).trans dd7), ((upd_no (by decide)).trans dd9), ((upd_no (by decide)).trans dd11)⟩, ⟨p0, p1, p2, p3, p4, p5, p6⟩⟩
    · rintro d ⟨x2, x3, x4, x5, x6, x7, x8, x9, x10⟩ w' hI hd hdp K hK
      dsimp only at hI
      obtain ⟨hS, ⟨f0, f2, f4, f6, f8, f10⟩, j, hj, ⟨dd1, dd3, dd5, dd7, dd9, dd11⟩, ⟨p0, p1, p2, p3, p4, p5, p6⟩⟩ := hI
      obtain rfl := f4 (hdp 4 (by decide +kernel))
      obtain rfl := ph_eq (k := 1) dd5 hd dd3 (hdp 3 (by decide +kernel))
      have s := p2 rfl
      clear p0 p1 p2 p3 p4 p5 p6 hj
      obtain ⟨KI, FR, ⟨v0, i0⟩, ⟨v1, i1⟩, G⟩ := s
      have kk := gwhole B R l w' _ _ G.ps
      have HG : Hid _ := (And.intro hS (And.intro v0 (And.intro i0 (And.intro v1 (And.intro i1 G)))))
      clear hS v0 i0 v1 i1 G
      have HF : Hid _ := And.intro (And.intro f0 (And.intro f2 (And.intro f4 (And.intro f6 (And.intro f8 f10))))) (And.intro dd1 (And.intro dd3 (And.intro dd5 (And.intro dd7 (And.intro dd9 dd11)))))
      clear f0 f2 f4 f6 f8 f10 dd1 dd3 dd5 dd7 dd9 dd11 hdp hd
      refine Opn.mk ?_
      dsimp only
      go_simp
      go_wp2_with (first | (go_at_call 37; with_reducible refine kk.mono ?_; rintro e5 w5 ⟨TO, rfl, i2, G5⟩))
      obtain ⟨hS, v0, i0, v1, i1, G⟩ := HG.out
      obtain ⟨⟨f0, f2, f4, f6, f8, f10⟩, ⟨dd1, dd3, dd5, dd7, dd9, dd11⟩⟩ := HF.out
      refine hK.out (x2, x3, x4, x5, .pointer (some ⟨R, 0, none⟩), .int .i64 TO, x8, x9, x10) _ ⟨?sg, ⟨(fun h => f0 (upd_ne h (by decide))), (fun h => f2 (upd_ne h (by decide))), (fun _ => rfl), (fun h => f6 (upd_ne h (by decide))), (fun h => f8 (upd_ne h (by decide))), (fun h => f10 (upd_ne h (by decide)))⟩, 3, by decide, ⟨((upd_no (by decide)).trans (dd1.trans (by decide))), ((upd_no (by decide)).trans (dd3.trans (by decide))), (by simp [upd]), ((upd_no (by decide)).trans (dd7.trans (by decide))), ((upd_no (by decide)).trans (dd9.trans (by decide))), ((upd_no (by decide)).trans (dd11.trans (by decide)))⟩, ⟨(fun h => absurd h (by decide)), (fun h => absurd h (by decide)), (fun h => absurd h (by decide)), (fun _ => ?new), (fun h => absurd h (by decide)), (fun h => absurd h (by decide)), (fun h => absurd h (by decide))⟩⟩
      case sg => exact BxA.grow hS G5.g (by omega)
      case new =>
        exact ⟨KI, FR, TO, ⟨v0, i0⟩, ⟨v1, i1⟩, ⟨rfl, i2⟩, Got.comp2 hple ((fwd_u l).comp (fwd_u l)) (fwd_u l) G G5⟩
    · rintro d ⟨x2, x3, x4, x5, x6, x7, x8, x9, x10⟩ w' hI hd hdp K hK
      dsimp only at hI
      obtain ⟨hS, ⟨f0, f2, f4, f6, f8, f10⟩, j, hj, ⟨dd1, dd3, dd5, dd7, dd9, dd11⟩, ⟨p0, p1, p2, p3, p4, p5, p6⟩⟩ := hI
      have HF : Hid _ := And.intro hS (And.intro (And.intro f0 (And.intro f2 (And.intro f4 (And.intro f6 (And.intro f8 f10))))) (And.intro hj (And.intro (And.intro dd1 (And.intro dd3 (And.intro dd5 (And.intro dd7 (And.intro dd9 dd11))))) (And.intro p0 (And.intro p1 (And.intro p2 (And.intro p3 (And.intro p4 (And.intro p5 p6)))))))))
      clear hS f0 f2 f4 f6 f8 f10 hj dd1 dd3 dd5 dd7 dd9 dd11 p0 p1 p2 p3 p4 p5 p6 hdp hd
      refine Opn.mk ?_
      dsimp only
      go_simp
      obtain ⟨hS, ⟨f0, f2, f4, f6, f8, f10⟩, hj, ⟨dd1, dd3, dd5, dd7, dd9, dd11⟩, ⟨p0, p1, p2, p3, p4, p5, p6⟩⟩ := HF.out
      exact hK.out (x2, x3, x4, x5, x6, x7, .pointer (some ⟨mb, 0, none⟩), x9, x10) _ ⟨hS, ⟨(fun h => f0 (upd_ne h (by decide))), (fun h => f2 (upd_ne h (by decide))), (fun h => f4 (upd_ne h (by decide))), (fun _ => rfl), (fun h => f8 (upd_ne h (by decide))), (fun h => f10 (upd_ne h (by decide)))⟩, j, hj, ⟨((upd_no (by decide)).trans dd1), ((upd_no (by decide)).trans dd3), ((upd_no (by decide)).trans dd5), ((upd_no (by decide)).trans dd7), ((upd_no (by decide)).trans dd9), ((upd_no (by decide)).trans dd11)⟩, ⟨p0, p1, p2, p3, p4, p5, p6⟩⟩
    · rintro d ⟨x2, x3, x4, x5, x6, x7, x8, x9, x10⟩ w' hI hd hdp K hK
      dsimp only at hI
      obtain ⟨hS, ⟨f0, f2, f4, f6, f8, f10⟩, j, hj, ⟨dd1, dd3, dd5, dd7, dd9, dd11⟩, ⟨p0, p1, p2, p3, p4, p5, p6⟩⟩ := hI
      obtain rfl := f6 (hdp 6 (by decide +kernel))
      obtain rfl := ph_eq (k := 2) dd7 hd dd5 (hdp 5 (by decide +kernel))
      have s := p3 rfl
      clear p0 p1 p2 p3 p4 p5 p6 hj
      obtain ⟨KI, FR, TO, ⟨rfl, i0⟩, ⟨rfl, i1⟩, ⟨rfl, i2⟩, G⟩ := s
      have ht3 : w'.there mb 0 41 := there_block (G.g.block mb hm (fun e => by simp only [Option.some.injEq] at e; omega)) HT.out
      obtain ⟨u0, hu0⟩ := there_cell ht3 0 (by decide)
      have hf0 := there_free ht3 0 (by decide)
      have HG : Hid _ := (And.intro hS (And.intro i0 (And.intro i1 (And.intro i2 G))))
      clear hS i0 i1 i2 G ht3 
      have HF : Hid _ := And.intro (And.intro f0 (And.intro f2 (And.intro f4 (And.intro f6 (And.intro f8 f10))))) (And.intro dd1 (And.intro dd3 (And.intro dd5 (And.intro dd7 (And.intro dd9 dd11)))))
      clear f0 f2 f4 f6 f8 f10 dd1 dd3 dd5 dd7 dd9 dd11 hdp hd
      refine Opn.mk ?_
      dsimp only
      go_simp
      obtain ⟨hS, i0, i1, i2, G⟩ := HG.out
      obtain ⟨⟨f0, f2, f4, f6, f8, f10⟩, ⟨dd1, dd3, dd5, dd7, dd9, dd11⟩⟩ := HF.out
      refine hK.out (x2, .int .i64 KI, x4, .int .i64 FR, x6, .int .i64 TO, .pointer (some ⟨mb, 0, none⟩), x9, x10) _ ⟨?sg, ⟨(fun h => f0 (upd_ne h (by decide))), (fun h => f2 (upd_ne h (by decide))), (fun h => f4 (upd_ne h (by decide))), (fun _ => rfl), (fun h => f8 (upd_ne h (by decide))), (fun h => f10 (upd_ne h (by decide)))⟩, 4, by decide, ⟨((upd_no (by decide)).trans (dd1.trans (by decide))), ((upd_no (by decide)).trans (dd3.trans (by decide))), ((upd_no (by decide)).trans (dd5.trans (by decide))), (by simp [upd]), ((upd_no (by decide)).trans (dd9.trans (by decide))), ((upd_no (by decide)).trans (dd11.trans (by decide)))⟩, ⟨(fun h => absurd h (by decide)), (fun h => absurd h (by decide)), (fun h => absurd h (by decide)), (fun h => absurd h (by decide)), (fun _ => ?new), (fun h => absurd h (by decide)), (fun h => absurd h (by decide))⟩⟩
      case sg => exact BxA.grow (R := mb) hS grown_setCell (by omega)
      case new =>
        exact ⟨KI, FR, TO, w', ⟨rfl, i0⟩, ⟨rfl, i1⟩, ⟨rfl, i2⟩, G, rfl⟩
    · rintro d ⟨x2, x3, x4, x5, x6, x7, x8, x9, x10⟩ w' hI hd hdp K hK
      dsimp only at hI
      obtain ⟨hS, ⟨f0, f2, f4, f6, f8, f10⟩, j, hj, ⟨dd1, dd3, dd5, dd7, dd9, dd11⟩, ⟨p0, p1, p2, p3, p4, p5, p6⟩⟩ := hI
      have HF : Hid _ := And.intro hS (And.intro (And.intro f0 (And.intro f2 (And.intro f4 (And.intro f6 (And.intro f8 f10))))) (And.intro hj (And.intro (And.intro dd1 (And.intro dd3 (And.intro dd5 (And.intro dd7 (And.intro dd9 dd11))))) (And.intro p0 (And.intro p1 (And.intro p2 (And.intro p3 (And.intro p4 (And.intro p5 p6)))))))))
      clear hS f0 f2 f4 f6 f8 f10 hj dd1 dd3 dd5 dd7 dd9 dd11 p0 p1 p2 p3 p4 p5 p6 hdp hd
      refine Opn.mk ?_
      dsimp only
      go_simp
      obtain ⟨hS, ⟨f0, f2, f4, f6, f8, f10⟩, hj, ⟨dd1, dd3, dd5, dd7, dd9, dd11⟩, ⟨p0, p1, p2, p3, p4, p5, p6⟩⟩ := HF.out
      exact hK.out (x2, x3, x4, x5, x6, x7, x8, .pointer (some ⟨mb, 1, none⟩), x10) _ ⟨hS, ⟨(fun h => f0 (upd_ne h (by decide))), (fun h => f2 (upd_ne h (by decide))), (fun h => f4 (upd_ne h (by decide))), (fun h => f6 (upd_ne h (by decide))), (fun _ => rfl), (fun h => f10 (upd_ne h (by decide)))⟩, j, hj, ⟨((upd_no (by decide)).trans dd1), ((upd_no (by decide)).trans dd3), ((upd_no (by decide)).trans dd5), ((upd_no (by decide)).trans dd7), ((upd_no (by decide)).trans dd9), ((upd_no (by decide)).trans dd11)⟩, ⟨p0, p1, p2, p3, p4, p5, p6⟩⟩
    · rintro d ⟨x2, x3, x4, x5, x6, x7, x8, x9, x10⟩ w' hI hd hdp K hK
      dsimp only at hI
      obtain ⟨hS, ⟨f0, f2, f4, f6, f8, f10⟩, j, hj, ⟨dd1, dd3, dd5, dd7, dd9, dd11⟩, ⟨p0, p1, p2, p3, p4, p5, p6⟩⟩ := hI
      obtain rfl := f8 (hdp 8 (by decide +kernel))
      obtain rfl := ph_eq (k := 3) dd9 hd dd7 (hdp 7 (by decide +kernel))
      have s := p4 rfl
      clear p0 p1 p2 p3 p4 p5 p6 hj
      obtain ⟨KI, FR, TO, w3, ⟨rfl, i0⟩, ⟨rfl, i1⟩, ⟨rfl, i2⟩, G, rfl⟩ := s
      have ht3 : w3.there mb 0 41 := there_block (G.g.block mb hm (fun e => by simp only [Option.some.injEq] at e; omega)) HT.out
      have tt0 := World.there_setCells ht3 mb 0 [.int .i64 KI]
      obtain ⟨u0, hu0⟩ := there_cell tt0 1 (by decide)
      have hf0 := there_free tt0 1 (by decide)
      have hu0' : (w3.setCell ⟨mb, 0, none⟩ (.int .i64 KI)).cell? ⟨mb, 1, none⟩ = some u0 := hu0
      have hf0' : (w3.setCell ⟨mb, 0, none⟩ (.int .i64 KI)).frozen? ⟨mb, 1, none⟩ = false := hf0
      have HG : Hid _ := (And.intro hS (And.intro i0 (And.intro i1 (And.intro i2 G))))
      clear hS i0 i1 i2 G ht3 tt0 hu0 hf0
      have HF : Hid _ := And.intro (And.intro f0 (And.intro f2 (And.intro f4 (And.intro f6 (And.intro f8 f10))))) (And.intro dd1 (And.intro dd3 (And.intro dd5 (And.intro dd7 (And.intro dd9 dd11)))))
      clear f0 f2 f4 f6 f8 f10 dd1 dd3 dd5 dd7 dd9 dd11 hdp hd
      refine Opn.mk ?_
      dsimp only
      go_simp
      obtain ⟨hS, i0, i1, i2, G⟩ := HG.out
      obtain ⟨⟨f0, f2, f4, f6, f8, f10⟩, ⟨dd1, dd3, dd5, dd7, dd9, dd11⟩⟩ := HF.out
      refine hK.out (x2, .int .i64 KI, x4, .int .i64 FR, x6, .int .i64 TO, x8, .pointer (some ⟨mb, 1, none⟩), x10) _ ⟨?sg, ⟨(fun h => f0 (upd_ne h (by decide))), (fun h => f2 (upd_ne h (by decide))), (fun h => f4 (upd_ne h (by decide))), (fun h => f6 (upd_ne h (by decide))), (fun _ => rfl), (fun h => f10 (upd_ne h (by decide)))⟩, 5, by decide, ⟨((upd_no (by decide)).trans (dd1.trans (by decide))), ((upd_no (by decide)).trans (dd3.trans (by decide))), ((upd_no (by decide)).trans (dd5.trans (by decide))), ((upd_no (by decide)).trans (dd7.trans (by decide))), (by simp [upd]), ((upd_no (by decide)).trans (dd11.trans (by decide)))⟩, ⟨(fun h => absurd h (by decide)), (fun h => absurd h (by decide)), (fun h => absurd h (by decide)), (fun h => absurd h (by decide)), (fun h => absurd h (by decide)), (fun _ => ?new), (fun h => absurd h (by decide))⟩⟩
      case sg => exact BxA.grow (R := mb) hS grown_setCell (by omega)
      case new =>
        exact ⟨KI, FR, TO, w3, ⟨rfl, i0⟩, ⟨rfl, i1⟩, ⟨rfl, i2⟩, G, rfl⟩
    · rintro d ⟨x2, x3, x4, x5, x6, x7, x8, x9, x10⟩ w' hI hd hdp K hK
      dsimp only at hI
      obtain ⟨hS, ⟨f0, f2, f4, f6, f8, f10⟩, j, hj, ⟨dd1, dd3, dd5, dd7, dd9, dd11⟩, ⟨p0, p1, p2, p3, p4, p5, p6⟩⟩ := hI
      have HF : Hid _ := And.intro hS (And.intro (And.intro f0 (And.intro f2 (And.intro f4 (And.intro f6 (And.intro f8 f10))))) (And.intro hj (And.intro (And.intro dd1 (And.intro dd3 (And.intro dd5 (And.intro dd7 (And.intro dd9 dd11))))) (And.intro p0 (And.intro p1 (And.intro p2 (And.intro p3 (And.intro p4 (And.intro p5 p6)))))))))
      clear hS f0 f2 f4 f6 f8 f10 hj dd1 dd3 dd5 dd7 dd9 dd11 p0 p1 p2 p3 p4 p5 p6 hdp hd
      refine Opn.mk ?_
      dsimp only
      go_simp
      obtain ⟨hS, ⟨f0, f2, f4, f6, f8, f10⟩, hj, ⟨dd1, dd3, dd5, dd7, dd9, dd11⟩, ⟨p0, p1, p2, p3, p4, p5, p6⟩⟩ := HF.out
      exact hK.out (x2, x3, x4, x5, x6, x7, x8, x9, .pointer (some ⟨mb, 2, none⟩)) _ ⟨hS, ⟨(fun h => f0 (upd_ne h (by decide))), (fun h => f2 (upd_ne h (by decide))), (fun h => f4 (upd_ne h (by decide))), (fun h => f6 (upd_ne h (by decide))), (fun h => f8 (upd_ne h (by decide))), (fun _ => rfl)⟩, j, hj, ⟨((upd_no (by decide)).trans dd1), ((upd_no (by decide)).trans dd3), ((upd_no (by decide)).trans dd5), ((upd_no (by decide)).trans dd7), ((upd_no (by decide)).trans dd9), ((upd_no (by decide)).trans dd11)⟩, ⟨p0, p1, p2, p3, p4, p5, p6⟩⟩
    · rintro d ⟨x2, x3, x4, x5, x6, x7, x8, x9, x10⟩ w' hI hd hdp K hK
      dsimp only at hI
      obtain ⟨hS, ⟨f0, f2, f4, f6, f8, f10⟩, j, hj, ⟨dd1, dd3, dd5, dd7, dd9, dd11⟩, ⟨p0, p1, p2, p3, p4, p5, p6⟩⟩ := hI
      obtain rfl := f10 (hdp 10 (by decide +kernel))
      obtain rfl := ph_eq (k := 4) dd11 hd dd9 (hdp 9 (by decide +kernel))
      have s := p5 rfl
      clear p0 p1 p2 p3 p4 p5 p6 hj
      obtain ⟨KI, FR, TO, w3, ⟨rfl, i0⟩, ⟨rfl, i1⟩, ⟨rfl, i2⟩, G, rfl⟩ := s
      have ht3 : w3.there mb 0 41 := there_block (G.g.block mb hm (fun e => by simp only [Option.some.injEq] at e; omega)) HT.out
      have tt0 := World.there_setCells ht3 mb 0 [.int .i64 KI]
      have tt1 := World.there_setCells tt0 mb 1 [.int .i64 FR]
      obtain ⟨u0, hu0⟩ := there_cell tt1 2 (by decide)
      have hf0 := there_free tt1 2 (by decide)
      have hu0' : ((w3.setCell ⟨mb, 0, none⟩ (.int .i64 KI)).setCell ⟨mb, 1, none⟩ (.int .i64 FR)).cell? ⟨mb, 2, none⟩ = some u0 := hu0
      have hf0' : ((w3.setCell ⟨mb, 0, none⟩ (.int .i64 KI)).setCell ⟨mb, 1, none⟩ (.int .i64 FR)).frozen? ⟨mb, 2, none⟩ = false := hf0
      have HG : Hid _ := (And.intro hS (And.intro i0 (And.intro i1 (And.intro i2 G))))
      clear hS i0 i1 i2 G ht3 tt0 tt1 hu0 hf0
      have HF : Hid _ := And.intro (And.intro f0 (And.intro f2 (And.intro f4 (And.intro f6 (And.intro f8 f10))))) (And.intro dd1 (And.intro dd3 (And.intro dd5 (And.intro dd7 (And.intro dd9 dd11)))))
      clear f0 f2 f4 f6 f8 f10 dd1 dd3 dd5 dd7 dd9 dd11 hdp hd
      refine Opn.mk ?_
      dsimp only
      go_simp
      obtain ⟨hS, i0, i1, i2, G⟩ := HG.out
      obtain ⟨⟨f0, f2, f4, f6, f8, f10⟩, ⟨dd1, dd3, dd5, dd7, dd9, dd11⟩⟩ := HF.out
      refine hK.out (x2, .int .i64 KI, x4, .int .i64 FR, x6, .int .i64 TO, x8, x9, .pointer (some ⟨mb, 2, none⟩)) _ ⟨?sg, ⟨(fun h => f0 (upd_ne h (by decide))), (fun h => f2 (upd_ne h (by decide))), (fun h => f4 (upd_ne h (by decide))), (fun h => f6 (upd_ne h (by decide))), (fun h => f8 (upd_ne h (by decide))), (fun _ => rfl)⟩, 6, by decide, ⟨((upd_no (by decide)).trans (dd1.trans (by decide))), ((upd_no (by decide)).trans (dd3.trans (by decide))), ((upd_no (by decide)).trans (dd5.trans (by decide))), ((upd_no (by decide)).trans (dd7.trans (by decide))), ((upd_no (by decide)).trans (dd9.trans (by decide))), (by simp [upd])⟩, ⟨(fun h => absurd h (by decide)), (fun h => absurd h (by decide)), (fun h => absurd h (by decide)), (fun h => absurd h (by decide)), (fun h => absurd h (by decide)), (fun h => absurd h (by decide)), (fun _ => ?new)⟩⟩
      case sg => exact BxA.grow (R := mb) hS grown_setCell (by omega)
      case new =>
        exact ⟨KI, FR, TO, w3, ⟨rfl, i0⟩, ⟨rfl, i1⟩, ⟨rfl, i2⟩, G, rfl⟩
  case he2 =>
    rintro d ⟨x2, x3, x4, x5, x6, x7, x8, x9, x10⟩ w' hall hI
    dsimp only at hI
    obtain ⟨hS, ⟨f0, f2, f4, f6, f8, f10⟩, j, hj, ⟨dd1, dd3, dd5, dd7, dd9, dd11⟩, ⟨p0, p1, p2, p3, p4, p5, p6⟩⟩ := hI
    obtain rfl := ph_end (k := 5) hj dd11 (hall 11 (by decide))
    have s := p6 rfl
    clear hall hj f0 f2 f4 f6 f8 f10 dd1 dd3 dd5 dd7 dd9 dd11 p0 p1 p2 p3 p4 p5 p6
    obtain ⟨KI, FR, TO, w3, ⟨-, i0⟩, ⟨-, i1⟩, ⟨-, i2⟩, G, hw⟩ := s
    have HG : Hid _ := And.intro i0 (And.intro i1 (And.intro i2 (And.intro G hw)))
    clear i0 i1 i2 G hw hS
    dsimp only
    go_wp2_with fail
    go_end0
    obtain ⟨i0, i1, i2, G, hw⟩ := HG.out
    exact ⟨⟨KI, FR, TO, rfl, ⟨i0, i1, i2⟩, Stp.of G HT.out hm hR (by simp) hw⟩⟩
/-- What the closure 2 of Get does. -/
structure Cp2 (B R : Nat) (l : Bs) (mb : Nat) (w : World) (p e : Nat) (ev : Ending) (w' : World) : Prop where
  out : ∃ (ID : Nat) (AS : Nat) (OF : Nat), ev = .returned (.tuple #[]) ∧ (InU ID ∧ InU AS ∧ InU OF) ∧ Stp B R l mb w w' (p, e) (fun s => skU l (skU l (skU l s))) ((Num.uv ID ++ Num.uv AS) ++ Num.uv OF) 3 [.int .u64 (ID : Int), .int .u64 (AS : Int), .int .u64 (OF : Int)]
set_option maxRecDepth 100000 in
set_option maxHeartbeats 3200000 in
theorem gc2 (B R : Nat) (l : Bs) (w : World) (rb mb p e : Nat) (_hlb : l.length ≤ 1048576) (hb : BxA w rb 88 #[.pointer (some ⟨R, 0, none⟩)]) (ht : w.there mb 0 41) (hm : mb < w.heap.size) (hR : R < mb) (h : PS B w R l p e) (hrb : rb ≠ mb) (hrR : R < rb) :
    Calls Try.prog 38 #[.pointer (some ⟨rb, 0, none⟩), .pointer (some ⟨mb, 0, none⟩)] w (Cp2 B R l mb w p e) := by
  have hple := h.le
  have mixed : Try.prog.follows .mixedOrders = true := by kernel_rfl
  have hSig0 : BxA w.drew rb 88 #[.pointer (some ⟨R, 0, none⟩)] := hb
  have hS00 : Got B R l w w.drew (p, e) (fun s => s) [] := Got.id h ⟨rfl, rfl, rfl, Nat.le_refl _, fun _ _ _ => rfl⟩
  have HT : Hid _ := ht
  clear hb ht h
  go_enter Try.func38, Try.ntmps38
  go_upto_region 0 with fail
  refine wp_region_invF (β := Value × Value × Value × Value × Value × Value × Value × Value × Value) (fun a0 xq => (((((((((a0.put (some 2) (xq.1)).put (some 3) (xq.2.1)).put (some 4) (xq.2.2.1)).put (some 5) (xq.2.2.2.1)).put (some 6) (xq.2.2.2.2.1)).put (some 7) (xq.2.2.2.2.2.1)).put (some 8) (xq.2.2.2.2.2.2.1)).put (some 9) (xq.2.2.2.2.2.2.2.1)).put (some 10) (xq.2.2.2.2.2.2.2.2))) ?fr2 (fun xq d w' => (BxA w' rb 88 #[.pointer (some ⟨R, 0, none⟩)]) ∧ ((d 0 = true → (xq.1) = .pointer (some ⟨R, 0, none⟩)) ∧ (d 2 = true → (xq.2.2.1) = .pointer (some ⟨R, 0, none⟩)) ∧ (d 4 = true → (xq.2.2.2.2.1) = .pointer (some ⟨R, 0, none⟩)) ∧ (d 6 = true → (xq.2.2.2.2.2.2.1) = .pointer (some ⟨mb, 3, none⟩)) ∧ (d 8 = true → (xq.2.2.2.2.2.2.2.1) = .pointer (some ⟨mb, 4, none⟩)) ∧ (d 10 = true → (xq.2.2.2.2.2.2.2.2) = .pointer (some ⟨mb, 5, none⟩))) ∧ ∃ j : Nat, j ≤ 6 ∧ (d 1 = decide (0 < j) ∧ d 3 = decide (1 < j) ∧ d 5 = decide (2 < j) ∧ d 7 = decide (3 < j) ∧ d 9 = decide (4 < j) ∧ d 11 = decide (5 < j)) ∧ ((j = 0 → Got B R l w w' (p, e) (fun s => s) ([])) ∧ (j = 1 → ∃ (ID : Nat), ((xq.2.1) = .int .u64 (ID : Int) ∧ InU ID) ∧ Got B R l w w' (p, e) (fun s => skU l s) (Num.uv ID)) ∧ (j = 2 → ∃ (ID : Nat) (AS : Nat), ((xq.2.1) = .int .u64 (ID : Int) ∧ InU ID) ∧ ((xq.2.2.2.1) = .int .u64 (AS : Int) ∧ InU AS) ∧ Got B R l w w' (p, e) (fun s => skU l (skU l s)) (Num.uv ID ++ Num.uv AS)) ∧ (j = 3 → ∃ (ID : Nat) (AS : Nat) (OF : Nat), ((xq.2.1) = .int .u64 (ID : Int) ∧ InU ID) ∧ ((xq.2.2.2.1) = .int .u64 (AS : Int) ∧ InU AS) ∧ ((xq.2.2.2.2.2.1) = .int .u64 (OF : Int) ∧ InU OF) ∧ Got B R l w w' (p, e) (fun s => skU l (skU l (skU l s))) ((Num.uv ID ++ Num.uv AS) ++ Num.uv OF)) ∧ (j = 4 → ∃ (ID : Nat) (AS : Nat) (OF : Nat) (w3 : World), ((xq.2.1) = .int .u64 (ID : Int) ∧ InU ID) ∧ ((xq.2.2.2.1) = .int .u64 (AS : Int) ∧ InU AS) ∧ ((xq.2.2.2.2.2.1) = .int .u64 (OF : Int) ∧ InU OF) ∧ Got B R l w w3 (p, e) (fun s => skU l (skU l (skU l s))) ((Num.uv ID ++ Num.uv AS) ++ Num.uv OF) ∧ w' = (w3.setCell ⟨mb, 3, none⟩ (.int .u64 (ID : Int)))) ∧ (j = 5 → ∃ (ID : Nat) (AS : Nat) (OF : Nat) (w3 : World), ((xq.2.1) = .int .u64 (ID : Int) ∧ InU ID) ∧ ((xq.2.2.2.1) = .int .u64 (AS : Int) ∧ InU AS) ∧ ((xq.2.2.2.2.2.1) = .int .u64 (OF : Int) ∧ InU OF) ∧ Got B R l w w3 (p, e) (fun s => skU l (skU l (skU l s))) ((Num.uv ID ++ Num.uv AS) ++ Num.uv OF) ∧ w' = ((w3.setCell ⟨mb, 3, none⟩ (.int .u64 (ID : Int))).setCell ⟨mb, 4, none⟩ (.int .u64 (AS : Int)))) ∧ (j = 6 → ∃ (ID : Nat) (AS : Nat) (OF : Nat) (w3 : World), ((xq.2.1) = .int .u64 (ID : Int) ∧ InU ID) ∧ ((xq.2.2.2.1) = .int .u64 (AS : Int) ∧ InU AS) ∧ ((xq.2.2.2.2.2.1) = .int .u64 (OF : Int) ∧ InU OF) ∧ Got B R l w w3 (p, e) (fun s => skU l (skU l (skU l s))) ((Num.uv ID ++ Num.uv AS) ++ Num.uv OF) ∧ w' = (((w3.setCell ⟨mb, 3, none⟩ (.int .u64 (ID : Int))).setCell ⟨mb, 4, none⟩ (.int .u64 (AS : Int))).setCell ⟨mb, 5, none⟩ (.int .u64 (OF : Int)))))) ?lay2 mixed (by kernel_rfl) ?h02 ?hs2 ?he2
  case lay2 =>
    intro xq
    simp only [Act.put, List.setIfInBounds_toArray, List.set_cons_zero, List.set_cons_succ]
    rfl
  case h02 =>
    refine ⟨(undef, undef, undef, undef, undef, undef, undef, undef, undef), rfl, ?sig2, ⟨(fun h => by cases h), (fun h => by cases h), (fun h => by cases h), (fun h => by cases h), (fun h => by cases h), (fun h => by cases h)⟩, 0, Nat.zero_le _, ⟨rfl, rfl, rfl, rfl, rfl, rfl⟩, ?S02, (fun h => by cases h), (fun h => by cases h), (fun h => by cases h), (fun h => by cases h), (fun h => by cases h), (fun h => by cases h)⟩
    case sig2 => exact hSig0
    case S02 => exact fun _ => hS00
  case hs2 =>
    refine ⟨?_, ?_, ?_, ?_, ?_, ?_, ?_, ?_, ?_, ?_, ?_, ?_, trivial⟩
    · rintro d ⟨x2, x3, x4, x5, x6, x7, x8, x9, x10⟩ w' hI hd hdp K hK
      dsimp only at hI
      obtain ⟨hS, ⟨f0, f2, f4, f6, f8, f10⟩, j, hj, ⟨dd1, dd3, dd5, dd7, dd9, dd11⟩, ⟨p0, p1, p2, p3, p4, p5, p6⟩⟩ := hI
      have c0 : w'.cell? ⟨rb, 0, none⟩ = some (.pointer (some ⟨R, 0, none⟩)) := BxA.cell hS 0 _ rfl
      have HF : Hid _ := And.intro hS (And.intro (And.intro f0 (And.intro f2 (And.intro f4 (And.intro f6 (And.intro f8 f10))))) (And.intro hj (And.intro (And.intro dd1 (And.intro dd3 (And.intro dd5 (And.intro dd7 (And.intro dd9 dd11))))) (And.intro p0 (And.intro p1 (And.intro p2 (And.intro p3 (And.intro p4 (And.intro p5 p6)))))))))
      clear hS f0 f2 f4 f6 f8 f10 hj dd1 dd3 dd5 dd7 dd9 dd11 p0 p1 p2 p3 p4 p5 p6 hdp hd
      refine Opn.mk ?_
      dsimp only
      go_simp
      obtain ⟨hS, ⟨f0, f2, f4, f6, f8, f10⟩, hj, ⟨dd1, dd3, dd5, dd7, dd9, dd11⟩, ⟨p0, p1, p2, p3, p4, p5, p6⟩⟩ := HF.out
      exact hK.out (.pointer (some ⟨R, 0, none⟩), x3, x4, x5, x6, x7, x8, x9, x10) _ ⟨hS, ⟨(fun _ => rfl), (fun h => f2 (upd_ne h (by decide))), (fun h => f4 (upd_ne h (by decide))), (fun h => f6 (upd_ne h (by decide))), (fun h => f8 (upd_ne h (by decide))), (fun h => f10 (upd_ne h (by decide)))⟩, j, hj, ⟨((upd_no (by decide)).trans dd1), ((upd_no (by decide)).trans dd3), ((upd_no (by decide)).trans dd5), ((upd_no (by decide)).trans dd7), ((upd_no (by decide)).trans dd9), ((upd_no (by decide)).trans dd11)⟩, ⟨p0, p1, p2, p3, p4, p5, p6⟩⟩
    · rintro d ⟨x2, x3, x4, x5, x6, x7, x8, x9, x10⟩ w' hI hd hdp K hK
      dsimp only at hI
      obtain ⟨hS, ⟨f0, f2, f4, f6, f8, f10⟩, j, hj, ⟨dd1, dd3, dd5, dd7, dd9, dd11⟩, ⟨p0, p1, p2, p3, p4, p5, p6⟩⟩ := hI
      obtain rfl := f0 (hdp 0 (by decide +kernel))
      obtain rfl := ph_zero dd1 hd
      have s := p0 rfl
      clear p0 p1 p2 p3 p4 p5 p6 hj
      have G := s
      clear s
      have kk := guint B R l w' _ _ G.ps
      have HG : Hid _ := And.intro hS G
      clear hS G
      have HF : Hid _ := And.intro (And.intro f0 (And.intro f2 (And.intro f4 (And.intro f6 (And.intro f8 f10))))) (And.intro dd1 (And.intro dd3 (And.intro dd5 (And.intro dd7 (And.intro dd9 dd11)))))
      clear f0 f2 f4 f6 f8 f10 dd1 dd3 dd5 dd7 dd9 dd11 hdp hd
      refine Opn.mk ?_
      dsimp only
      go_simp
      go_wp2_with (first | (go_at_call 39; with_reducible refine kk.mono ?_; rintro e5 w5 ⟨ID, rfl, i0, G5⟩))
      obtain ⟨hS, G⟩ := HG.out
      obtain ⟨⟨f0, f2, f4, f6, f8, f10⟩, ⟨dd1, dd3, dd5, dd7, dd9, dd11⟩⟩ := HF.out
      refine hK.out (.pointer (some ⟨R, 0, none⟩), .int .u64 (ID : Int), x4, x5, x6, x7, x8, x9, x10) _ ⟨?sg, ⟨(fun _ => rfl), (fun h => f2 (upd_ne h (by decide))), (fun h => f4 (upd_ne h (by decide))), (fun h => f6 (upd_ne h (by decide))), (fun h => f8 (upd_ne h (by decide))), (fun h => f10 (upd_ne h (by decide)))⟩, 1, by decide, ⟨(by simp [upd]), ((upd_no (by decide)).trans (dd3.trans (by decide))), ((upd_no (by decide)).trans (dd5.trans (by decide))), ((upd_no (by decide)).trans (dd7.trans (by decide))), ((upd_no (by decide)).trans (dd9.trans (by decide))), ((upd_no (by decide)).trans (dd11.trans (by decide)))⟩, ⟨(fun h => absurd h (by decide)), (fun _ => ?new), (fun h => absurd h (by decide)), (fun h => absurd h (by decide)), (fun h => absurd h (by decide)), (fun h => absurd h (by decide)), (fun h => absurd h (by decide))⟩⟩
      case sg => exact BxA.grow hS G5.g (by omega)
      case new =>
        exact ⟨ID, ⟨rfl, i0⟩, Got.comp2 hple (fwd_id l) (fwd_u l) G G5⟩
    · rintro d ⟨x2, x3, x4, x5, x6, x7, x8, x9, x10⟩ w' hI hd hdp K hK
      dsimp only at hI
      obtain ⟨hS, ⟨f0, f2, f4, f6, f8, f10⟩, j, hj, ⟨dd1, dd3, dd5, dd7, dd9, dd11⟩, ⟨p0, p1, p2, p3, p4, p5, p6⟩⟩ := hI
      have c0 : w'.cell? ⟨rb, 0, none⟩ = some (.pointer (some ⟨R, 0, none⟩)) := BxA.cell hS 0 _ rfl
      have HF : Hid _ := And.intro hS (And.intro (And.intro f0 (And.intro f2 (And.intro f4 (And.intro f6 (And.intro f8 f10))))) (And.intro hj (And.intro (And.intro dd1 (And.intro dd3 (And.intro dd5 (And.intro dd7 (And.intro dd9 dd11))))) (And.intro p0 (And.intro p1 (And.intro p2 (And.intro p3 (And.intro p4 (And.intro p5 p6)))))))))
      clear hS f0 f2 f4 f6 f8 f10 hj dd1 dd3 dd5 dd7 dd9 dd11 p0 p1 p2 p3 p4 p5 p6 hdp hd
      refine Opn.mk ?_
      dsimp only
      go_simp
      obtain ⟨hS, ⟨f0, f2, f4, f6, f8, f10⟩, hj, ⟨dd1, dd3, dd5, dd7, dd9, dd11⟩, ⟨p0, p1, p2, p3, p4, p5, p6⟩⟩ := HF.out
      exact hK.out (x2, x3, .pointer (some ⟨R, 0, none⟩), x5, x6, x7, x8, x9, x10) _ ⟨hS, ⟨(fun h => f0 (upd_ne h (by decide))), (fun _ => rfl), (fun h => f4 (upd_ne h (by decide))), (fun h => f6 (upd_ne h (by decide))), (fun h => f8 (upd_ne h (by decide))), (fun h => f10 (upd_ne h (by decide)))⟩, j, hj, ⟨((upd_no (by decide)).trans dd1), ((upd_no (by decide)).trans dd3), ((upd_no (by decide)).trans dd5), ((upd_no (by decide)).trans dd7), ((upd_no (by decide)).trans dd9), ((upd_no (by decide)).trans dd11)⟩, ⟨p0, p1, p2, p3, p4, p5, p6⟩⟩
    · rintro d ⟨x2, x3, x4, x5, x6, x7, x8, x9, x10⟩ w' hI hd hdp K hK
      dsimp only at hI
      obtain ⟨hS, ⟨f0, f2, f4, f6, f8, f10⟩, j, hj, ⟨dd1, dd3, dd5, dd7, dd9, dd11⟩, ⟨p0, p1, p2, p3, p4, p5, p6⟩⟩ := hI
      obtain rfl := f2 (hdp 2 (by decide +kernel))
      obtain rfl := ph_eq (k := 0) dd3 hd dd1 (hdp 1 (by decide +kernel))
      have s := p1 rfl
      clear p0 p1 p2 p3 p4 p5 p6 hj
      obtain ⟨ID, ⟨v0, i0⟩, G⟩ := s
      have kk := guint B R l w' _ _ G.ps
      have HG : Hid _ := (And.intro hS (And.intro v0 (And.intro i0 G)))
      clear hS v0 i0 G
      have HF : Hid _ := And.intro (And.intro f0 (And.intro f2 (And.intro f4 (And.intro f6 (And.intro f8 f10))))) (And.intro dd1 (And.intro dd3 (And.intro dd5 (And.intro dd7 (And.intro dd9 dd11)))))
      clear f0 f2 f4 f6 f8 f10 dd1 dd3 dd5 dd7 dd9 dd11 hdp hd
      refine Opn.mk ?_
      dsimp only
      go_simp
      go_wp2_with (first | (go_at_call 39; with_reducible refine kk.mono ?_; rintro e5 w5 ⟨AS, rfl, i1, G5⟩))
      obtain ⟨hS, v0, i0, G⟩ := HG.out
      obtain ⟨⟨f0, f2, f4, f6, f8, f10⟩, ⟨dd1, dd3, dd5, dd7, dd9, dd11⟩⟩ := HF.out
      refine hK.out (x2, x3, .pointer (some ⟨R, 0, none⟩), .int .u64 (AS : Int), x6, x7, x8, x9, x10) _ ⟨?sg, ⟨(fun h => f0 (upd_ne h (by decide))), (fun _ => rfl), (fun h => f4 (upd_ne h (by decide))), (fun h => f6 (upd_ne h (by decide))), (fun h => f8 (upd_ne h (by decide))), (fun h => f10 (upd_ne h (by decide)))⟩, 2, by decide, ⟨((upd_no (by decide)).trans (dd1.trans (by decide))), (by simp [upd]), ((upd_no (by decide)).trans (dd5.trans (by decide))), ((upd_no (by decide)).trans (dd7.trans (by decide))), ((upd_no (by decide)).trans (dd9.trans (by decide))), ((upd_no (by decide)).trans (dd11.trans (by decide)))⟩, ⟨(fun h => absurd h (by decide)), (fun h => absurd h (by decide)), (fun _ => ?new), (fun h => absurd h (by decide)), (fun h => absurd h (by decide)), (fun h => absurd h (by decide)), (fun h => absurd h (by decide))⟩⟩
      case sg => exact BxA.grow hS G5.g (by omega)
      case new =>
        exact ⟨ID, AS, ⟨v0, i0⟩, ⟨rfl, i1⟩, Got.comp2 hple (fwd_u l) (fwd_u l) G G5⟩
    · rintro d ⟨x2, x3, x4, x5, x6, x7, x8, x9, x10⟩ w' hI hd hdp K hK
      dsimp only at hI
      obtain ⟨hS, ⟨f0, f2, f4, f6, f8, f10⟩, j, hj, ⟨dd1, dd3, dd5, dd7, dd9, dd11⟩, ⟨p0, p1, p2, p3, p4, p5, p6⟩⟩ := hI
      have c0 : w'.cell? ⟨rb, 0, none⟩ = some (.pointer (some ⟨R, 0, none⟩)) := BxA.cell hS 0 _ rfl
      have HF : Hid _ := And.intro hS (And.intro (And.intro f0 (And.intro f2 (And.intro f4 (And.intro f6 (And.intro f8 f10))))) (And.intro hj (And.intro (And.intro dd1 (And.intro dd3 (And.intro dd5 (And.intro dd7 (And.intro dd9 dd11))))) (And.intro p0 (And.intro p1 (And.intro p2 (And.intro p3 (And.intro p4 (And.intro p5 p6)))))))))
      clear hS f0 f2 f4 f6 f8 f10 hj dd1 dd3 dd5 dd7 dd9 dd11 p0 p1 p2 p3 p4 p5 p6 hdp hd
      refine Opn.mk ?_
      dsimp only
      go_simp
      obtain ⟨hS, ⟨f0, f2, f4, f6, f8, f10⟩, hj, ⟨dd1, dd3, dd5, dd7, dd9, dd11⟩, ⟨p0, p1, p2, p3, p4, p5, p6⟩⟩ := HF.out
      exact hK.out (x2, x3, x4, x5, .pointer (some ⟨R, 0, none⟩), x7, x8, x9, x10) _ ⟨hS, ⟨(fun h => f0 (upd_ne h (by decide))), (fun h => f2 (upd_ne h (by decide))), (fun _ => rfl), (fun h => f6 (upd_ne h (by decide))), (fun h => f8 (upd_ne h (by decide))), (fun h => f10 (upd_ne h (by decide)))⟩, j, hj, ⟨((upd_no (by decide)).trans dd1), ((upd_no (by decide)).trans dd3), ((upd_no (by decide)).trans dd5), ((upd_no (by decide)).trans dd7), ((upd_no (by decide)).trans dd9), ((upd_no (by decide)).trans dd11)⟩, ⟨p0, p1, p2, p3, p4, p5, p6⟩⟩
    · rintro d ⟨x2, x3, x4, x5, x6, x7, x8, x9, x10⟩ w' hI hd hdp K hK
      dsimp only at hI
      obtain ⟨hS, ⟨f0, f2, f4, f6, f8, f10⟩, j, hj, ⟨dd1, dd3, dd5, dd7, dd9, dd11⟩, ⟨p0, p1, p2, p3, p4, p5, p6⟩⟩ := hI
      obtain rfl := f4 (hdp 4 (by decide +kernel))
      obtain rfl := ph_eq (k := 1) dd5 hd dd3 (hdp 3 (by decide +kernel))
      have s := p2 rfl
      clear p0 p1 p2 p3 p4 p5 p6 hj
      obtain ⟨ID, AS, ⟨v0, i0⟩, ⟨v1, i1⟩, G⟩ := s
      have kk := guint B R l w' _ _ G.ps
      have HG : Hid _ := (And.intro hS (And.intro v0 (And.intro i0 (And.intro v1 (And.intro i1 G)))))
      clear hS v0 i0 v1 i1 G
      have HF : Hid _ := And.intro (And.intro f0 (And.intro f2 (And.intro f4 (And.intro f6 (And.intro f8 f10))))) (And.intro dd1 (And.intro dd3 (And.intro dd5 (And.intro dd7 (And.intro dd9 dd11)))))
      clear f0 f2 f4 f6 f8 f10 dd1 dd3 dd5 dd7 dd9 dd11 hdp hd
      refine Opn.mk ?_
      dsimp only
      go_simp
      go_wp2_with (first | (go_at_call 39; with_reducible refine kk.mono ?_; rintro e5 w5 ⟨OF, rfl, i2, G5⟩))
      obtain ⟨hS, v0, i0, v1, i1, G⟩ := HG.out
      obtain ⟨⟨f0, f2, f4, f6, f8, f10⟩, ⟨dd1, dd3, dd5, dd7, dd9, dd11⟩⟩ := HF.out
      refine hK.out (x2, x3, x4, x5, .pointer (some ⟨R, 0, none⟩), .int .u64 (OF : Int), x8, x9, x10) _ ⟨?sg, ⟨(fun h => f0 (upd_ne h (by decide))), (fun h => f2 (upd_ne h (by decide))), (fun _ => rfl), (fun h => f6 (upd_ne h (by decide))), (fun h => f8 (upd_ne h (by decide))), (fun h => f10 (upd_ne h (by decide)))⟩, 3, by decide, ⟨((upd_no (by decide)).trans (dd1.trans (by decide))), ((upd_no (by decide)).trans (dd3.trans (by decide))), (by simp [upd]), ((upd_no (by decide)).trans (dd7.trans (by decide))), ((upd_no (by decide)).trans (dd9.trans (by decide))), ((upd_no (by decide)).trans (dd11.trans (by decide)))⟩, ⟨(fun h => absurd h (by decide)), (fun h => absurd h (by decide)), (fun h => absurd h (by decide)), (fun _ => ?new), (fun h => absurd h (by decide)), (fun h => absurd h (by decide)), (fun h => absurd h (by decide))⟩⟩
      case sg => exact BxA.grow hS G5.g (by omega)
      case new =>
        exact ⟨ID, AS, OF, ⟨v0, i0⟩, ⟨v1, i1⟩, ⟨rfl, i2⟩, Got.comp2 hple ((fwd_u l).comp (fwd_u l)) (fwd_u l) G G5⟩
    · rintro d ⟨x2, x3, x4, x5, x6, x7, x8, x9, x10⟩ w' hI hd hdp K hK
      dsimp only at hI
      obtain ⟨hS, ⟨f0, f2, f4, f6, f8, f10⟩, j, hj, ⟨dd1, dd3, dd5, dd7, dd9, dd11⟩, ⟨p0, p1, p2, p3, p4, p5, p6⟩⟩ := hI
      have HF : Hid _ := And.intro hS (And.intro (And.intro f0 (And.intro f2 (And.intro f4 (And.intro f6 (And.intro f8 f10))))) (And.intro hj (And.intro (And.intro dd1 (And.intro dd3 (And.intro dd5 (And.intro dd7 (And.intro dd9 dd11))))) (And.intro p0 (And.intro p1 (And.intro p2 (And.intro p3 (And.intro p4 (And.intro p5 p6)))))))))
      clear hS f0 f2 f4 f6 f8 f10 hj dd1 dd3 dd5 dd7 dd9 dd11 p0 p1 p2 p3 p4 p5 p6 hdp hd
      refine Opn.mk ?_
      dsimp only
      go_simp
      obtain ⟨hS, ⟨f0, f2, f4, f6, f8, f10⟩, hj, ⟨dd1, dd3, dd5, dd7, dd9, dd11⟩, ⟨p0, p1, p2, p3, p4, p5, p6⟩⟩ := HF.out
      exact hK.out (x2, x3, x4, x5, x6, x7, .pointer (some ⟨mb, 3, none⟩), x9, x10) _ ⟨hS, ⟨(fun h => f0 (upd_ne h (by decide))), (fun h => f2 (upd_ne h (by decide))), (fun h => f4 (upd_ne h (by decide))), (fun _ => rfl), (fun h => f8 (upd_ne h (by decide))), (fun h => f10 (upd_ne h (by decide)))⟩, j, hj, ⟨((upd_no (by decide)).trans dd1), ((upd_no (by decide)).trans dd3), ((upd_no (by decide)).trans dd5), ((upd_no (by decide)).trans dd7), ((upd_no (by decide)).trans dd9), ((upd_no (by decide)).trans dd11)⟩, ⟨p0, p1, p2, p3, p4, p5, p6⟩⟩
    · rintro d ⟨x2, x3, x4, x5, x6, x7, x8, x9, x10⟩ w' hI hd hdp K hK
      dsimp only at hI
      obtain ⟨hS, ⟨f0, f2, f4, f6, f8, f10⟩, j, hj, ⟨dd1, dd3, dd5, dd7, dd9, dd11⟩, ⟨p0, p1, p2, p3, p4, p5, p6⟩⟩ := hI
      obtain rfl := f6 (hdp 6 (by decide +kernel))
      obtain rfl := ph_eq (k := 2) dd7 hd dd5 (hdp 5 (by decide +kernel))
      have s := p3 rfl
      clear p0 p1 p2 p3 p4 p5 p6 hj
      obtain ⟨ID, AS, OF, ⟨rfl, i0⟩, ⟨rfl, i1⟩, ⟨rfl, i2⟩, G⟩ := s
      have ht3 : w'.there mb 0 41 := there_block (G.g.block mb hm (fun e => by simp only [Option.some.injEq] at e; omega)) HT.out
      obtain ⟨u0, hu0⟩ := there_cell ht3 3 (by decide)
      have hf0 := there_free ht3 3 (by decide)
      have HG : Hid _ := (And.intro hS (And.intro i0 (And.intro i1 (And.intro i2 G))))
      clear hS i0 i1 i2 G ht3 
      have HF : Hid _ := And.intro (And.intro f0 (And.intro f2 (And.intro f4 (And.intro f6 (And.intro f8 f10))))) (And.intro dd1 (And.intro dd3 (And.intro dd5 (And.intro dd7 (And.intro dd9 dd11)))))
      clear f0 f2 f4 f6 f8 f10 dd1 dd3 dd5 dd7 dd9 dd11 hdp hd
      refine Opn.mk ?_
      dsimp only
      go_simp
      obtain ⟨hS, i0, i1, i2, G⟩ := HG.out
      obtain ⟨⟨f0, f2, f4, f6, f8, f10⟩, ⟨dd1, dd3, dd5, dd7, dd9, dd11⟩⟩ := HF.out
      refine hK.out (x2, .int .u64 (ID : Int), x4, .int .u64 (AS : Int), x6, .int .u64 (OF : Int), .pointer (some ⟨mb, 3, none⟩), x9, x10) _ ⟨?sg, ⟨(fun h => f0 (upd_ne h (by decide))), (fun h => f2 (upd_ne h (by decide))), (fun h => f4 (upd_ne h (by decide))), (fun _ => rfl), (fun h => f8 (upd_ne h (by decide))), (fun h => f10 (upd_ne h (by decide)))⟩, 4, by decide, ⟨((upd_no (by decide)).trans (dd1.trans (by decide))), ((upd_no (by decide)).trans (dd3.trans (by decide))), ((upd_no (by decide)).trans (dd5.trans (by decide))), (by simp [upd]), ((upd_no (by decide)).trans (dd9.trans (by decide))), ((upd_no (by decide)).trans (dd11.trans (by decide)))⟩, ⟨(fun h => absurd h (by decide)), (fun h => absurd h (by decide)), (fun h => absurd h (by decide)), (fun h => absurd h (by decide)), (fun _ => ?new), (fun h => absurd h (by decide)), (fun h => absurd h (by decide))⟩⟩
      case sg => exact BxA.grow (R := mb) hS grown_setCell (by omega)
      case new =>
        exact ⟨ID, AS, OF, w', ⟨rfl, i0⟩, ⟨rfl, i1⟩, ⟨rfl, i2⟩, G, rfl⟩
    · rintro d ⟨x2, x3, x4, x5, x6, x7, x8, x9, x10⟩ w' hI hd hdp K hK
      dsimp only at hI
      obtain ⟨hS, ⟨f0, f2, f4, f6, f8, f10⟩, j, hj, ⟨dd1, dd3, dd5, dd7, dd9, dd11⟩, ⟨p0, p1, p2, p3, p4, p5, p6⟩⟩ := hI
      have HF : Hid _ := And.intro hS (And.intro (And.intro f0 (And.intro f2 (And.intro f4 (And.intro f6 (And.intro f8 f10))))) (And.intro hj (And.intro (And.intro dd1 (And.intro dd3 (And.intro dd5 (And.intro dd7 (And.intro dd9 dd11))))) (And.intro p0 (And.intro p1 (And.intro p2 (And.intro p3 (And.intro p4 (And.intro p5 p6)))))))))
      clear hS f0 f2 f4 f6 f8 f10 hj dd1 dd3 dd5 dd7 dd9 dd11 p0 p1 p2 p3 p4 p5 p6 hdp hd
      refine Opn.mk ?_
      dsimp only
      go_simp
      obtain ⟨hS, ⟨f0, f2, f4, f6, f8, f10⟩, hj, ⟨dd1, dd3, dd5, dd7, dd9, dd11⟩, ⟨p0, p1, p2, p3, p4, p5, p6⟩⟩ := HF.out
      exact hK.out (x2, x3, x4, x5, x6, x7, x8, .pointer (some ⟨mb, 4, none⟩), x10) _ ⟨hS, ⟨(fun h => f0 (upd_ne h (by decide))), (fun h => f2 (upd_ne h (by decide))), (fun h => f4 (upd_ne h (by decide))), (fun h => f6 (upd_ne h (by decide))), (fun _ => rfl), (fun h => f10 (upd_ne h (by decide)))⟩, j, hj, ⟨((upd_no (by decide)).trans dd1), ((upd_no (by decide)).trans dd3), ((upd_no (by decide)).trans dd5), ((upd_no (by decide)).trans dd7), ((upd_no (by decide)).trans dd9), ((upd_no (by decide)).trans dd11)⟩, ⟨p0, p1, p2, p3, p4, p5, p6⟩⟩
    · rintro d ⟨x2, x3, x4, x5, x6, x7, x8, x9, x10⟩ w' hI hd hdp K hK
      dsimp only at hI
      obtain ⟨hS, ⟨f0, f2, f4, f6, f8, f10⟩, j, hj, ⟨dd1, dd3, dd5, dd7, dd9, dd11⟩, ⟨p0, p1, p2, p3, p4, p5, p6⟩⟩ := hI
      obtain rfl := f8 (hdp 8 (by decide +kernel))
      obtain rfl := ph_eq (k := 3) dd9 hd dd7 (hdp 7 (by decide +kernel))
      have s := p4 rfl
      clear p0 p1 p2 p3 p4 p5 p6 hj
      obtain ⟨ID, AS, OF, w3, ⟨rfl, i0⟩, ⟨rfl, i1⟩, ⟨rfl, i2⟩, G, rfl⟩ := s
      have ht3 : w3.there mb 0 41 := there_block (G.g.block mb hm (fun e => by simp only [Option.some.injEq] at e; omega)) HT.out
      have tt0 := World.there_setCells ht3 mb 3 [.int .u64 (ID : Int)]
      obtain ⟨u0, hu0⟩ := there_cell tt0 4 (by decide)
      have hf0 := there_free tt0 4 (by decide)
      have hu0' : (w3.setCell ⟨mb, 3, none⟩ (.int .u64 (ID : Int))).cell? ⟨mb, 4, none⟩ = some u0 := hu0
      have hf0' : (w3.setCell ⟨mb, 3, none⟩ (.int .u64 (ID : Int))).frozen? ⟨mb, 4, none⟩ = false := hf0
      have HG : Hid _ := (And.intro hS (And.intro i0 (And.intro i1 (And.intro i2 G))))
      clear hS i0 i1 i2 G ht3 tt0 hu0 hf0
      have HF : Hid _ := And.intro (And.intro f0 (And.intro f2 (And.intro f4 (And.intro f6 (And.intro f8 f10))))) (And.intro dd1 (And.intro dd3 (And.intro dd5 (And.intro dd7 (And.intro dd9 dd11)))))
      clear f0 f2 f4 f6 f8 f10 dd1 dd3 dd5 dd7 dd9 dd11 hdp hd
      refine Opn.mk ?_
      dsimp only
      go_simp
      obtain ⟨hS, i0, i1, i2, G⟩ := HG.out
      obtain ⟨⟨f0, f2, f4, f6, f8, f10⟩, ⟨dd1, dd3, dd5, dd7, dd9, dd11⟩⟩ := HF.out
      refine hK.out (x2, .int .u64 (ID : Int), x4, .int .u64 (AS : Int), x6, .int .u64 (OF : Int), x8, .pointer (some ⟨mb, 4, none⟩), x10) _ ⟨?sg, ⟨(fun h => f0 (upd_ne h (by decide))), (fun h => f2 (upd_ne h (by decide))), (fun h => f4 (upd_ne h (by decide))), (fun h => f6 (upd_ne h (by decide))), (fun _ => rfl), (fun h => f10 (upd_ne h (by decide)))⟩, 5, by decide, ⟨((upd_no (by decide)).trans (dd1.trans (by decide))), ((upd_no (by decide)).trans (dd3.trans (by decide))), ((upd_no (by decide)).trans (dd5.trans (by decide))), ((upd_no (by decide)).trans (dd7.trans (by decide))), (by simp [upd]), ((upd_no (by decide)).trans (dd11.trans (by decide)))⟩, ⟨(fun h => absurd h (by decide)), (fun h => absurd h (by decide)), (fun h => absurd h (by decide)), (fun h => absurd h (by decide)), (fun h => absurd h (by decide)), (fun _ => ?new), (fun h => absurd h (by decide))⟩⟩
      case sg => exact BxA.grow (R := mb) hS grown_setCell (by omega)
      case new =>
        exact ⟨ID, AS, OF, w3, ⟨rfl, i0⟩, ⟨rfl, i1⟩, ⟨rfl, i2⟩, G, rfl⟩
    · rintro d ⟨x2, x3, x4, x5, x6, x7, x8, x9, x10⟩ w' hI hd hdp K hK
      dsimp only at hI
      obtain ⟨hS, ⟨f0, f2, f4, f6, f8, f10⟩, j, hj, ⟨dd1, dd3, dd5, dd7, dd9, dd11⟩, ⟨p0, p1, p2, p3, p4, p5, p6⟩⟩ := hI
      have HF : Hid _ := And.intro hS (And.intro (And.intro f0 (And.intro f2 (And.intro f4 (And.intro f6 (And.intro f8 f10))))) (And.intro hj (And.intro (And.intro dd1 (And.intro dd3 (And.intro dd5 (And.intro dd7 (And.intro dd9 dd11))))) (And.intro p0 (And.intro p1 (And.intro p2 (And.intro p3 (And.intro p4 (And.intro p5 p6)))))))))
      clear hS f0 f2 f4 f6 f8 f10 hj dd1 dd3 dd5 dd7 dd9 dd11 p0 p1 p2 p3 p4 p5 p6 hdp hd
      refine Opn.mk ?_
      dsimp only
      go_simp
      obtain ⟨hS, ⟨f0, f2, f4, f6, f8, f10⟩, hj, ⟨dd1, dd3, dd5, dd7, dd9, dd11⟩, ⟨p0, p1, p2, p3, p4, p5, p6⟩⟩ := HF.out
      exact hK.out (x2, x3, x4, x5, x6, x7, x8, x9, .pointer (some ⟨mb, 5, none⟩)) _ ⟨hS, ⟨(fun h => f0 (upd_ne h (by decide))), (fun h => f2 (upd_ne h (by decide))), (fun h => f4 (upd_ne h (by decide))), (fun h => f6 (upd_ne h (by decide))), (fun h => f8 (upd_ne h (by decide))), (fun _ => rfl)⟩, j, hj, ⟨((upd_no (by decide)).trans dd1), ((upd_no (by decide)).trans dd3), ((upd_no (by decide)).trans dd5), ((upd_no (by decide)).trans dd7), ((upd_no (by decide)).trans dd9), ((upd_no (by decide)).trans dd11)⟩, ⟨p0, p1, p2, p3, p4, p5, p6⟩⟩
    · rintro d ⟨x2, x3, x4, x5, x6, x7, x8, x9, x10⟩ w' hI hd hdp K hK
      dsimp only at hI
      obtain ⟨hS, ⟨f0, f2, f4, f6, f8, f10⟩, j, hj, ⟨dd1, dd3, dd5, dd7, dd9, dd11⟩, ⟨p0, p1, p2, p3, p4, p5, p6⟩⟩ := hI
      obtain rfl := f10 (hdp 10 (by decide +kernel))
      obtain rfl := ph_eq (k := 4) dd11 hd dd9 (hdp 9 (by decide +kernel))
      have s := p5 rfl
      clear p0 p1 p2 p3 p4 p5 p6 hj
      obtain ⟨ID, AS, OF, w3, ⟨rfl, i0⟩, ⟨rfl, i1⟩, ⟨rfl, i2⟩, G, rfl⟩ := s
      have ht3 : w3.there mb 0 41 := there_block (G.g.block mb hm (fun e => by simp only [Option.some.injEq] at e; omega)) HT.out
      have tt0 := World.there_setCells ht3 mb 3 [.int .u64 (ID : Int)]
      have tt1 := World.there_setCells tt0 mb 4 [.int .u64 (AS : Int)]
      obtain ⟨u0, hu0⟩ := there_cell tt1 5 (by decide)
      have hf0 := there_free tt1 5 (by decide)
      have hu0' : ((w3.setCell ⟨mb, 3, none⟩ (.int .u64 (ID : Int))).setCell ⟨mb, 4, none⟩ (.int .u64 (AS : Int))).cell? ⟨mb, 5, none⟩ = some u0 := hu0
      have hf0' : ((w3.setCell ⟨mb, 3, none⟩ (.int .u64 (ID : Int))).setCell ⟨mb, 4, none⟩ (.int .u64 (AS : Int))).frozen? ⟨mb, 5, none⟩ = false := hf0
      have HG : Hid _ := (And.intro hS (And.intro i0 (And.intro i1 (And.intro i2 G))))
      clear hS i0 i1 i2 G ht3 tt0 tt1 hu0 hf0
      have HF : Hid _ := And.intro (And.intro f0 (And.intro f2 (And.intro f4 (And.intro f6 (And.intro f8 f10))))) (And.intro dd1 (And.intro dd3 (And.intro dd5 (And.intro dd7 (And.intro dd9 dd11)))))
      clear f0 f2 f4 f6 f8 f10 dd1 dd3 dd5 dd7 dd9 dd11 hdp hd
      refine Opn.mk ?_
      dsimp only
      go_simp
      obtain ⟨hS, i0, i1, i2, G⟩ := HG.out
      obtain ⟨⟨f0, f2, f4, f6, f8, f10⟩, ⟨dd1, dd3, dd5, dd7, dd9, dd11⟩⟩ := HF.out
      refine hK.out (x2, .int .u64 (ID : Int), x4, .int .u64 (AS : Int), x6, .int .u64 (OF : Int), x8, x9, .pointer (some ⟨mb, 5, none⟩)) _ ⟨?sg, ⟨(fun h => f0 (upd_ne h (by decide))), (fun h => f2 (upd_ne h (by decide))), (fun h => f4 (upd_ne h (by decide))), (fun h => f6 (upd_ne h (by decide))), (fun h => f8 (upd_ne h (by decide))), (fun _ => rfl)⟩, 6, by decide, ⟨((upd_no (by decide)).trans (dd1.trans (by decide))), ((upd_no (by decide)).trans (dd3.trans (by decide))), ((upd_no (by decide)).trans (dd5.trans (by decide))), ((upd_no (by decide)).trans (dd7.trans (by decide))), ((upd_no (by decide)).trans (dd9.trans (by decide))), (by simp [upd])⟩, ⟨(fun h => absurd h (by decide)), (fun h => absurd h (by decide)), (fun h => absurd h (by decide)), (fun h => absurd h (by decide)), (fun h => absurd h (by decide)), (fun h => absurd h (by decide)), (fun _ => ?new)⟩⟩
      case sg => exact BxA.grow (R := mb) hS grown_setCell (by omega)
      case new =>
        exact ⟨ID, AS, OF, w3, ⟨rfl, i0⟩, ⟨rfl, i1⟩, ⟨rfl, i2⟩, G, rfl⟩
  case he2 =>
    rintro d ⟨x2, x3, x4, x5, x6, x7, x8, x9, x10⟩ w' hall hI
    dsimp only at hI
    obtain ⟨hS, ⟨f0, f2, f4, f6, f8, f10⟩, j, hj, ⟨dd1, dd3, dd5, dd7, dd9, dd11⟩, ⟨p0, p1, p2, p3, p4, p5, p6⟩⟩ := hI
    obtain rfl := ph_end (k := 5) hj dd11 (hall 11 (by decide))
    have s := p6 rfl
    clear hall hj f0 f2 f4 f6 f8 f10 dd1 dd3 dd5 dd7 dd9 dd11 p0 p1 p2 p3 p4 p5 p6
    obtain ⟨ID, AS, OF, w3, ⟨-, i0⟩, ⟨-, i1⟩, ⟨-, i2⟩, G, hw⟩ := s
    have HG : Hid _ := And.intro i0 (And.intro i1 (And.intro i2 (And.intro G hw)))
    clear i0 i1 i2 G hw hS
    dsimp only
    go_wp2_with fail
    go_end0
    obtain ⟨i0, i1, i2, G, hw⟩ := HG.out
    exact ⟨⟨ID, AS, OF, rfl, ⟨i0, i1, i2⟩, Stp.of G HT.out hm hR (by simp) hw⟩⟩
/-- What the closure 3 of Get does. -/
structure Cp3 (B R : Nat) (l : Bs) (mb : Nat) (w : World) (p e : Nat) (ev : Ending) (w' : World) : Prop where
  out : ∃ TE : Int, ev = .returned (.tuple #[]) ∧ In64 TE ∧ Stp B R l mb w w' (p, e) (skU l) (ei TE) 6 [.int .i64 TE]
set_option maxRecDepth 100000 in
set_option maxHeartbeats 3200000 in
theorem gc3 (B R : Nat) (l : Bs) (w : World) (rb mb p e : Nat) (_hlb : l.length ≤ 1048576) (hb : BxA w rb 88 #[.pointer (some ⟨R, 0, none⟩)]) (ht : w.there mb 0 41) (hm : mb < w.heap.size) (hR : R < mb) (h : PS B w R l p e) :
    Calls Try.prog 40 #[.pointer (some ⟨rb, 0, none⟩), .pointer (some ⟨mb, 0, none⟩)] w (Cp3 B R l mb w p e) := by
  have c0 : w.cell? ⟨rb, 0, none⟩ = some (.pointer (some ⟨R, 0, none⟩)) := BxA.cell hb 0 _ rfl
  have kk := gwhole B R l w p e h
  have HT : Hid _ := ht
  clear hb ht h
  go_enter Try.func40, Try.ntmps40
  go_wp2_with fail
  refine kk.mono ?_
  rintro ev w1 ⟨TE, rfl, iT, G⟩
  have HG : Hid _ := (And.intro iT G)
  have ht1 : w1.there mb 0 41 := there_block (G.g.block mb hm (fun e => by simp only [Option.some.injEq] at e; omega)) HT.out
  have HT1 : Hid _ := ht1
  obtain ⟨u0, hu0⟩ := there_cell ht1 6 (by decide)
  have hf0 := there_free ht1 6 (by decide)
  clear kk ht1 iT G
  go_wp2_with fail
  go_end0
  obtain ⟨iT, G⟩ := HG.out
  exact ⟨⟨TE, rfl, iT, Stp.of G HT.out hm hR (by simp) rfl⟩⟩
/-- What the closure 4 of Get does. -/
structure Cp4 (B R : Nat) (l : Bs) (mb : Nat) (w : World) (p e : Nat) (ev : Ending) (w' : World) : Prop where
  out : ∃ CN : Nat, ev = .returned (.tuple #[]) ∧ InU CN ∧ Stp B R l mb w w' (p, e) (skU l) (Num.uv CN) 7 [.int .u64 (CN : Int)]
set_option maxRecDepth 100000 in
set_option maxHeartbeats 3200000 in
theorem gc4 (B R : Nat) (l : Bs) (w : World) (rb mb p e : Nat) (_hlb : l.length ≤ 1048576) (hb : BxA w rb 88 #[.pointer (some ⟨R, 0, none⟩)]) (ht : w.there mb 0 41) (hm : mb < w.heap.size) (hR : R < mb) (h : PS B w R l p e) :
    Calls Try.prog 41 #[.pointer (some ⟨rb, 0, none⟩), .pointer (some ⟨mb, 0, none⟩)] w (Cp4 B R l mb w p e) := by
  have c0 : w.cell? ⟨rb, 0, none⟩ = some (.pointer (some ⟨R, 0, none⟩)) := BxA.cell hb 0 _ rfl
  have kk := guint B R l w p e h
  have HT : Hid _ := ht
  clear hb ht h
  go_enter Try.func41, Try.ntmps41
  go_wp2_with fail
  refine kk.mono ?_
  rintro ev w1 ⟨CN, rfl, iT, G⟩
  have HG : Hid _ := (And.intro iT G)
  have ht1 : w1.there mb 0 41 := there_block (G.g.block mb hm (fun e => by simp only [Option.some.injEq] at e; omega)) HT.out
  have HT1 : Hid _ := ht1
  obtain ⟨u0, hu0⟩ := there_cell ht1 7 (by decide)
  have hf0 := there_free ht1 7 (by decide)
  clear kk ht1 iT G
  go_wp2_with fail
  go_end0
  obtain ⟨iT, G⟩ := HG.out
  exact ⟨⟨CN, rfl, iT, Stp.of G HT.out hm hR (by simp) rfl⟩⟩
/-- What the closure 5 of Get does. -/
structure Cp5 (B R : Nat) (l : Bs) (mb : Nat) (w : World) (p e : Nat) (ev : Ending) (w' : World) : Prop where
  out : ∃ CO : Int, ev = .returned (.tuple #[]) ∧ In64 CO ∧ Stp B R l mb w w' (p, e) (skU l) (ei CO) 8 [.int .i64 CO]
set_option maxRecDepth 100000 in
set_option maxHeartbeats 3200000 in
theorem gc5 (B R : Nat) (l : Bs) (w : World) (rb mb p e : Nat) (_hlb : l.length ≤ 1048576) (hb : BxA w rb 88 #[.pointer (some ⟨R, 0, none⟩)]) (ht : w.there mb 0 41) (hm : mb < w.heap.size) (hR : R < mb) (h : PS B w R l p e) :
    Calls Try.prog 42 #[.pointer (some ⟨rb, 0, none⟩), .pointer (some ⟨mb, 0, none⟩)] w (Cp5 B R l mb w p e) := by
  have c0 : w.cell? ⟨rb, 0, none⟩ = some (.pointer (some ⟨R, 0, none⟩)) := BxA.cell hb 0 _ rfl
  have kk := gwhole B R l w p e h
  have HT : Hid _ := ht
  clear hb ht h
  go_enter Try.func42, Try.ntmps42
  go_wp2_with fail
  refine kk.mono ?_
  rintro ev w1 ⟨CO, rfl, iT, G⟩
  have HG : Hid _ := (And.intro iT G)
  have ht1 : w1.there mb 0 41 := there_block (G.g.block mb hm (fun e => by simp only [Option.some.injEq] at e; omega)) HT.out
  have HT1 : Hid _ := ht1
  obtain ⟨u0, hu0⟩ := there_cell ht1 8 (by decide)
  have hf0 := there_free ht1 8 (by decide)
  clear kk ht1 iT G
  go_wp2_with fail
  go_end0
  obtain ⟨iT, G⟩ := HG.out
  exact ⟨⟨CO, rfl, iT, Stp.of G HT.out hm hR (by simp) rfl⟩⟩
/-- What the closure 6 of Get does. -/
structure Cp6 (B R : Nat) (l : Bs) (mb : Nat) (w : World) (p e : Nat) (ev : Ending) (w' : World) : Prop where
  out : ∃ (FT : Int) (fa : Option Addr) (fn fc : Nat) (ts : List Fi.Str) (ga : Option Addr) (gn gc : Nat) (ms : List Int), ev = .returned (.tuple #[]) ∧ In64 FT ∧ (∀ t ∈ ts, t.length ≤ 1048576) ∧ (∀ x ∈ ms, In64 x) ∧ (Win w.heap.size w' fun w => Lst 1 cl_str w (.slice fa fn fc) ts ∧ Lst 1 cl_i64 w (.slice ga gn gc) ms) ∧ Stp B R l mb w w' (p, e) (skFact l) (ei FT ++ (r_txt ts ++ (Num.uv ms.length ++ ms.flatMap ei))) 9 [.int .i64 FT, .slice fa fn fc, .slice ga gn gc]
set_option maxRecDepth 100000 in
set_option maxHeartbeats 3200000 in
theorem gc6 (B R : Nat) (l : Bs) (w : World) (rb mb p e : Nat) (hlb : l.length ≤ 1048576) (hb : BxA w rb 88 #[.pointer (some ⟨R, 0, none⟩)]) (ht : w.there mb 0 41) (hm : mb < w.heap.size) (hR : R < mb) (h : PS B w R l p e) :
    Calls Try.prog 43 #[.pointer (some ⟨rb, 0, none⟩), .pointer (some ⟨mb, 0, none⟩)] w (Cp6 B R l mb w p e) := by
  have c0 : w.cell? ⟨rb, 0, none⟩ = some (.pointer (some ⟨R, 0, none⟩)) := BxA.cell hb 0 _ rfl
  have kk := gfact B R l w p e hlb h
  have HT : Hid _ := ht
  clear hb ht h
  go_enter Try.func43, Try.ntmps43
  go_wp2_with fail
  refine kk.mono ?_
  rintro ev w1 ⟨FT, tv, ts, mv, ms, rfl, iF, ow, tl, om, im, G⟩
  obtain ⟨fa, fn, fc, rfl⟩ := own_sl ow
  obtain ⟨ga, gn, gc, rfl⟩ := own_sl om
  have HG : Hid _ := (And.intro iF (And.intro ow (And.intro tl (And.intro om (And.intro im G)))))
  have ht1 : w1.there mb 0 41 := there_block (G.g.block mb hm (fun e => by simp only [Option.some.injEq] at e; omega)) HT.out
  have HT1 : Hid _ := ht1
  clear kk ht1 iF ow tl om im G
  go_wp2_with (first | (refine wpList_store_mid rfl 27 (.tmp 4) (.tmp 3) rfl mb 9 #[.int .i64 FT, .slice fa fn fc, .slice ga gn gc] rfl rfl (there_sub HT1.out 9 3 (by decide)) (by kernel_rfl) (by first | rfl | simp [Value.oneCell']) ?_))
  go_end0
  obtain ⟨iF, ow, tl, om, im, G⟩ := HG.out
  exact ⟨⟨FT, fa, fn, fc, ts, ga, gn, gc, ms, rfl, iF, tl, im, Win.cells (((own_win ow).both (own_win om)).imp fun _ r => ⟨Fi.RdsK.of_own r.1, Fi.RdsK.of_own r.2⟩) hm, Stp.of G HT.out hm hR (by simp) rfl⟩⟩
/-- What the closure 7 of Get does. -/
structure Cp7 (B R : Nat) (l : Bs) (mb : Nat) (w : World) (p e : Nat) (ev : Ending) (w' : World) : Prop where
  out : ∃ (q : Qw) (qa : Option Addr) (qn qc : Nat) (ra : Option Addr) (rn rc : Nat) (sa : Option Addr) (sn sc : Nat) (va : Option Addr) (vn vc : Nat), ev = .returned (.tuple #[]) ∧ q.t.tv = .slice qa qn qc ∧ q.t.kv = .slice ra rn rc ∧ q.sv = .slice sa sn sc ∧ q.av = .slice va vn vc ∧ (Win w.heap.size w' fun w => q.Ok w) ∧ Stp B R l mb w w' (p, e) (skQuery l) (r_query q) 12 [.int .i64 q.F, .int .i64 q.T, .int .i64 q.t.k, .int .i64 q.t.d, .slice qa qn qc, .int .i64 q.t.lo, .int .i64 q.t.hi, .slice ra rn rc, .int .i64 q.g, .slice sa sn sc, .slice va vn vc, .int .i64 q.G, .int .i64 q.R]
set_option maxRecDepth 100000 in
set_option maxHeartbeats 3200000 in
theorem gc7 (B R : Nat) (l : Bs) (w : World) (rb mb p e : Nat) (hlb : l.length ≤ 1048576) (hb : BxA w rb 88 #[.pointer (some ⟨R, 0, none⟩)]) (ht : w.there mb 0 41) (hm : mb < w.heap.size) (hR : R < mb) (h : PS B w R l p e) :
    Calls Try.prog 45 #[.pointer (some ⟨rb, 0, none⟩), .pointer (some ⟨mb, 0, none⟩)] w (Cp7 B R l mb w p e) := by
  have c0 : w.cell? ⟨rb, 0, none⟩ = some (.pointer (some ⟨R, 0, none⟩)) := BxA.cell hb 0 _ rfl
  have kk := gquery B R l w p e hlb h
  have HT : Hid _ := ht
  clear hb ht h
  go_enter Try.func45, Try.ntmps45
  go_wp2_with fail
  refine kk.mono ?_
  rintro ev w1 ⟨q, rfl, wq, ⟨⟨qa, qn, qc, e1⟩, ⟨ra, rn, rc, e2⟩, ⟨sa, sn, sc, e3⟩, ⟨va, vn, vc, e4⟩⟩, G⟩
  rw [e1, e2, e3, e4]
  have HG : Hid _ := (And.intro wq (And.intro e1 (And.intro e2 (And.intro e3 (And.intro e4 G)))))
  have ht1 : w1.there mb 0 41 := there_block (G.g.block mb hm (fun e => by simp only [Option.some.injEq] at e; omega)) HT.out
  have HT1 : Hid _ := ht1
  clear kk ht1 wq e1 e2 e3 e4 G
  go_wp2_with (first | (refine wpList_store_mid rfl 36 (.tmp 4) (.tmp 3) rfl mb 12 #[.int .i64 q.F, .int .i64 q.T, .int .i64 q.t.k, .int .i64 q.t.d, .slice qa qn qc, .int .i64 q.t.lo, .int .i64 q.t.hi, .slice ra rn rc, .int .i64 q.g, .slice sa sn sc, .slice va vn vc, .int .i64 q.G, .int .i64 q.R] rfl rfl (there_sub HT1.out 12 13 (by decide)) (by kernel_rfl) (by first | rfl | simp [Value.oneCell']) ?_))
  go_end0
  obtain ⟨wq, e1, e2, e3, e4, G⟩ := HG.out
  exact ⟨⟨q, qa, qn, qc, ra, rn, rc, sa, sn, sc, va, vn, vc, rfl, e1, e2, e3, e4, wq.cells hm, Stp.of G HT.out hm hR (by simp) rfl⟩⟩
/-- What the closure 8 of Get does. -/
structure Cp8 (B R : Nat) (l : Bs) (mb : Nat) (w : World) (p e : Nat) (ev : Ending) (w' : World) : Prop where
  out : ∃ (y : Sg) (F T : Int), ev = .returned (.tuple #[]) ∧ y.In ∧ In64 F ∧ In64 T ∧ Stp B R l mb w w' (p, e) (fun s => skSpan l (skSeg l s)) (r_seg y ++ r_span F T) 25 [.int .i64 y.F, .int .i64 y.T, .int .i64 y.V, .int .i64 y.P, .int .i64 y.C, .int .i64 F, .int .i64 T]
set_option maxRecDepth 100000 in
set_option maxHeartbeats 3200000 in
theorem gc8 (B R : Nat) (l : Bs) (w : World) (rb mb p e : Nat) (hlb : l.length ≤ 1048576) (hb : BxA w rb 88 #[.pointer (some ⟨R, 0, none⟩)]) (ht : w.there mb 0 41) (hm : mb < w.heap.size) (hR : R < mb) (h : PS B w R l p e) :
    Calls Try.prog 47 #[.pointer (some ⟨rb, 0, none⟩), .pointer (some ⟨mb, 0, none⟩)] w (Cp8 B R l mb w p e) := by
  have c0 : w.cell? ⟨rb, 0, none⟩ = some (.pointer (some ⟨R, 0, none⟩)) := BxA.cell hb 0 _ rfl
  have kk := gpiece B R l w p e hlb h
  have HT : Hid _ := ht
  clear hb ht h
  go_enter Try.func47, Try.ntmps47
  go_wp2_with fail
  refine kk.mono ?_
  rintro ev w1 ⟨y, F, T, rfl, iy, iF, iT, G⟩
  have HG : Hid _ := (And.intro iy (And.intro iF (And.intro iT G)))
  have ht1 : w1.there mb 0 41 := there_block (G.g.block mb hm (fun e => by simp only [Option.some.injEq] at e; omega)) HT.out
  have HT1 : Hid _ := ht1
  clear kk ht1 iy iF iT G
  go_wp2_with (first | (refine wpList_store_mid rfl 40 (.tmp 4) (.tmp 3) rfl mb 25 #[.int .i64 y.F, .int .i64 y.T, .int .i64 y.V, .int .i64 y.P, .int .i64 y.C, .int .i64 F, .int .i64 T] rfl rfl (there_sub HT1.out 25 7 (by decide)) (by kernel_rfl) (by first | rfl | simp [Value.oneCell']) ?_))
  go_end0
  obtain ⟨iy, iF, iT, G⟩ := HG.out
  exact ⟨⟨y, F, T, rfl, iy, iF, iT, Stp.of G HT.out hm hR (by simp) rfl⟩⟩
/-- What the closure 9 of Get does. -/
structure Cp9 (B R : Nat) (l : Bs) (mb : Nat) (w : World) (p e : Nat) (ev : Ending) (w' : World) : Prop where
  out : ∃ (od : Bool) (y : Sg) (n : Int), ev = .returned (.tuple #[]) ∧ y.In ∧ In64 n ∧ Stp B R l mb w w' (p, e) (fun s => skU l (skSeg l (skB l s))) (eb od ++ (r_seg y ++ ei n)) 32 [.bool od, .int .i64 y.F, .int .i64 y.T, .int .i64 y.V, .int .i64 y.P, .int .i64 y.C, .int .i64 n]
set_option maxRecDepth 100000 in
set_option maxHeartbeats 3200000 in
theorem gc9 (B R : Nat) (l : Bs) (w : World) (rb mb p e : Nat) (hlb : l.length ≤ 1048576) (hb : BxA w rb 88 #[.pointer (some ⟨R, 0, none⟩)]) (ht : w.there mb 0 41) (hm : mb < w.heap.size) (hR : R < mb) (h : PS B w R l p e) :
    Calls Try.prog 49 #[.pointer (some ⟨rb, 0, none⟩), .pointer (some ⟨mb, 0, none⟩)] w (Cp9 B R l mb w p e) := by
  have c0 : w.cell? ⟨rb, 0, none⟩ = some (.pointer (some ⟨R, 0, none⟩)) := BxA.cell hb 0 _ rfl
  have kk := gorder B R l w p e hlb h
  have HT : Hid _ := ht
  clear hb ht h
  go_enter Try.func49, Try.ntmps49
  go_wp2_with fail
  refine kk.mono ?_
  rintro ev w1 ⟨od, y, n, rfl, iy, iN, G⟩
  have HG : Hid _ := (And.intro iy (And.intro iN G))
  have ht1 : w1.there mb 0 41 := there_block (G.g.block mb hm (fun e => by simp only [Option.some.injEq] at e; omega)) HT.out
  have HT1 : Hid _ := ht1
  clear kk ht1 iy iN G
  go_wp2_with (first | (refine wpList_store_mid rfl 42 (.tmp 4) (.tmp 3) rfl mb 32 #[.bool od, .int .i64 y.F, .int .i64 y.T, .int .i64 y.V, .int .i64 y.P, .int .i64 y.C, .int .i64 n] rfl rfl (there_sub HT1.out 32 7 (by decide)) (by kernel_rfl) (by first | rfl | simp [Value.oneCell']) ?_))
  go_end0
  obtain ⟨iy, iN, G⟩ := HG.out
  exact ⟨⟨od, y, n, rfl, iy, iN, Stp.of G HT.out hm hR (by simp) rfl⟩⟩
/-- What the closure 10 of Get does. -/
structure Cp10 (B R : Nat) (l : Bs) (mb : Nat) (w : World) (p e : Nat) (ev : Ending) (w' : World) : Prop where
  out : ∃ (ya : Option Addr) (yn yc : Nat) (xs : List Sg), ev = .returned (.tuple #[]) ∧ (∀ x ∈ xs, x.In) ∧ (Win w.heap.size w' fun w => Lst 5 cl_seg w (.slice ya yn yc) xs) ∧ Stp B R l mb w w' (p, e) (skL l (skSeg l)) (Num.uv xs.length ++ xs.flatMap r_seg) 39 [.slice ya yn yc]
set_option maxRecDepth 100000 in
set_option maxHeartbeats 3200000 in
theorem gc10 (B R : Nat) (l : Bs) (w : World) (rb mb p e : Nat) (hlb : l.length ≤ 1048576) (hb : BxA w rb 88 #[.pointer (some ⟨R, 0, none⟩)]) (ht : w.there mb 0 41) (hm : mb < w.heap.size) (hR : R < mb) (h : PS B w R l p e) :
    Calls Try.prog 51 #[.pointer (some ⟨rb, 0, none⟩), .pointer (some ⟨mb, 0, none⟩)] w (Cp10 B R l mb w p e) := by
  have c0 : w.cell? ⟨rb, 0, none⟩ = some (.pointer (some ⟨R, 0, none⟩)) := BxA.cell hb 0 _ rfl
  have kk := gsegs B R l w p e hlb h
  have HT : Hid _ := ht
  clear hb ht h
  go_enter Try.func51, Try.ntmps51
  go_wp2_with fail
  refine kk.mono ?_
  rintro ev w1 ⟨v, xs, rfl, ow, ix, G⟩
  obtain ⟨ya, yn, yc, rfl⟩ := own_sl ow
  have HG : Hid _ := (And.intro ow (And.intro ix G))
  have ht1 : w1.there mb 0 41 := there_block (G.g.block mb hm (fun e => by simp only [Option.some.injEq] at e; omega)) HT.out
  have HT1 : Hid _ := ht1
  obtain ⟨u0, hu0⟩ := there_cell ht1 39 (by decide)
  have hf0 := there_free ht1 39 (by decide)
  clear kk ht1 ow ix G
  go_wp2_with fail
  go_end0
  obtain ⟨ow, ix, G⟩ := HG.out
  exact ⟨⟨ya, yn, yc, xs, rfl, ix, Win.cells (o := 39) (cs := [.slice ya yn yc]) ((own_win ow).imp fun _ r => Fi.RdsK.of_own r) hm, Stp.of G HT.out hm hR (by simp) rfl⟩⟩
/-- What the closure 11 of Get does. -/
structure Cp11 (B R : Nat) (l : Bs) (mb : Nat) (w : World) (p e : Nat) (ev : Ending) (w' : World) : Prop where
  out : ∃ (xa : Option Addr) (xn xc : Nat) (xs : List Gp), ev = .returned (.tuple #[]) ∧ (Win w.heap.size w' fun w => Lst 4 cl_grp w (.slice xa xn xc) xs ∧ ∀ x ∈ xs, x.Ok w) ∧ Stp B R l mb w w' (p, e) (skL l (skGrp l)) (Num.uv xs.length ++ xs.flatMap r_grp) 40 [.slice xa xn xc]
set_option maxRecDepth 100000 in
set_option maxHeartbeats 3200000 in
theorem gc11 (B R : Nat) (l : Bs) (w : World) (rb mb p e : Nat) (hlb : l.length ≤ 1048576) (hb : BxA w rb 88 #[.pointer (some ⟨R, 0, none⟩)]) (ht : w.there mb 0 41) (hm : mb < w.heap.size) (hR : R < mb) (h : PS B w R l p e) :
    Calls Try.prog 54 #[.pointer (some ⟨rb, 0, none⟩), .pointer (some ⟨mb, 0, none⟩)] w (Cp11 B R l mb w p e) := by
  have c0 : w.cell? ⟨rb, 0, none⟩ = some (.pointer (some ⟨R, 0, none⟩)) := BxA.cell hb 0 _ rfl
  have kk := ggrps B R l w p e hlb h
  have HT : Hid _ := ht
  clear hb ht h
  go_enter Try.func54, Try.ntmps54
  go_wp2_with fail
  refine kk.mono ?_
  rintro ev w1 ⟨v, xs, rfl, ow, ix, G⟩
  obtain ⟨xa, xn, xc, rfl⟩ := own_sl ow
  have HG : Hid _ := (And.intro ow (And.intro ix G))
  have ht1 : w1.there mb 0 41 := there_block (G.g.block mb hm (fun e => by simp only [Option.some.injEq] at e; omega)) HT.out
  have HT1 : Hid _ := ht1
  obtain ⟨u0, hu0⟩ := there_cell ht1 40 (by decide)
  have hf0 := there_free ht1 40 (by decide)
  clear kk ht1 ow ix G
  go_wp2_with fail
  go_end0
  obtain ⟨ow, ix, G⟩ := HG.out
  exact ⟨⟨xa, xn, xc, xs, rfl, Win.cells (o := 40) (cs := [.slice xa xn xc]) (((own_win ow).both (Win.all fun x hx => (ix x hx).win)).imp fun _ r => ⟨Fi.RdsK.of_own r.1, fun x hx => (r.2 x hx).ok⟩) hm, Stp.of G HT.out hm hR (by simp) rfl⟩⟩
end Go.Proofs.Ytpdlioidiobbbaa
