/- The contract of tells. -/
import Derived.Test.YtfhldldcfdimhaaRefB
import Derived.Test.YtfhldldcfdimhaaWays3
import Derived.Test.YtfhldldcfdimhaaRowIn
namespace Go.Proofs.Ytfhldldcfdimhaa
open Go.RowKit Go.Shelf Go.Sort

theorem Rds.at {w w' : World} {v : Value} {l : List Str} {ao : Option Addr} {n c : Nat} (h : Rds w v (sv l)) (hv : v = .slice ao n c) (i : Nat) (hi : i < l.length) (hb : Below w.heap.size w w') :
    ∃ b off, ao = some ⟨b, off, none⟩ ∧ w'.cell? ⟨b, off + i, none⟩ = some (.string ⟨(l.getD i []).toArray⟩) := by
  subst hv
  obtain ⟨rfl, _, _, h3⟩ := h.cells
  obtain ⟨b, off, rfl, hc⟩ := h3 (by rw [sv_length]; omega)
  have := hc i _ (sv_get l i hi)
  exact ⟨b, off, rfl, (hb.cell (World.block_lt_of_cell? _ _ this)).trans this⟩

set_option maxRecDepth 100000 in
set_option maxHeartbeats 16000000 in
theorem tells_any (w : World) (p vl va vi : Value) (l asks : List Str) (ids : List Int) (hd : IDict w p l) (hl : Rds w vl (sv l)) (ha : Rds w va (sv asks)) (hi : Rds w vi (iv ids)) (hii : Ints ids) :
    Calls Try.prog 12 #[p, vl, va, vi] w fun e w' => e = .returned (.bool true) ∧ Below w.heap.size w w' := by
  obtain ⟨B, vv, rfl, _⟩ := id hd.ex
  obtain ⟨al, nl, cl, rfl⟩ : ∃ ao n cap, vl = .slice ao n cap := by obtain ⟨ao, cap, rfl, _⟩ := hl; exact ⟨_, _, _, rfl⟩
  obtain ⟨aa, na, ca, rfl⟩ : ∃ ao n cap, va = .slice ao n cap := by obtain ⟨ao, cap, rfl, _⟩ := ha; exact ⟨_, _, _, rfl⟩
  obtain ⟨ai, ni, ci, rfl⟩ : ∃ ao n cap, vi = .slice ao n cap := by obtain ⟨ao, cap, rfl, _⟩ := hi; exact ⟨_, _, _, rfl⟩
  have nl1 := hl.cells.1
  have na1 := ha.cells.1
  have ni1 := hi.cells.1
  rw [sv_length] at nl1 na1
  rw [iv_length] at ni1
  subst nl1 na1 ni1
  have ca1 := ha.cells.2.1
  have ca2 := ha.cells.2.2.1
  have ci1 := hi.cells.2.1
  have ci2 := hi.cells.2.2.1
  rw [sv_length] at ca1
  rw [iv_length] at ci1
  unfold maxLen at ca2 ci2
  have hle := hd.le
  have hri := hd.ris
  have kL : Calls Try.prog 16 #[.pointer (some ⟨B, 0, none⟩)] w.drew fun e w'' => e = .returned (.int .i64 (l.length : Nat)) ∧ w'' = w.drew := len_any w.drew _ l (.inr (hd.below (Below.refl _ _).drew))
  have b0 : Below w.heap.size w w.drew := (Below.refl _ _).drew
  have kY : ∀ w', Below w.heap.size w w' → Calls Try.prog 15 #[.pointer (some ⟨B, 0, none⟩)] w' fun e w'' => ∃ v', e = .returned v' ∧ Reads w'' v' (byts l) ∧ Below w.heap.size w w'' := fun w' hb => (bytes_any w' _ l (hd.below hb)).mono fun _ _ ⟨v', he, ho, hb'⟩ => ⟨v', he, ho.reads, hb.trans (hb'.mono hb.size)⟩
  have kR : ∀ w', Below w.heap.size w w' → Calls Try.prog 29 #[.slice al l.length cl] w' fun e w'' => ∃ v', e = .returned v' ∧ Reads w'' v' (byts l) ∧ Below w.heap.size w w'' ∧ Below w'.heap.size w' w'' := fun w' hb => (refbytes_any w' _ l (hl.below hb) hle hd.len).mono fun _ _ ⟨v', he, ho, hb'⟩ => ⟨v', he, ho.reads, hb.trans (hb'.mono hb.size), hb'⟩
  generalize byts l = Y at *
  have cv : ∀ w' v', Reads w' v' Y → (convert 33 9 v').run Try.prog w' = .ok (.string ⟨Y.toArray⟩) w' := fun w' v' h => conv_string w' v' Y h
  go_enter Try.func12, Try.ntmps12
  go_wp2_with fail
  go_cut [40] (fun t wA => t = .bool false ∧ Below w.heap.size w wA)
  case first =>
    clear hd hl ha hi hii hri
    go_region_with (first
      | (go_at_call 16; with_reducible refine kL.mono ?_; rintro e2 w2 ⟨rfl, rfl⟩)
      | (go_at_call 15; with_reducible refine (kY _ (by assumption)).mono ?_; rintro e3 w3 ⟨vY, rfl, rY, c3⟩; have t1 := cv w3 vY rY)
      | (go_at_call 29; with_reducible refine (kR _ (by assumption)).mono ?_; rintro e4 w4 ⟨vR, rfl, rR, c4, d4⟩; have t2 := cv w4 vR rR; have t3 := cv w4 vY (rY.below d4)))
    all_goals
      go_wp2_with fail
      go_meet
      case rel => exact ⟨by simp, c4⟩
  case rest =>
    obtain ⟨rfl, bA⟩ := hcut
    rename World => W
    clear kL kY kR cv b0
    have kT : ∀ w', Below w.heap.size w w' → ∀ i, i < l.length → Calls Try.prog 17 #[.pointer (some ⟨B, 0, none⟩), .int .i64 i] w' fun e w'' => e = .returned (.tuple #[.string ⟨(l.getD i []).toArray⟩, .bool true]) ∧ w'' = w' := fun w' hb i h => text_in w' _ l (.inr (hd.below hb)) i h
    have kO : ∀ w', Below w.heap.size w w' → ∀ z : Int, z < 0 ∨ (l.length : Int) ≤ z → Calls Try.prog 17 #[.pointer (some ⟨B, 0, none⟩), .int .i64 z] w' fun e w'' => e = .returned (.tuple #[.string ⟨#[]⟩, .bool false]) ∧ w'' = w' := fun w' hb z h => text_out w' _ l (.inr (hd.below hb)) z h
    have kI : ∀ w', Below w.heap.size w w' → ∀ t, t ∈ l → Calls Try.prog 18 #[.pointer (some ⟨B, 0, none⟩), .string ⟨t.toArray⟩] w' fun e w'' => e = .returned (.tuple #[.int .i64 (frm l t : Nat), .bool true]) ∧ Below w.heap.size w w'' := fun w' hb t h => (id_in w' _ l t (.inr (hd.below hb)) h).mono fun _ _ ⟨he, hb'⟩ => ⟨he, hb.trans (hb'.mono hb.size)⟩
    have kN : ∀ w', Below w.heap.size w w' → ∀ t, t ∉ l → Calls Try.prog 18 #[.pointer (some ⟨B, 0, none⟩), .string ⟨t.toArray⟩] w' fun e w'' => e = .returned (.tuple #[.int .i64 0, .bool false]) ∧ Below w.heap.size w w'' := fun w' hb t h => (id_out w' _ l t (.inr (hd.below hb)) h).mono fun _ _ ⟨he, hb'⟩ => ⟨he, hb.trans (hb'.mono hb.size)⟩
    have kF : ∀ w', Below w.heap.size w w' → ∀ t : Str, Calls Try.prog 20 #[.pointer (some ⟨B, 0, none⟩), .string ⟨t.toArray⟩] w' fun e w'' => e = .returned (.int .i64 (frm l t : Nat)) ∧ Below w.heap.size w w'' := fun w' hb t => (from_any w' _ l t (.inr (hd.below hb))).mono fun _ _ ⟨he, hb'⟩ => ⟨he, hb.trans (hb'.mono hb.size)⟩
    have kB : ∀ w', Below w.heap.size w w' → ∀ t : Str, Calls Try.prog 19 #[.pointer (some ⟨B, 0, none⟩), .string ⟨t.toArray⟩] w' fun e w'' => e = .returned (.tuple #[.int .i64 (frm l t : Nat), .int .i64 (bgn l t : Nat)]) ∧ Below w.heap.size w w'' := fun w' hb t => (begin_any w' _ l t (.inr (hd.below hb))).mono fun _ _ ⟨he, hb'⟩ => ⟨he, hb.trans (hb'.mono hb.size)⟩
    have jF : ∀ w', Below w.heap.size w w' → ∀ t : Str, Calls Try.prog 28 #[.slice al l.length cl, .string ⟨t.toArray⟩] w' fun e w'' => e = .returned (.int .i64 (frm l t : Nat)) ∧ w'' = w' := fun w' hb t => reffrom_any w' _ l t (hl.below hb) hri
    have jB : ∀ w', Below w.heap.size w w' → ∀ t : Str, Calls Try.prog 30 #[.slice al l.length cl, .string ⟨t.toArray⟩] w' fun e w'' => e = .returned (.tuple #[.int .i64 (frm l t : Nat), .int .i64 (bgn l t : Nat)]) ∧ w'' = w' := fun w' hb t => refbegin_any w' _ l t (hl.below hb) hri
    have cl' : ∀ w', Below w.heap.size w w' → ∀ i, i < l.length → ∃ b off, al = some ⟨b, off, none⟩ ∧ w'.cell? ⟨b, off + i, none⟩ = some (.string ⟨(l.getD i []).toArray⟩) := fun w' hb i h => hl.at rfl i h hb
    have ca' : ∀ w', Below w.heap.size w w' → ∀ i, i < asks.length → ∃ b off, aa = some ⟨b, off, none⟩ ∧ w'.cell? ⟨b, off + i, none⟩ = some (.string ⟨(asks.getD i []).toArray⟩) := fun w' hb i h => ha.at rfl i h hb
    have HT := hide kT
    have HO := hide kO
    have HI := hide kI
    have HNI := hide kN
    have HF := hide kF
    have HB := hide kB
    have JF := hide jF
    have JB := hide jB
    have HL := hide cl'
    have HA := hide ca'
    clear kT kO kI kN kF kB jF jB cl' ca' hd hl ha
    go_wp2_with fail
    go_loopw [9] (fun vi wr => ∃ i : Nat, vi = .int .i64 i ∧ Hid (i ≤ l.length) ∧ Below w.heap.size w wr) (fun vi _ => l.length - (intOf vi).toNat)
    case atStart => exact ⟨0, rfl, hide (by omega), bA⟩
    case round =>
      obtain ⟨i, rfl, hil, bel⟩ := hrel
      have hil := unhide hil
      by_cases hlt : i < l.length
      · have hlt' : (i : Int) < (l.length : Int) := by omega
        have t1 := unhide HT wr bel i hlt
        have hm : l.getD i [] ∈ l := by rw [getD_at hlt]; exact List.getElem_mem hlt
        have t2 := unhide HI wr bel _ hm
        have e2 : frm l (l.getD i []) = i := by rw [getD_at hlt]; exact frm_at hri i hlt
        rw [e2] at t2
        obtain ⟨b, off, rfl, hc⟩ := unhide HL wr bel i hlt
        have hcB : ∀ w', Below w.heap.size w w' → w'.cell? ⟨b, off + i, none⟩ = some (.string ⟨(l.getD i []).toArray⟩) := fun w' hb => by
          obtain ⟨b', off', he, hc'⟩ := unhide HL w' hb i hlt
          cases he
          exact hc'
        have HCB := hide hcB
        clear hcB hm e2
        generalize l.getD i [] = t at *
        go_wp2_with fail
        refine t1.mono ?_
        rintro e w3 ⟨rfl, rfl⟩
        go_wp2_with fail
        refine t2.mono ?_
        rintro e w4 ⟨rfl, b4⟩
        have hc4 := unhide HCB w4 b4
        go_wp2_with fail
        go_roundw
        case rel => exact ⟨i + 1, by go_num, hide (by omega), b4⟩
        case measure => simp [intOf]; omega
      · have hlt' : ¬ (i : Int) < (l.length : Int) := by omega
        obtain ⟨W1, rfl⟩ : ∃ W1, W1 = wr := ⟨_, rfl⟩
        go_wp2_with fail
        go_loopw [14] (fun vi wr => ∃ j : Nat, vi = .int .i64 j ∧ Hid (j ≤ asks.length) ∧ Below w.heap.size w wr) (fun vi _ => asks.length - (intOf vi).toNat)
        case atStart => exact ⟨0, rfl, hide (by omega), bel⟩
        case round =>
          obtain ⟨j, rfl, hjl, bej⟩ := hrel
          have hjl := unhide hjl
          by_cases hjt : j < asks.length
          · have hjt' : (j : Int) < (asks.length : Int) := by omega
            obtain ⟨b, off, rfl, hc⟩ := unhide HA wr bej j hjt
            have hcB : ∀ w', Below w.heap.size w w' → w'.cell? ⟨b, off + j, none⟩ = some (.string ⟨(asks.getD j []).toArray⟩) := fun w' hb => by
              obtain ⟨b', off', he, hc'⟩ := unhide HA w' hb j hjt
              cases he
              exact hc'
            have HCB := hide hcB
            clear hcB
            generalize asks.getD j [] = t at *
            have f1 := unhide JF wr bej t
            have f2 := unhide JB wr bej t
            have f3 := unhide HB wr bej t
            go_wp2_with fail
            refine f1.mono ?_
            rintro e w3 ⟨rfl, rfl⟩
            go_wp2_with fail
            refine f2.mono ?_
            rintro e w4 ⟨rfl, rfl⟩
            go_wp2_with fail
            refine f3.mono ?_
            rintro e w5 ⟨rfl, b5⟩
            have hc5 := unhide HCB w5 b5
            by_cases htl : t ∈ l
            · obtain ⟨g1, g2⟩ := (frm_there hri t).2 htl
              have k6 := unhide HI w5 b5 t htl
              have k7 := unhide HF
              have hlB : ∀ w', Below w.heap.size w w' → ∃ b off, al = some ⟨b, off, none⟩ ∧ w'.cell? ⟨b, off + frm l t, none⟩ = some (.string ⟨t.toArray⟩) := fun w' hb => by
                have := unhide HL w' hb _ g1
                rwa [g2] at this
              have k7 : ∀ w', Below w.heap.size w w' → Calls Try.prog 20 #[.pointer (some ⟨B, 0, none⟩), .string ⟨t.toArray⟩] w' fun e w'' => e = .returned (.int .i64 (frm l t : Nat)) ∧ Below w.heap.size w w'' := fun w' hb => unhide HF w' hb t
              have HLB := hide hlB
              have K7 := hide k7
              clear g2 hlB k7 f1 f2 f3 htl
              generalize frm l t = k at *
              generalize bgn l t = k2 at *
              have g1' : (k : Int) < (l.length : Int) := by omega
              go_wp2_with fail
              refine k6.mono ?_
              rintro e w6 ⟨rfl, b6⟩
              have hc6 := unhide HCB w6 b6
              obtain ⟨bl, ol, rfl, hcl⟩ := unhide HLB w6 b6
              go_wp2_with fail
              go_quiet (fail)
              go_wp2_with fail
              refine (unhide K7 _ (below_dN b6 _)).mono ?_
              rintro e w7 ⟨rfl, b7⟩
              go_wp2_with fail
              go_roundw
              case rel => exact ⟨j + 1, by go_num, hide (by omega), b7⟩
              case measure => simp [intOf]; omega
            · have hn : ¬ (frm l t < l.length ∧ l.getD (frm l t) [] = t) := fun x => htl ((frm_there hri t).1 x)
              have k6 := unhide HNI w5 b5 t htl
              have k7 : ∀ w', Below w.heap.size w w' → Calls Try.prog 20 #[.pointer (some ⟨B, 0, none⟩), .string ⟨t.toArray⟩] w' fun e w'' => e = .returned (.int .i64 (frm l t : Nat)) ∧ Below w.heap.size w w'' := fun w' hb => unhide HF w' hb t
              have K7 := hide k7
              by_cases g1 : frm l t < l.length
              · have g2 : ¬ l.getD (frm l t) [] = t := fun x => hn ⟨g1, x⟩
                have hlB : ∀ w', Below w.heap.size w w' → ∃ b off, al = some ⟨b, off, none⟩ ∧ w'.cell? ⟨b, off + frm l t, none⟩ = some (.string ⟨(l.getD (frm l t) []).toArray⟩) := fun w' hb => unhide HL w' hb _ g1
                have HLB := hide hlB
                clear hlB k7 f1 f2 f3 htl hn
                generalize l.getD (frm l t) [] = t' at *
                generalize frm l t = k at *
                generalize bgn l t = k2 at *
                have g1' : (k : Int) < (l.length : Int) := by omega
                have g3 := beq_str g2
                clear g2
                go_wp2_with fail
                refine k6.mono ?_
                rintro e w6 ⟨rfl, b6⟩
                have hc6 := unhide HCB w6 b6
                obtain ⟨bl, ol, rfl, hcl⟩ := unhide HLB w6 b6
                go_wp2_with fail
                go_quiet (fail)
                go_wp2_with fail
                refine (unhide K7 _ (below_dN b6 _)).mono ?_
                rintro e w7 ⟨rfl, b7⟩
                go_wp2_with fail
                go_roundw
                case rel => exact ⟨j + 1, by go_num, hide (by omega), b7⟩
                case measure => simp [intOf]; omega
              · clear k7 f1 f2 f3 htl hn
                generalize frm l t = k at *
                generalize bgn l t = k2 at *
                have g1' : ¬ (k : Int) < (l.length : Int) := by omega
                go_wp2_with fail
                refine k6.mono ?_
                rintro e w6 ⟨rfl, b6⟩
                have hc6 := unhide HCB w6 b6
                go_wp2_with fail
                go_quiet (fail)
                go_wp2_with fail
                refine (unhide K7 _ (below_dN b6 _)).mono ?_
                rintro e w7 ⟨rfl, b7⟩
                go_wp2_with fail
                go_roundw
                case rel => exact ⟨j + 1, by go_num, hide (by omega), b7⟩
                case measure => simp [intOf]; omega
          · have hjt' : ¬ (j : Int) < (asks.length : Int) := by omega
            obtain ⟨W2, rfl⟩ : ∃ W2, W2 = wr := ⟨_, rfl⟩
            go_wp2_with fail
            go_loopw [23] (fun vi wq => ∃ m : Nat, vi = .int .i64 m ∧ Hid (m ≤ ids.length) ∧ Hid (wq = W2)) (fun vi _ => ids.length - (intOf vi).toNat)
            case atStart => exact ⟨0, rfl, hide (by omega), hide rfl⟩
            case round =>
              obtain ⟨m, rfl, hml, hwq⟩ := hrel
              have hml := unhide hml
              obtain rfl := unhide hwq
              by_cases hmt : m < ids.length
              · have hmt' : (m : Int) < (ids.length : Int) := by omega
                obtain ⟨b, off, rfl, hc⟩ := hi.cells.2.2.2 (by rw [iv_length]; omega)
                have hcm := hc m _ (iv_get ids m hmt)
                rw [← bej.cell (World.block_lt_of_cell? _ _ hcm)] at hcm
                have hz := hii.at m hmt
                generalize ids.getD m 0 = z at *
                clear hc
                by_cases hin : 0 ≤ z ∧ z < (l.length : Int)
                · obtain ⟨k, rfl⟩ : ∃ k : Nat, z = k := ⟨z.toNat, by omega⟩
                  have hk : k < l.length := by omega
                  have hk' : (k : Int) < (l.length : Int) := by omega
                  have k1 := unhide HT _ bej k hk
                  obtain ⟨bl, ol, rfl, hcl⟩ := unhide HL _ bej k hk
                  generalize l.getD k [] = t at *
                  have e0 : (0 : Int) ≤ (k : Int) := by omega
                  clear hin
                  go_wp2_with fail
                  refine k1.mono ?_
                  rintro e w3 ⟨rfl, rfl⟩
                  go_wp2_with fail
                  go_roundw
                  case rel => exact ⟨m + 1, by go_num, hide (by omega), hide trivial⟩
                  case measure => simp [intOf]; omega
                · have k1 := unhide HO _ bej z (by omega)
                  by_cases e0 : 0 ≤ z
                  · have e1 : ¬ z < (l.length : Int) := by omega
                    go_wp2_with fail
                    refine k1.mono ?_
                    rintro e w3 ⟨rfl, rfl⟩
                    go_wp2_with fail
                    go_roundw
                    case rel => exact ⟨m + 1, by go_num, hide (by omega), hide trivial⟩
                    case measure => simp [intOf]; omega
                  · go_wp2_with fail
                    refine k1.mono ?_
                    rintro e w3 ⟨rfl, rfl⟩
                    go_wp2_with fail
                    go_roundw
                    case rel => exact ⟨m + 1, by go_num, hide (by omega), hide trivial⟩
                    case measure => simp [intOf]; omega
              · have hmt' : ¬ (m : Int) < (ids.length : Int) := by omega
                go_wp2_with fail
                go_ret
                exact ⟨rfl, bej⟩
end Go.Proofs.Ytfhldldcfdimhaa
