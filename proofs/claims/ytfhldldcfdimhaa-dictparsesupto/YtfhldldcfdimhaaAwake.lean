/- The contract of awake. -/
import Derived.Test.YtfhldldcfdimhaaBuild1
import Derived.Test.YtfhldldcfdimhaaByt
import Derived.Test.YtfhldldcfdimhaaWays3
namespace Go.Proofs.Ytfhldldcfdimhaa
open Go.RowKit Go.Shelf Go.Sort

theorem const_rds (w : World) (xs : List Value) (t : TypeId) (n : Nat) (hn : n = xs.length) (hm : xs.length ≤ maxLen) (C : Array Value) (hC : C = xs.toArray) :
    Rds (w.alloc (.cells C t)) (.slice (some ⟨w.heap.size, 0, none⟩) n n) xs := by
  subst hn hC
  refine ⟨some ⟨w.heap.size, 0, none⟩, _, rfl, Nat.le_refl _, hm, (fun h => by cases h), ?_⟩
  rintro ad ⟨rfl⟩ j u hj
  rw [Addr.add_lit]
  simpa using hj
def ts0 : List Str := [[98], [97, 98], [98], [97, 98, 99]]
def l0 : List Str := [[97, 98], [97, 98, 99], [98]]
theorem ris_l0 : Ris l0 := by unfold l0 Ris; decide
theorem uniq_ts0 : uniq ts0 = l0 := (uniq_facts ts0).1.ext ris_l0 fun t => by
  rw [(uniq_facts ts0).2]
  simp only [ts0, l0, List.mem_cons, List.not_mem_nil, or_false]
  constructor
  · rintro (h | h | h | h)
    · exact .inr (.inr h)
    · exact .inl h
    · exact .inr (.inr h)
    · exact .inr (.inl h)
  · rintro (h | h | h)
    · exact .inr (.inl h)
    · exact .inr (.inr (.inr h))
    · exact .inl h
theorem ok_ts0 : okT ts0 := ⟨by decide, by rw [uniq_ts0]; decide⟩
theorem l0_facts : frm l0 [98] = 2 ∧ frm l0 [97, 98] = 0 ∧ bgn l0 [97, 98] = 2 ∧ frm l0 [97, 98, 100] = 2 ∧ byts l0 = [3, 0, 2, 97, 98, 2, 1, 99, 0, 1, 98] := by decide +kernel

set_option maxRecDepth 100000 in
set_option maxHeartbeats 1600000 in
theorem awake_any (w : World) : Calls Try.prog 9 #[] w fun e w' => e = .returned (.bool true) ∧ Below w.heap.size w w' := by
  obtain ⟨f1, f2, f3, f4, f5⟩ := l0_facts
  obtain ⟨L, hL⟩ : ∃ L, L = l0 := ⟨_, rfl⟩
  have hm : ([98] : Str) ∈ L := by rw [hL]; decide
  have hll : L.length = 3 := by rw [hL]; rfl
  have hg : L.getD 0 [] = [97, 98] := by rw [hL]; rfl
  obtain ⟨T, hT⟩ : ∃ T, T = ts0 := ⟨_, rfl⟩
  have hTl : T.length = 4 := by rw [hT]; rfl
  have hok : okT T := by rw [hT]; exact ok_ts0
  have hu : uniq T = L := by rw [hT, hL]; exact uniq_ts0
  have HC : Hid (#[Value.string ⟨#[98]⟩, .string ⟨#[97, 98]⟩, .string ⟨#[98]⟩, .string ⟨#[97, 98, 99]⟩] = (sv T).toArray) := by rw [hT]; exact rfl
  rw [← hL] at f1 f2 f3 f4 f5
  have kB : ∀ w', Rds w' (.slice (some ⟨w.heap.size, 0, none⟩) 4 4) (sv T) → Calls Try.prog 10 #[.slice (some ⟨w.heap.size, 0, none⟩) 4 4] w' fun e w'' => ∃ p, e = .returned (.tuple #[p, .int .i64 0]) ∧ IDict w'' p L ∧ Below w'.heap.size w' w'' := fun w' h => by
    have := build_ok w' _ T h (by omega) hok
    rwa [hu] at this
  have kT : ∀ w' p, IDict w' p L → Calls Try.prog 17 #[p, .int .i64 0] w' fun e w'' => e = .returned (.tuple #[.string ⟨#[97, 98]⟩, .bool true]) ∧ w'' = w' := fun w' p h => by
    have := text_in w' p L (.inr h) 0 (by omega)
    rw [hg] at this
    exact this
  have kI : ∀ w' p, IDict w' p L → Calls Try.prog 18 #[p, .string ⟨#[98]⟩] w' fun e w'' => e = .returned (.tuple #[.int .i64 2, .bool true]) ∧ Below w'.heap.size w' w'' := fun w' p h => by
    have := id_in w' p L [98] (.inr h) hm
    rw [f1] at this
    exact this
  have kG : ∀ w' p, IDict w' p L → Calls Try.prog 19 #[p, .string ⟨#[97, 98]⟩] w' fun e w'' => e = .returned (.tuple #[.int .i64 0, .int .i64 2]) ∧ Below w'.heap.size w' w'' := fun w' p h => by
    have := begin_any w' p L [97, 98] (.inr h)
    rw [f2, f3] at this
    exact this
  have kL : ∀ w' p, IDict w' p L → Calls Try.prog 16 #[p] w' fun e w'' => e = .returned (.int .i64 3) ∧ w'' = w' := fun w' p h => by
    have := len_any w' p L (.inr h)
    rw [hll] at this
    exact this
  have kF : ∀ w' p, IDict w' p L → Calls Try.prog 20 #[p, .string ⟨#[97, 98, 100]⟩] w' fun e w'' => e = .returned (.int .i64 2) ∧ Below w'.heap.size w' w'' := fun w' p h => by
    have := from_any w' p L [97, 98, 100] (.inr h)
    rw [f4] at this
    exact this
  have kY : ∀ w' p, IDict w' p L → Calls Try.prog 15 #[p] w' fun e w'' => ∃ v', e = .returned v' ∧ Owns w'' w'.heap.size v' [3, 0, 2, 97, 98, 2, 1, 99, 0, 1, 98] ∧ Below w'.heap.size w' w'' := fun w' p h => by
    have := bytes_any w' p L h
    rw [f5] at this
    exact this
  have HTl := hide hTl
  clear f1 f2 f3 f4 f5 hm hll hg hT hL hok hu hTl
  go_enter Try.func9, Try.ntmps9
  go_wp2_with fail
  refine (kB _ (const_rds w (sv T) _ 4 (by rw [sv_length, unhide HTl]) (by rw [sv_length, unhide HTl]; unfold maxLen; omega) _ (unhide HC))).mono ?_
  rintro e w1 ⟨p, rfl, d1, b1⟩
  obtain ⟨B, v, rfl, _⟩ := id d1.ex
  have bw1 : Below w.heap.size w w1 := ((Below.refl _ _).alloc (Nat.le_refl _) _).trans (b1.mono (by simp))
  clear b1
  go_wp2_with fail
  refine (kT _ _ d1).mono ?_
  rintro e w2 ⟨rfl, rfl⟩
  go_wp2_with fail
  refine (kI _ _ d1).mono ?_
  rintro e w3 ⟨rfl, b3⟩
  have d3 := d1.below b3
  have bw3 := bw1.trans (b3.mono bw1.size)
  clear d1 b3
  go_wp2_with fail
  refine (kG _ _ d3).mono ?_
  rintro e w4 ⟨rfl, b4⟩
  have d4 := d3.below b4
  have bw4 := bw3.trans (b4.mono bw3.size)
  clear d3 b4
  go_wp2_with fail
  refine (kL _ _ d4).mono ?_
  rintro e w5 ⟨rfl, rfl⟩
  go_wp2_with fail
  refine (kF _ _ d4).mono ?_
  rintro e w6 ⟨rfl, b6⟩
  have d6 := d4.below b6
  have bw6 := bw4.trans (b6.mono bw4.size)
  clear d4 b6
  go_wp2_with fail
  refine (kY _ _ d6).mono ?_
  rintro e w7 ⟨v7, rfl, o7, b7⟩
  have bw7 := bw6.trans (b7.mono bw6.size)
  have cv := conv_string w7 v7 _ o7.reads
  clear o7 b7
  go_wp2_with fail
  go_ret
  exact ⟨rfl, bw7⟩
end Go.Proofs.Ytfhldldcfdimhaa
