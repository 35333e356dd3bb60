/- maps.Keys at spans: its iterator gives each key once. -/
import Derived.Test.YtmnlkmgpikilbaaSpn
import Derived.RangeFuncNested
import Derived.RangeFuncBound
import Derived.RangeFuncCalls
import Derived.RangeFuncLeaves
import Derived.Shelf.Abstract
import Derived.Shelf.RegionOpen
import Derived.WalkKit
import Derived.OwnWalkIn
import Derived.TacticsInMore
import Derived.LoopNIn
import Derived.LoopIn
import Derived.Sort.MapsRangeIn
import Derived.Maps.AppendAt
import Derived.RangeFuncGives
import Derived.RangeFuncStops
import Derived.Sort.Defs
namespace Go.Proofs.Ytmnlkmgpikilbaa
open Go.RowKit Go.Maps Go.Sort Go.Shelf
attribute [local go_sem] Oper.semAt_some
set_option linter.unusedVariables false

def enc (x : K2) : Value := .agg #[.int .i64 x.1, .int .i64 x.2]
def mkV (c : Option Nat × Nat × Nat) : Value := match c with
  | (none, n, m) => .slice none n m
  | (some g, n, m) => .slice (some ⟨g, 0, none⟩) n m
theorem inv_sel (v : Value) (y : DataW Unit × List MemPlace) (h : sel v = some y) : ∃ c, v = mkV c := by
  unfold sel at h
  split at h
  · rename_i n m
    exact ⟨(none, n, m), rfl⟩
  · rename_i g n m
    exact ⟨(some g, n, m), rfl⟩
  · cases h
/-- What has come: keys of the map that are no more left, each once. -/
structure Col (D0 : DataW Unit) (left : Lit → Bool) (ss : List K2) : Prop where
  nd : ss.Nodup
  b2 : ∀ x ∈ ss, B2 x
  mem : ∀ x, B2 x → (x ∈ ss ↔ Maps.has D0 (kl x) = true ∧ left (kl x) = false)
theorem Col.start (D0 : DataW Unit) : Col D0 (Maps.has D0) [] := ⟨List.nodup_nil, (fun x h => by cases h), fun x hx => ⟨(fun h => by cases h), (fun h => by have h1 := h.1; rw [h.2] at h1; cases h1)⟩⟩
theorem Col.step {D0 : DataW Unit} {left : Lit → Bool} {ss : List K2} (h : Col D0 left ss) {x : K2} (hx : B2 x) (hl : left (kl x) = true) (hh : Maps.has D0 (kl x) = true) : Col D0 (fun z => left z && !z.sameKey (kl x)) (ss ++ [x]) := by
  have hs : Lit.sameKey (kl x) (kl x) = true := WideAt.sameKey_self (kl_key _ hx)
  refine ⟨List.nodup_append.2 ⟨h.nd, by simp, fun a ha b hb e => ?_⟩, fun y hy => ?_, fun y hy => ?_⟩
  · simp at hb
    subst hb
    subst e
    have := ((h.mem a hx).1 ha).2
    rw [hl] at this
    cases this
  · rcases List.mem_append.1 hy with hy | hy
    · exact h.b2 y hy
    · simp at hy; rw [hy]; exact hx
  · by_cases e : y = x
    · subst e
      simp [hh, hs]
    · have h1 : Lit.sameKey (kl y) (kl x) = false := Maps.sameKey_ne fun q => e (kl_inj hy hx q)
      simp [h1, h.mem y hy, e]
set_option maxRecDepth 100000 in
set_option maxHeartbeats 1000000 in
theorem keysS_in (F : Fence) (n : Nat) (h10 : F.fn 55) (hro : F.round = none) (hn : 1 ≤ n) (l Bm b nn : Nat) (D0 : DataW Unit) (J Jx : List K2 → World → Prop)
    (hY : ∀ pre x W, J pre W → pre.length < Maps.size D0 → YieldAt F (n - 1) Try.prog l #[enc x] W fun e W' =>
      (e = .returned (.bool true) ∧ J (pre ++ [x]) W' ∧ KeepsWalks W W') ∨ (e = .returned (.bool false) ∧ Jx (pre ++ [x]) W'))
    (W : World) (hJ : AbidesFrom W.heap.size J) (hm : W.cell? ⟨Bm, 0, none⟩ = some (.map (some b))) (hown : W.ownsMap Try.prog 67 sel b nn D0) (h0 : J [] W) :
    CallsIn F n Try.prog 55 #[.func (.yield l) #[] #[], .pointer (some ⟨Bm, 0, none⟩)] W fun e W' => (∃ v, e = .returned v) ∧
      ((∃ ss, Col D0 (fun _ => false) ss ∧ J ss W') ∨ (∃ pre, True ∧ Jx pre W')) := by
  refine callsIn_of_wp Try.func55 rfl h10 ?_ hro
  simp only [Try.ntmps55, List.size_toArray, List.length_cons, List.length_nil, Nat.reduceAdd, Nat.reduceSub, Array.replicate_succ, Array.replicate_zero, List.push_toArray, List.append_toArray, List.nil_append, List.cons_append]
  gi_wp2_with (first
    | (gi_at_range; refine wpListIn_range_own _ rfl _ 100 rfl 67 43 law Try.underlying100 _ b nn _ rfl hown ?_; intro w0 hrg0 hg0 hs0)
    | gi_in)
  go_frame
  gi_loopw [3] (fun _ wr => ∃ (left : Lit → Bool) (cnt : Nat) (ss : List K2), wr.ranges Try.prog 67 sel b W.heap.size nn D0 left cnt ∧ ss.length + cnt ≤ Maps.size D0 ∧ Col D0 left ss ∧ J ss wr)
    (fun _ wr => wr.rangeLeft b W.heap.size)
  case atStart =>
    exact ⟨_, _, [], hrg0, by simp, Col.start D0, hJ [] W w0 none h0 hg0 (fun r e => by cases e)⟩
  case round =>
    obtain ⟨left, cnt, ss, hrg, hcs, hC, hJs⟩ := hrel
    gi_wp2_with (first
      | (gi_at_next; refine wpListIn_next_ranges _ rfl _ rfl 67 law sel enc mkV (fun key kl hk => by obtain ⟨x, hx, _⟩ := key_inv key kl hk; exact ⟨x, hx⟩) (fun v y hv => inv_sel v y hv) b W.heap.size nn _ _ _ rfl hrg ?_ ?_)
      | gi_in)
    · intro hc0 hl0
      gi_wp2
      go_end0
      exact ⟨⟨_, rfl⟩, .inl ⟨ss, by rw [show (fun _ => false) = left from funext fun z => (hl0 z).symm]; exact hC, hJs⟩⟩
    · intro x1 x2 g0 n1 n2 kl' yd yp w2 cnt2 hkey hlk hv hat hrg2 hlt hg2 hs2 hen
      obtain ⟨x, hx⟩ : ∃ x : K2, x = (x1, x2) := ⟨_, rfl⟩
      obtain ⟨hb2, rfl⟩ := key_b2 (x := (x1, x2)) hkey
      have hhx : Maps.has D0 (kl (x1, x2)) = true := Maps.has_true_of_atKey hat
      clear hs2
      have hJ2 : J ss w2 := hJ ss wr w2 (some W.heap.size) hJs hg2 (fun r e => by cases e; exact ⟨Nat.le_refl _, hrg.iter_walk⟩)
      have hJ3 : J ss (w2.alloc (.cells #[.int .i64 x1, .int .i64 x2] 67)) := hJ ss w2 _ none hJ2 (World.grownBy_alloc _ _ _) (fun r e => by cases e)
      have hrg3 := hrg2.of_walks (KeepsWalks.alloc w2 (.cells #[.int .i64 x1, .int .i64 x2] 67))
      obtain ⟨fn, tmps, assign, body, hy, hR⟩ := hY ss (x1, x2) _ hJ3 (by omega)
      simp only [enc] at hen hy ⊢
      gi_wp2
      refine hR.mono ?_
      have hC2 := hC.step hb2 hlk hhx
      rintro e W3 (⟨rfl, hJ4, hk3⟩ | ⟨rfl, hJx3⟩)
      · gi_wp2
        have hrg4 := hrg3.of_walks hk3
        go_roundw
        case rel => exact ⟨_, cnt2, ss ++ [(x1, x2)], hrg4, by simp; omega, hC2, hJ4⟩
        case measure => rw [hrg4.left_eq, hrg.left_eq]; exact hlt
      · gi_wp2
        refine bodyPost_ret (results_none rfl _ _ _) rfl ?_
        exact ⟨⟨_, rfl⟩, .inr ⟨ss ++ [(x1, x2)], trivial, hJx3⟩⟩
/-- maps.Keys hands back an iterator over the map's keys. -/
theorem keys_stops (F : Fence) (n : Nat) (h10 : F.fn 55) (hro : F.round = none) (hn : 1 ≤ n) (Bm b nn : Nat) (D0 : DataW Unit) (w : World) (hBm : Bm < w.heap.size)
    (hm : w.cell? ⟨Bm, 0, none⟩ = some (.map (some b))) (hown : w.ownsMap Try.prog 67 sel b nn D0) :
    SeqStops F n Try.prog 55 #[.pointer (some ⟨Bm, 0, none⟩)] enc (fun ss => Col D0 (fun _ => false) ss) (fun _ => True) (Maps.size D0) w := fun l J Jx W hW hJ _ hY h0 => by
  have hown' : W.ownsMap Try.prog 67 sel b nn D0 := by
    have hbl := hown.lt
    obtain ⟨es, clock, hb, Ft, hs, hD⟩ := hown
    exact ⟨es, clock, (hW.block b hbl).trans hb, Ft, hs, hD⟩
  exact keysS_in F n h10 hro hn l Bm b nn D0 J Jx hY W hJ ((hW.cell (p := ⟨Bm, 0, none⟩) hBm).trans hm) hown' h0
theorem keys_any (w : World) (mb : Option Nat) : Calls Try.prog 50 #[.map mb] w fun e w' => e = .returned (.func (.func 55) #[] #[.pointer (some ⟨w.heap.size, 0, none⟩)]) ∧ w' = w.alloc (.cells #[.map mb] 100) := by
  go_enter Try.func50, Try.ntmps50
  go_wp2_with fail
  go_ret
  exact ⟨rfl, rfl⟩
end Go.Proofs.Ytmnlkmgpikilbaa
