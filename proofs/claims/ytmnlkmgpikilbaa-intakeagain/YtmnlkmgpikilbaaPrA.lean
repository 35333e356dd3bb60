/- IntakeParts: what its walk needs. -/
import Derived.Test.YtmnlkmgpikilbaaBts
import Derived.Test.YtmnlkmgpikilbaaPuP
import Derived.Test.YtmnlkmgpikilbaaOnc
namespace Go.Proofs.Ytmnlkmgpikilbaa
open Go.RowKit Go.Maps Go.Sort
set_option linter.unusedVariables false

/-- A row of 200 numbers. -/
structure MtZ (w : World) (g : Nat) (m : Nat → Int) : Prop where
  ex : ∃ cs : Array Value, BxA w g 65 cs ∧ cs.size = 200 ∧ ∀ x, x < 200 → cs[x]? = some (.int .i64 (m x))
theorem MtZ.cell {w : World} {g : Nat} {m : Nat → Int} (h : MtZ w g m) (x : Nat) (hx : x < 200) : w.cell? ⟨g, x, none⟩ = some (.int .i64 (m x)) := by
  obtain ⟨cs, h1, h2, h3⟩ := h.ex
  exact h1.cell x _ (h3 x hx)
theorem MtZ.free {w : World} {g : Nat} {m : Nat → Int} (h : MtZ w g m) (x : Nat) : w.frozen? ⟨g, x, none⟩ = false := by
  obtain ⟨cs, h1, h2, h3⟩ := h.ex
  exact h1.free x
theorem MtZ.lt {w : World} {g : Nat} {m : Nat → Int} (h : MtZ w g m) : g < w.heap.size := by
  obtain ⟨cs, h1, h2, h3⟩ := h.ex
  exact h1.lt
theorem MtZ.set {w : World} {g : Nat} {m : Nat → Int} (h : MtZ w g m) (x : Nat) (hx : x < 200) (v : Int) : MtZ (w.setCell ⟨g, x, none⟩ (.int .i64 v)) g (fun y => if y = x then v else m y) := by
  obtain ⟨cs, h1, h2, h3⟩ := h.ex
  refine ⟨_, h1.set x _, by simp [h2], fun y hy => ?_⟩
  by_cases e : y = x
  · subst e
    simp only [if_pos]
    rw [Array.getElem?_setIfInBounds_self_of_lt (by omega)]
  · simp only [if_neg e]
    rw [Array.getElem?_setIfInBounds_ne (fun q => e q.symm)]
    exact h3 y hy
theorem MtZ.up {w w' : World} {g : Nat} {m : Nat → Int} (h : MtZ w g m) (hb : Below w.heap.size w w') : MtZ w' g m := by
  obtain ⟨cs, h1, h2, h3⟩ := h.ex
  exact ⟨cs, bx_up h1 hb, h2, h3⟩
theorem Try.zeros200 : Try.zeroCells65 = Array.replicate 200 (.int .i64 0) := by kernel_rfl
theorem mt_new (w : World) : MtZ (w.alloc (.cells Try.zeroCells65 65)) w.heap.size (pt 0) := by
  refine ⟨_, BxA.new _ _ _, by rw [Try.zeros200]; simp, fun x hx => ?_⟩
  rw [Try.zeros200]
  have : pt 0 x = 0 := by unfold pt; rw [if_neg (by omega)]
  rw [this]
  simp [hx]
theorem MtZ.fr {w w' : World} {g h : Nat} {m : Nat → Int} (hm : MtZ w g m) (hf : Fr (fun i => i = h) w w') (hne : g ≠ h) : MtZ w' g m := by
  obtain ⟨cs, h1, h2, h3⟩ := hm.ex
  refine ⟨cs, ?_, h2, h3⟩
  unfold BxA at h1 ⊢
  rw [hf.block g (Array.getElem?_eq_some_iff.1 h1).1 hne]
  exact h1
/-- The batches' numbers. -/
structure ChN (Z : List Kp) (o : Kp) : Prop where
  z : ∀ i (h : i < Z.length), (Z[i]).num = (i : Int) + 1
theorem ChN.nil (o : Kp) : ChN [] o := ⟨fun i h => by simp at h⟩
theorem ChN.to {Z : List Kp} {o o' : Kp} (h : ChN Z o) : ChN Z o' := ⟨h.z⟩
theorem ChN.snoc {Z : List Kp} {o : Kp} {all : List Int} (h : ChN Z o) (hc : ChZ Z o all) (o' : Kp) : ChN (Z ++ [o]) o' := by
  refine ⟨fun i hi => ?_⟩
  by_cases h1 : i < Z.length
  · rw [List.getElem_append_left h1]; exact h.z i h1
  · have : i = Z.length := by simp at hi; omega
    subst this
    rw [List.getElem_append_right (by omega)]
    simp [hc.n]
theorem St.batches {w0 w : World} {x : Nat} {l : Int} {sv : Value} {Z : List Kp} {o : Kp} (h : St w0 w x l sv Z o) (hl : 1 ≤ l ∧ l ≤ 1099511627776) (hZ : Z.length ≤ 100000) (hbs : ∀ p ∈ Z, p.ts.length ≤ 100000) :
    Calls Try.prog 13 #[.pointer (some ⟨x, 0, none⟩)] w fun e w' => ∃ v, e = .returned v ∧ BtO w.heap.size w' l Z v ∧ Below w.heap.size w w' := by
  obtain ⟨F, h1, h2⟩ := h.ex
  exact batches_any w x F l sv Z o h1 hl hZ hbs
/-- Sealed, if there was something. -/
structure SlA (w0 w : World) (x : Nat) (l : Int) (all : List Int) : Prop where
  ex : ∃ sv Z o, St w0 w x l sv Z o ∧ o.up = o.fr ∧ ChZ Z o all ∧ ChN Z o
theorem St.sealAny {w0 w : World} {x : Nat} {l : Int} {sv : Value} {Z : List Kp} {o : Kp} {all : List Int} (h : St w0 w x l sv Z o) (hl : 1 ≤ l ∧ l ≤ 1099511627776) (hc : ChZ Z o all) (hn : ChN Z o) (ha : all.length ≤ 100000) :
    Calls Try.prog 20 #[.pointer (some ⟨x, 0, none⟩)] w fun e w' => ∃ r, e = .returned r ∧ SlA w0 w' x l all := by
  have h1 := hc.up
  have h2 := hc.zlen
  have h3 := hc.n
  have h4 := hc.r
  by_cases hq : o.up = o.fr
  · exact (h.sealNone hl.1 hq).mono fun _ _ ⟨he, hs⟩ => ⟨_, he, _, _, _, hs, hq, hc, hn⟩
  · refine (h.sealGood hl (by omega) (by omega) (by omega) (by omega)).mono ?_
    rintro e w' ⟨v, he, ⟨sv', hs⟩, -⟩
    exact ⟨_, he, _, _, _, hs, rfl, hc.seal (by omega), hn.snoc hc _⟩
def tmP (t : Int) : Int := ((ab t % 1000 : Nat) : Int)
theorem ChR.sl {b : Nat} {w : World} {l : Int} {ts : List Int} {v : Value} (h : ChR b w l ts v) : ∃ a n c, v = .slice a n c := by
  obtain ⟨ss, gv, h1, h2, h3⟩ := h
  obtain ⟨a, c, e⟩ := own_sl h2
  exact ⟨a, _, c, e⟩
/-- A batch among those in memory. -/
theorem BtO.at' {b : Nat} {w : World} {l : Int} {Z : List Kp} {v : Value} (h : BtO b w l Z v) (i : Nat) (hi : i < Z.length) :
    ∃ g c u, v = .slice (some ⟨g, 0, none⟩) Z.length c ∧ Z.length ≤ c ∧ c ≤ maxLen ∧ b ≤ g ∧ g < w.heap.size ∧ w.cell? ⟨g, i * 4, none⟩ = some (.int .i64 (Z[i]).num) ∧ w.cell? ⟨g, i * 4 + 1, none⟩ = some (.int .u64 ((Z[i]).fr : Int)) ∧ w.cell? ⟨g, i * 4 + 2, none⟩ = some (.int .u64 ((Z[i]).up : Int)) ∧ w.cell? ⟨g, i * 4 + 3, none⟩ = some u ∧ ChR b w l (Z[i]).ts u := by
  obtain ⟨Y, h1, h2, h3⟩ := h.ex
  have hl : Y.length = Z.length := by rw [← h1, List.length_map]
  have hiY : i < Y.length := by omega
  have e : Z[i] = (Y[i]).1 := by subst h1; simp
  obtain ⟨g, c, q1, q2, q3, q4⟩ := own_at h2 (by omega)
  have q5 := World.ownsRow.lt h2 g (by rw [q1]; rfl)
  have k := fun j hj => q4 _ _ ((btcs_get Y i j hiY hj).trans (List.getElem?_eq_getElem (by simpa [btc] using hj)))
  rw [e]
  exact ⟨g, c, (Y[i]).2, q1, q2, q3, q5.1, q5.2, k 0 (by omega), k 1 (by omega), k 2 (by omega), k 3 (by omega), h3 _ (List.getElem_mem hiY)⟩
theorem BtO.sl {b : Nat} {w : World} {l : Int} {Z : List Kp} {v : Value} (h : BtO b w l Z v) : ∃ a n c, v = .slice a n c := by
  obtain ⟨Y, h1, h2, h3⟩ := h.ex
  obtain ⟨a, c, e⟩ := own_sl h2
  exact ⟨a, _, c, e⟩
theorem BtO.len {b : Nat} {w : World} {l : Int} {Z : List Kp} {v : Value} (h : BtO b w l Z v) {a : Option Addr} {n c : Nat} (hv : v = .slice a n c) : n = Z.length := by
  obtain ⟨Y, h1, h2, h3⟩ := h.ex
  obtain ⟨a', c', e⟩ := own_sl h2
  rw [hv] at e
  injection e
theorem ccs_get (gv : K2 → Value) : ∀ (ss : List K2) (i j : Nat) (h : i < ss.length) (hj : j < 3), (ccs gv ss)[i * 3 + j]? = ([Value.int .i64 (ss[i]).1, Value.int .i64 (ss[i]).2, gv ss[i]] : List Value)[j]?
  | [], i, j, h, _ => by simp at h
  | p :: Z, 0, j, h, hj => by
    show ([Value.int .i64 p.1, Value.int .i64 p.2, gv p] ++ ccs gv Z)[0 * 3 + j]? = _
    rw [Nat.zero_mul, Nat.zero_add, List.getElem?_append_left (by simpa using hj)]
    rfl
  | p :: Z, i + 1, j, h, hj => by
    show ([Value.int .i64 p.1, Value.int .i64 p.2, gv p] ++ ccs gv Z)[(i + 1) * 3 + j]? = _
    rw [List.getElem?_append_right (by simp; omega), show (i + 1) * 3 + j - ([Value.int .i64 p.1, Value.int .i64 p.2, gv p] : List Value).length = i * 3 + j by simp; omega, ccs_get gv Z i j (by simpa using h) hj]
    rfl
/-- A chunk among those of a batch. -/
structure ChA (w : World) (v : Value) (l : Int) (ts : List Int) (ss : List K2) (gv : K2 → Value) : Prop where
  k : Chks l ts ss
  r : ∃ b, w.ownsRow b 69 3 v ss.length (ccs gv ss)
  f : ∀ k, ∃ b, w.ownsRow b 38 3 (gv k) (ofK (spn l) ts k).length (fcs (ofK (spn l) ts k))
theorem ChA.at' {w : World} {v : Value} {l : Int} {ts : List Int} {ss : List K2} {gv : K2 → Value} (h : ChA w v l ts ss gv) (i : Nat) (hi : i < ss.length) :
    ∃ g c, v = .slice (some ⟨g, 0, none⟩) ss.length c ∧ ss.length ≤ c ∧ c ≤ maxLen ∧ w.cell? ⟨g, i * 3, none⟩ = some (.int .i64 (ss[i]).1) ∧ w.cell? ⟨g, i * 3 + 1, none⟩ = some (.int .i64 (ss[i]).2) ∧ w.cell? ⟨g, i * 3 + 2, none⟩ = some (gv ss[i]) := by
  obtain ⟨b, hb⟩ := h.r
  obtain ⟨g, c, q1, q2, q3, q4⟩ := own_at hb (by omega)
  have k := fun j hj => q4 _ _ ((ccs_get gv ss i j hi hj).trans (List.getElem?_eq_getElem (by simpa using hj)))
  exact ⟨g, c, q1, q2, q3, k 0 (by omega), k 1 (by omega), k 2 (by omega)⟩
theorem ChA.fact {w : World} {v : Value} {l : Int} {ts : List Int} {ss : List K2} {gv : K2 → Value} (h : ChA w v l ts ss gv) (k : K2) (j : Nat) (hj : j < (ofK (spn l) ts k).length) :
    ∃ g c, gv k = .slice (some ⟨g, 0, none⟩) (ofK (spn l) ts k).length c ∧ (ofK (spn l) ts k).length ≤ c ∧ c ≤ maxLen ∧ w.cell? ⟨g, j * 3, none⟩ = some (.int .i64 (ofK (spn l) ts k)[j]) := by
  obtain ⟨b, hb⟩ := h.f k
  obtain ⟨g, c, q1, q2, q3, q4⟩ := own_at hb (by omega)
  exact ⟨g, c, q1, q2, q3, q4 _ _ (fcs_get _ j hj).1⟩
theorem ChR.a {b : Nat} {w : World} {l : Int} {ts : List Int} {v : Value} (h : ChR b w l ts v) : ∃ ss gv, ChA w v l ts ss gv := by
  obtain ⟨ss, gv, h1, h2, h3⟩ := h
  exact ⟨ss, gv, h1, ⟨b, h2⟩, fun k => ⟨b, h3 k⟩⟩
/-- What a cell that was there behind the block g holds. -/
theorem cell_frE {g : Nat} {w w' : World} {a : Addr} {v : Value} (h : Fr (fun i => i = g) w w') (ha : a.block ≠ g) (hc : w.cell? a = some v) : w'.cell? a = some v := by
  have hl : a.block < w.heap.size := by
    unfold World.cell? at hc
    apply Classical.byContradiction
    intro hn
    rw [Array.getElem?_eq_none (by omega)] at hc
    simp at hc
  unfold World.cell? at hc ⊢
  rw [h.block _ hl ha]
  exact hc
theorem cell_lt {w : World} {a : Addr} {v : Value} (hc : w.cell? a = some v) : a.block < w.heap.size := by
  unfold World.cell? at hc
  apply Classical.byContradiction
  intro hn
  rw [Array.getElem?_eq_none (by omega)] at hc
  simp at hc
theorem ChZ.sub {Z : List Kp} {o : Kp} {all : List Int} (h : ChZ Z o all) (p : Kp) (hp : p ∈ Z) (t : Int) (ht : t ∈ p.ts) : t ∈ all := by
  rw [h.a]
  exact List.mem_append_left _ (List.mem_flatMap.2 ⟨p, hp, ht⟩)
theorem ChZ.all_at {Z : List Kp} {o : Kp} {all : List Int} (h : ChZ Z o all) (k a : Nat) (t : Int) (hk : k < Z.length) (ht : (Z[k]).ts[a]? = some t) : all[(Z[k]).fr + a]? = some t := by
  have h1 := (kch_at Z 0 o.fr k a t hk h.c ht).2
  rw [Nat.sub_zero] at h1
  rw [h.a, List.getElem?_append_left (List.getElem?_eq_some_iff.1 h1).1]
  exact h1
theorem ChA.len {w : World} {v : Value} {l : Int} {ts : List Int} {ss : List K2} {gv : K2 → Value} (h : ChA w v l ts ss gv) : ∃ a c, v = .slice a ss.length c := by
  obtain ⟨b, hb⟩ := h.r
  exact own_sl hb
theorem ChA.le {w : World} {v : Value} {l : Int} {ts : List Int} {ss : List K2} {gv : K2 → Value} (h : ChA w v l ts ss gv) : ss.length ≤ 9223372036854775807 := by
  obtain ⟨b, hb⟩ := h.r
  obtain ⟨a, c, hv⟩ := own_sl hb
  have := own_cap (hv ▸ hb)
  unfold maxLen at this
  omega
theorem ChA.flen {w : World} {v : Value} {l : Int} {ts : List Int} {ss : List K2} {gv : K2 → Value} (h : ChA w v l ts ss gv) (k : K2) : ∃ a c, gv k = .slice a (ofK (spn l) ts k).length c := by
  obtain ⟨b, hb⟩ := h.f k
  exact own_sl hb
/-- Of small times a span is whole. -/
theorem spn_small {l t : Int} (hl : 1 ≤ l ∧ l ≤ 50) (ht : 0 ≤ t ∧ t < 1000) : (spn l t).1 % l = 0 ∧ (spn l t).2 = (spn l t).1 + l ∧ (spn l t).1 ≤ t ∧ t < (spn l t).2 ∧ 0 ≤ (spn l t).1 := by
  have q1 : t / l * l ≤ t := Int.ediv_mul_le t (by omega)
  have q2 : t < t / l * l + l := by have := Int.lt_ediv_add_one_mul_self t (show 0 < l by omega); rw [Int.add_mul, Int.one_mul] at this; exact this
  have q3 : 0 ≤ t / l * l := Int.mul_nonneg (Int.ediv_nonneg ht.1 (by omega)) (by omega)
  have q4 : min (t / l * l + l) 1099511627776 = t / l * l + l := by omega
  refine ⟨?_, ?_, q1, ?_, q3⟩
  · unfold spn
    simp
  · unfold spn
    exact q4
  · unfold spn
    simp only
    rw [q4]
    exact q2
end Go.Proofs.Ytmnlkmgpikilbaa
