/- Facts in new memory, rows of them; abs. -/
import Derived.Test.YtkoihniggoelnaaOfP
import Derived.Deep.RegionHeld
import Derived.Deep.RegionHeldLaw
namespace Go.Proofs.Ytkoihniggoelnaa
open Go.RowKit Go.Sort

theorem Try.info_many : (Try.prog.info? 49).map (fun i => (i.zero, i.size, i.bytes)) = some (some (.agg #[.int .i64 0, .slice none 0 0, .slice none 0 0, .int .u64 0]), 4, 64) := by kernel_rfl
theorem alloc_block (w : World) (o : Obj) {g : Nat} (hg : g < w.heap.size) : (w.alloc o).drew.heap[g]? = w.heap[g]? := (Grows.alloc w o).below.block g hg
theorem own_ne {w : World} {b b' e e' k k' n n' : Nat} {v v' : Value} {xs xs' : List Value} (h : w.ownsRow b e k v n xs) (h' : w.ownsRow b' e' k' v' n' xs') (he : e ≠ e') (g : Nat) (hg : v.ownBlock = some g) : v'.ownBlock ≠ some g := by
  intro hg'
  rcases h.2 with ⟨rfl, _⟩ | ⟨g1, c1, cur1, rfl, _, hh1, _⟩
  · cases hg
  · rcases h'.2 with ⟨rfl, _⟩ | ⟨g2, c2, cur2, rfl, _, hh2, _⟩
    · cases hg'
    · simp only [Value.ownBlock, Option.some.injEq] at hg hg'
      rw [hg'] at hh2
      rw [hg, hh2] at hh1
      cases hh1
      exact he rfl
theorem own_grown {w w' : World} {b e k n : Nat} {v : Value} {xs : List Value} {r : Option Nat} (h : w.ownsRow b e k v n xs) (hg : w.grownBy w' r) (hne : ∀ g, v.ownBlock = some g → r ≠ some g) : w'.ownsRow b e k v n xs := by
  refine ⟨h.1, ?_⟩
  rcases h.2 with h2 | ⟨g, cap, cur, rfl, h3, h4, h5⟩
  · exact .inl h2
  · refine .inr ⟨g, cap, cur, rfl, h3, ?_, h5⟩
    rw [hg.block g (Array.getElem?_eq_some_iff.1 h4).1 (fun e => hne g rfl e.symm)]
    exact h4
theorem own_mono {w : World} {b b' e k n : Nat} {v : Value} {xs : List Value} (h : w.ownsRow b e k v n xs) (hb : b' ≤ b) : w.ownsRow b' e k v n xs := by
  refine ⟨h.1, ?_⟩
  rcases h.2 with h2 | ⟨g, cap, cur, rfl, h3, h5⟩
  · exact .inl h2
  · exact .inr ⟨g, cap, cur, rfl, Nat.le_trans hb h3, h5⟩
theorem own_full (w : World) (e : TypeId) (cur : Array Value) (n : Nat) (hm : n ≤ maxLen) (hs : cur.size = n) : (w.alloc (.cells cur e)).ownsRow w.heap.size e 1 (.slice (some ⟨w.heap.size, 0, none⟩) n n) n cur.toList :=
  ⟨by simp [hs], .inr ⟨w.heap.size, n, cur, rfl, Nat.le_refl _, heap_alloc_new w _, Nat.le_refl _, hm, by omega, by rw [Nat.mul_one, ← hs, ← Array.length_toList, List.take_length]⟩⟩
theorem rds_own1 {w : World} {b e n : Nat} {v : Value} {xs : List Value} (h : w.ownsRow b e 1 v n xs) : Rds w v xs := by
  have hl : xs.length = n := by have := h.1; omega
  obtain ⟨ao, cap, rfl, h0, h1, h2, h3, h4⟩ := RdsK.of_own h
  exact ⟨ao, cap, by rw [hl], by omega, h2, (fun e => by have := h3 e; omega), h4⟩
/-- A fact of two texts and two numbers in memory of its own, so often. -/
structure FE (w : World) (base : Nat) (e : En) : Prop where
  od : w.ownsRow base 9 1 e.f.dv 2 (sv e.f.ds)
  om : w.ownsRow base 2 1 e.f.mv 2 (iv e.f.ms)
  ok : FOk e.f
  n : e.n < 1125899906842624
theorem FE.ld {w : World} {base : Nat} {e : En} (h : FE w base e) : e.f.ds.length = 2 := by have := h.od.1; rw [sv_length] at this; omega
theorem FE.lm {w : World} {base : Nat} {e : En} (h : FE w base e) : e.f.ms.length = 2 := by have := h.om.1; rw [iv_length] at this; omega
theorem FE.up {w w' : World} {base : Nat} {e : En} (h : FE w base e) (b : Below w.heap.size w w') : FE w' base e := ⟨own_below h.od b, own_below h.om b, h.ok, h.n⟩
theorem FE.mono {w : World} {base base' : Nat} {e : En} (h : FE w base e) (hb : base' ≤ base) : FE w base' e := ⟨own_mono h.od hb, own_mono h.om hb, h.ok, h.n⟩
theorem FE.off {w : World} {base : Nat} {e : En} (h : FE w base e) {g o : Nat} (hg : g < base) (u : Value) : FE (w.setCell ⟨g, o, none⟩ u) base e := ⟨ownsRow_setCell_below h.od (a := ⟨g, o, none⟩) hg u, ownsRow_setCell_below h.om (a := ⟨g, o, none⟩) hg u, h.ok, h.n⟩
theorem FE.fok {w : World} {base : Nat} {e : En} (h : FE w base e) : e.f.Ok w := ⟨rds_own1 h.od, rds_own1 h.om⟩
theorem FE.grown {w w' : World} {base b n : Nat} {e : En} {v : Value} {xs : List Value} (h : FE w base e) (ho : w.ownsRow b 49 4 v n xs) (hg : w.grownBy w' v.ownBlock) : FE w' base e :=
  ⟨own_grown h.od hg fun g hv e => own_ne h.od ho (by decide) g hv e, own_grown h.om hg fun g hv e => own_ne h.om ho (by decide) g hv e, h.ok, h.n⟩

def absI (n : Int) : Int := if n < 0 then -(n + 1) else n
def In64 (n : Int) : Prop := -9223372036854775808 ≤ n ∧ n ≤ 9223372036854775807
theorem absI_nn {n : Int} (h : In64 n) : 0 ≤ absI n ∧ absI n ≤ 9223372036854775807 := by unfold absI In64 at *; split <;> omega
theorem abs_any (w : World) (n : Int) (h : In64 n) : Calls Try.prog 27 #[.int .i64 n] w fun e w' => e = .returned (.int .i64 (absI n)) ∧ w' = w := by
  obtain ⟨h1, h2⟩ := h
  by_cases hn : n < 0
  · have e1 : IntKind.i64.wrap (n + 1) = n + 1 := by rw [IntWalk.i64_left]; exact IntWalk.wrap64_in _ (by omega)
    have e2 : IntKind.i64.wrap (-(n + 1)) = -(n + 1) := by rw [IntWalk.i64_left]; exact IntWalk.wrap64_in _ (by omega)
    have e3 : absI n = -(n + 1) := if_pos hn
    rw [e3]
    go_enter Try.func27, Try.ntmps27
    go_wp2_with fail
    go_ret
    first | exact ⟨rfl, rfl⟩ | (refine ⟨?_, rfl⟩; simp [*]) | (refine ⟨?_, rfl⟩; congr 2; omega)
  · have e3 : absI n = n := if_neg hn
    rw [e3]
    go_enter Try.func27, Try.ntmps27
    go_wp2_with fail
    go_ret
    exact ⟨rfl, rfl⟩
/-- What a round of 'right' is about: a fact of two texts and two numbers that is being filled. -/
structure IN (Wr : World) (D M B : Nat) (t : Int) (wi : World) (d0 d1 : Str) (m0 m1 : Int) : Prop where
  od : wi.ownsRow Wr.heap.size 9 1 (.slice (some ⟨D, 0, none⟩) 2 2) 2 (sv [d0, d1])
  om : wi.ownsRow Wr.heap.size 2 1 (.slice (some ⟨M, 0, none⟩) 2 2) 2 (iv [m0, m1])
  bx : Box3 wi B (.int .i64 t) (.slice (some ⟨D, 0, none⟩) 2 2) (.slice (some ⟨M, 0, none⟩) 2 2)
  l0 : d0.length ≤ 64
  l1 : d1.length ≤ 64
  be : Below Wr.heap.size Wr wi
  hDB : D ≠ B
  hMB : M ≠ B
theorem IN.up {Wr : World} {D M B : Nat} {t : Int} {wi w' : World} {d0 d1 : Str} {m0 m1 : Int} (h : IN Wr D M B t wi d0 d1 m0 m1) (b : Below wi.heap.size wi w') : IN Wr D M B t w' d0 d1 m0 m1 :=
  ⟨own_below h.od b, own_below h.om b, h.bx.up b, h.l0, h.l1, h.be.trans (b.mono h.be.size), h.hDB, h.hMB⟩
theorem box_far {w : World} {B g o : Nat} {x y z u : Value} (h : Box3 w B x y z) (hn : g ≠ B) : Box3 (w.setCell ⟨g, o, none⟩ u) B x y z :=
  ⟨by rw [World.cell?_setCell_far _ _ _ _ hn]; exact h.c0, by rw [World.cell?_setCell_far _ _ _ _ hn]; exact h.c1, by rw [World.cell?_setCell_far _ _ _ _ hn]; exact h.c2, fun c => by simpa using h.fr c⟩
theorem IN.setD {Wr : World} {D M B : Nat} {t : Int} {wi : World} {d0 d1 : Str} {m0 m1 : Int} (h : IN Wr D M B t wi d0 d1 m0 m1) (k : Nat) (hk : k < 2) (x : Str) (hx : x.length ≤ 64) :
    ∃ e0 e1, IN Wr D M B t (wi.setCell ⟨D, k, none⟩ (.string ⟨x.toArray⟩)) e0 e1 m0 m1 := by
  have hst := h.od.stored k (.string ⟨x.toArray⟩)
  have hom := own_grown h.om hst.2 fun g hv e => own_ne h.om h.od (by decide) g hv (by simpa [Value.ownBlock] using e)
  have hD : Wr.heap.size ≤ D := by have := (World.ownsRow.lt h.od D rfl).1; exact this
  have hb := h.be.setCell (p := ⟨D, k, none⟩) hD (.string ⟨x.toArray⟩)
  rcases (by omega : k = 0 ∨ k = 1) with rfl | rfl
  · exact ⟨x, d1, hst.1, hom, box_far h.bx h.hDB, hx, h.l1, hb, h.hDB, h.hMB⟩
  · exact ⟨d0, x, hst.1, hom, box_far h.bx h.hDB, h.l0, hx, hb, h.hDB, h.hMB⟩
theorem IN.setM {Wr : World} {D M B : Nat} {t : Int} {wi : World} {d0 d1 : Str} {m0 m1 : Int} (h : IN Wr D M B t wi d0 d1 m0 m1) (k : Nat) (hk : k < 2) (x : Int) :
    ∃ e0 e1, IN Wr D M B t (wi.setCell ⟨M, k, none⟩ (.int .i64 x)) d0 d1 e0 e1 := by
  have hst := h.om.stored k (.int .i64 x)
  have hod := own_grown h.od hst.2 fun g hv e => own_ne h.od h.om (by decide) g hv (by simpa [Value.ownBlock] using e)
  have hM : Wr.heap.size ≤ M := by have := (World.ownsRow.lt h.om M rfl).1; exact this
  have hb := h.be.setCell (p := ⟨M, k, none⟩) hM (.int .i64 x)
  rcases (by omega : k = 0 ∨ k = 1) with rfl | rfl
  · exact ⟨x, m1, hod, hst.1, box_far h.bx h.hMB, h.l0, h.l1, hb, h.hDB, h.hMB⟩
  · exact ⟨m0, x, hod, hst.1, box_far h.bx h.hMB, h.l0, h.l1, hb, h.hDB, h.hMB⟩
/-- append of a row of one's own, as one step of a region that draws. -/
theorem step_appK {P : Program} {ops : Array Oper} {o : Oper} {a : Act} {w : World} {K : Act → World → Prop} {Q : Exit → Act → World → Prop} {E : Prop} (hgd : o.guard = none) (s x : Operand) (t : TypeId)
    (ho : o.op = .call { callee := .builtin .append, args := #[s, x], argTypes := #[t, t] })
    (base : Nat) (e : TypeId) (i : TypeInfo) (z : Value) (size bytes : Nat) (ht : P.underlying t = some (.slice e)) (hi : P.info? e = some i) (hz : i.zero = some z)
    (hsize : i.size = size) (hby : i.bytes = bytes) (hzs : z.cells.size = size) (hsz : 0 < size)
    (v : Value) (n : Nat) (xs : List Value) (hs : a.eval s = v) (hown : w.ownsRow base e size v n xs)
    (ad : Addr) (m c : Nat) (news : List Value) (hx : a.eval x = .slice (some ad) m c) (hr : RdsK size w (.slice (some ad) m c) m news) (h1 : ∀ u ∈ news, u.oneCell' = true)
    (h63 : n + m ≤ maxLen) (hbytes : ((n + m) + (n + m) / 4 + 192) * bytes ≤ 281474976710656) (hbase : base ≤ w.heap.size)
    (h : ∀ v' w', w'.ownsRow base e size v' (n + m) (xs ++ news) → w.grownBy w' v.ownBlock → K (a.put o.dst v') w') :
    if Region.wanted o (yielded ops a.tmps) = true then Oper.wp P o a w K Q else E := by
  have hw : Region.wanted o (yielded ops a.tmps) = true := by simp [Region.wanted, hgd]
  rw [if_pos hw]
  obtain ⟨ao, cap, he, h0, h2, h3, h4, h5⟩ := hr
  cases he
  exact wp_append_own_wide w s x t ho base e i z size bytes ht hi hz hsize hby hzs hsz v n xs hs hown ad m c news hx h0 (h5 ad rfl) h1 h63 hbytes hbase fun v' w' k1 k2 _ => h v' w' k1 k2
end Go.Proofs.Ytkoihniggoelnaa
