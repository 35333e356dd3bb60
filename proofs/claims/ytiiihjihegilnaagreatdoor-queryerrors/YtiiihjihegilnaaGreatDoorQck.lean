/- Contracts of wrongAgg, the looks, parts and Check. -/
import Derived.Test.YtiiihjihegilnaaGreatDoorQrs
namespace Go.Proofs.YtiiihjihegilnaaGreatDoor
open Go.RowKit Go.Sort

set_option maxHeartbeats 3200000 in
theorem aggIdx_any (w : World) (B : Nat) (D M : Int) (v : Value) (l : List (Int × Int)) (h : RdsK 2 w v l.length (Ag.av l)) (hB : w.cell? ⟨B, 0, none⟩ = some (.int .i64 D) ∧ w.cell? ⟨B, 1, none⟩ = some (.int .i64 M)) :
    Calls Tryz.prog 53 #[v, .func (.func 54) #[] #[.pointer (some ⟨B, 0, none⟩)]] w fun e w' => e = .returned (.int .i64 (idxL (aggP D M) l)) ∧ Grows w w' := by
  obtain ⟨ao, n, cap, rfl⟩ : ∃ ao n cap, v = .slice ao n cap := by obtain ⟨ao, cap, rfl, _⟩ := h; exact ⟨_, _, _, rfl⟩
  obtain ⟨e0, e1, e2, e3, e4, e5⟩ := h.cells (by decide)
  unfold maxLen at e3
  have HC : Aside _ := e4
  have HN : Hid (n = l.length) := by show _ = _; omega
  have HB : Hid _ := hB
  have hlb : B < w.heap.size := World.block_lt_of_cell? _ _ hB.1
  clear h e5 e4 e0 e1 hB
  go_enter Tryz.func53, Tryz.ntmps53
  go_wp2_with fail
  go_loopg [8] n (fun kx v8 wr => ∃ (i : Nat), v8 = .int .i64 i ∧ i ≤ n ∧ n - i ≤ kx ∧ Hid (∀ j (hj : j < l.length), j < i → aggP D M l[j] = false) ∧ Hid (Grows w wr))
  case atStart => exact ⟨0, rfl, by omega, Nat.le_refl _, (fun _ _ h => by omega), Grows.refl _⟩
  case round =>
    obtain ⟨i, rfl, hi, hkx, HR, HW⟩ := hrel
    by_cases hlt : i < n
    · have hltz : (i : Int) < (n : Int) := by omega
      have hil : i < l.length := by have := HN.out; omega
      obtain ⟨b, off, rfl, hc⟩ := HC.out (by omega)
      have g := Ag.av_get l i hil
      have c0 := hc _ _ g.1
      have c1 := hc _ _ g.2
      rw [← (Grows.below HW.out).cell (World.block_lt_of_cell? _ _ c0)] at c0
      rw [← (Grows.below HW.out).cell (World.block_lt_of_cell? _ _ c1)] at c1
      rw [← Nat.add_assoc] at c1
      have hB : wr.cell? ⟨B, 0, none⟩ = some (.int .i64 D) ∧ wr.cell? ⟨B, 1, none⟩ = some (.int .i64 M) := ⟨by rw [(Grows.below HW.out).cell (by exact hlb)]; exact HB.out.1, by rw [(Grows.below HW.out).cell (by exact hlb)]; exact HB.out.2⟩
      have kC := aggClo_any wr B D M l[i] hB
      obtain ⟨p, hp⟩ : ∃ p, p = aggP D M l[i] := ⟨_, rfl⟩
      rw [← hp] at kC
      have HP : Hid _ := hp
      obtain ⟨a1, h1⟩ : ∃ a1, a1 = l[i].1 := ⟨_, rfl⟩
      obtain ⟨a2, h2⟩ : ∃ a2, a2 = l[i].2 := ⟨_, rfl⟩
      rw [← h1] at c0 kC
      rw [← h2] at c1 kC
      clear hp hc h1 h2 g hB
      cases p with
      | true =>
        have HF : Hid (idxL (aggP D M) l = i) := idxL_hit hil (fun j hj => HR.out j (by omega) hj) HP.out.symm
        go_wp2_with fail
        refine kC.mono ?_
        rintro e w1 ⟨rfl, g1⟩
        have HG1 : Hid (Grows w w1) := Grows.trans HW.out g1
        clear g1
        go_wp2_with fail
        go_ret
        exact ⟨by rw [HF.out]; rfl, HG1.out⟩
      | false =>
        go_wp2_with fail
        refine kC.mono ?_
        rintro e w1 ⟨rfl, g1⟩
        have HG1 : Hid (Grows w w1) := Grows.trans HW.out g1
        clear g1
        go_wp2_with fail
        go_roundg (n - (i + 1))
        case measure => omega
        case rel => exact ⟨i + 1, by go_num, by omega, Nat.le_refl _, (fun j hj h => by rcases Nat.lt_or_eq_of_le (Nat.le_of_lt_succ h) with h | rfl; exact HR.out j hj h; exact HP.out.symm), HG1⟩
    · have hltz : ¬ (i : Int) < (n : Int) := by omega
      have HF : Hid (idxL (aggP D M) l = -1) := idxL_none fun j hj => HR.out j hj (by have := HN.out; omega)
      go_wp2_with fail
      go_ret
      exact ⟨by rw [HF.out]; rfl, HW.out⟩
def wagg (D M : Int) (l : List (Int × Int)) : Int := if 16 < l.length then 0 else idxL (aggP D M) l
set_option maxHeartbeats 1600000 in
theorem wrongAgg_any (w : World) (D M : Int) (v : Value) (l : List (Int × Int)) (h : RdsK 2 w v l.length (Ag.av l)) :
    Calls Tryz.prog 39 #[.agg #[.int .i64 D, .int .i64 M], v] w fun e w' => e = .returned (.int .i64 (wagg D M l)) ∧ Grows w w' := by
  obtain ⟨W, hW⟩ : ∃ W, W = w.alloc (.cells #[.int .i64 D, .int .i64 M] 23) := ⟨_, rfl⟩
  have gW : Grows w W := by rw [hW]; exact Grows.alloc _ _
  have hB : W.cell? ⟨w.heap.size, 0, none⟩ = some (.int .i64 D) ∧ W.cell? ⟨w.heap.size, 1, none⟩ = some (.int .i64 M) := by rw [hW]; exact ⟨by simp, by simp⟩
  have k := aggIdx_any W w.heap.size D M v l (h.below gW.below) hB
  obtain ⟨ao, n, cap, rfl⟩ : ∃ ao n cap, v = .slice ao n cap := by obtain ⟨ao, cap, rfl, _⟩ := h; exact ⟨_, _, _, rfl⟩
  obtain ⟨e0, -, e2, e3, -, -⟩ := h.cells (by decide)
  unfold maxLen at e3
  have HW : Hid _ := hW
  have HG : Hid (Grows w W) := gW
  rw [hW] at k
  unfold wagg
  subst e0
  generalize idxL (aggP D M) l = r at *
  clear h hB hW gW
  by_cases h2 : 16 < l.length
  · have h2z : (16 : Int) < (l.length : Int) := by omega
    rw [if_pos h2]
    generalize l.length = n at *
    go_enter Tryz.func39, Tryz.ntmps39
    go_wp2_with fail
    go_ret
    exact ⟨rfl, Grows.alloc _ _⟩
  · have h2z : ¬ (16 : Int) < (l.length : Int) := by omega
    rw [if_neg h2]
    generalize l.length = n at *
    go_enter Tryz.func39, Tryz.ntmps39
    go_wp2_with fail
    refine k.mono ?_
    rintro e w1 ⟨rfl, g1⟩
    rw [← HW.out] at g1
    have HG1 : Hid (Grows w w1) := Grows.trans HG.out g1
    clear g1
    go_wp2_with fail
    go_ret
    exact ⟨rfl, HG1.out⟩
/-- A query as it lies in memory. -/
structure Qm where
  F : Int
  T : Int
  t : Fi.Tr
  g : Int
  sv : Value
  ss : List St
  av : Value
  ag : List (Int × Int)
  G : Int
  R : Int
def Qm.cells (q : Qm) : Array Value := #[.int .i64 q.F, .int .i64 q.T, .int .i64 q.t.k, .int .i64 q.t.d, q.t.tv, .int .i64 q.t.lo, .int .i64 q.t.hi, q.t.kv, .int .i64 q.g, q.sv, q.av, .int .i64 q.G, .int .i64 q.R]
structure Qm.Ok (w : World) (q : Qm) : Prop where
  t : q.t.Ok w
  s : RdsS w q.sv q.ss
  a : RdsK 2 w q.av q.ag.length (Ag.av q.ag)
theorem Qm.Ok.up {w w' : World} {q : Qm} (h : q.Ok w) (b : Below w.heap.size w w') : q.Ok w' := ⟨h.t.up b, h.s.below b, h.a.below b⟩
/-- The boxes of a schema and of a query. -/
structure QB (w : World) (Bs Bq : Nat) (D M : Int) (q : Qm) : Prop where
  s : w.cell? ⟨Bs, 0, none⟩ = some (.int .i64 D) ∧ w.cell? ⟨Bs, 1, none⟩ = some (.int .i64 M)
  c : ∀ c u, q.cells[c]? = some u → w.cell? ⟨Bq, c, none⟩ = some u
  ok : q.Ok w
theorem QB.up {w w' : World} {Bs Bq : Nat} {D M : Int} {q : Qm} (h : QB w Bs Bq D M q) (b : Below w.heap.size w w') : QB w' Bs Bq D M q :=
  ⟨⟨by rw [b.cell (World.block_lt_of_cell? _ _ h.s.1)]; exact h.s.1, by rw [b.cell (World.block_lt_of_cell? _ _ h.s.2)]; exact h.s.2⟩, fun c u hu => by rw [b.cell (World.block_lt_of_cell? _ _ (h.c c u hu))]; exact h.c c u hu, h.ok.up b⟩
/-- What the looks tell. -/
def look (D M : Int) (q : Qm) : Nat → Int
  | 0 => unl (Fx.finB D M)
  | 1 => unl (decide (0 ≤ q.F ∧ q.F ≤ q.T ∧ q.T ≤ 1099511627776))
  | 2 => unl (q.t.may D M)
  | 3 => unl (decide (0 ≤ q.g ∧ q.g ≤ 1099511627776))
  | 4 => wset D q.ss
  | 5 => wagg D M q.ag
  | 6 => unl (decide (1 ≤ q.G ∧ q.G ≤ 10000))
  | 7 => unl (decide (0 ≤ q.R ∧ q.R ≤ 10000))
  | _ => -1
end Go.Proofs.YtiiihjihegilnaaGreatDoor
