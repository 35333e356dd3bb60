/- The reference's reader of filters. -/
import Derived.Test.YtpdlioidiobbbaaRk3
import Derived.Test.YtpdlioidiobbbaaRg7
namespace Go.Proofs.Ytpdlioidiobbbaa
open Go.RowKit Go.Sort

theorem wp_appF {P : Program} {w : World} {o : Oper} {a : Act} {K : Act → World → Prop} {Q : Exit → Act → World → Prop} (s x : Operand) (t : TypeId)
    (ho : o.op = .call { callee := .builtin .append, args := #[s, x], argTypes := #[t, t] })
    (base : Nat) (e : TypeId) (i : TypeInfo) (z : Value) (size bytes : Nat) (ht : P.underlying t = some (.slice e)) (hi : P.info? e = some i) (hz : i.zero = some z)
    (hsize : i.size = size) (hby : i.bytes = bytes) (hzs : z.cells.size = size) (hsz : 0 < size)
    (v : Value) (n : Nat) (xs : List Value) (hs : a.eval s = v) (hown : w.ownsRow base e size v n xs)
    (ad : Addr) (m c : Nat) (news : List Value) (hx : a.eval x = .slice (some ad) m c) (hr : Fi.RdsK size w (.slice (some ad) m c) m news) (h1 : ∀ u ∈ news, u.oneCell' = true)
    (h63 : n + m ≤ maxLen) (hbytes : ((n + m) + (n + m) / 4 + 192) * bytes ≤ 281474976710656) (hbase : base ≤ w.heap.size)
    (h : ∀ v' w', w'.ownsRow base e size v' (n + m) (xs ++ news) → w.grownBy w' v.ownBlock → (v'.ownBlock = v.ownBlock ∨ ∃ g, v'.ownBlock = some g ∧ w.heap.size ≤ g) → K (a.put o.dst v') w') : o.wp P a w K Q := by
  obtain ⟨ao, cap, e0, h0, h2, h3, h4, h5⟩ := hr
  injection e0 with e1 e2 e3
  subst e1
  obtain ⟨v', w', hrun, k1, k2, k3⟩ := run_appF (P := P) w base t o.type e i z size bytes ht hi hz hsize hby hzs hsz v n xs hown ad m c news h0 (h5 ad rfl) h1 h63 hbytes hbase
  unfold Oper.wp execOp
  simp only [ho, resolve, invoke, builtin, Sem.run_bind, Sem.run_pure, Result.andThen_ok, List.map_toArray, List.map_cons, List.map_nil, hs, hx, hrun]
  exact h v' w' k1 k2 k3
/-- A field of a box that was made behind w is filled. -/
theorem GK.fld {B K : Nat} {v : Value} {l : Bs} {w w1 : World} {s : Sg2} {f : Sg2 → Sg2} {b : Bs} (G : GK B K v l w w1 s f b) {g : Nat} (hg : w.heap.size ≤ g) (hlt : g < w1.heap.size) (hK : K < w.heap.size) (i : Nat) (u : Value) : GK B K v l w (w1.setCell ⟨g, i, none⟩ u) s f b :=
  ⟨G.ps.keep (grown_above grown_setCell (by omega) hlt), fill_grown G.g grown_setCell hg, G.b⟩
theorem GK.id {B K : Nat} {v : Value} {l : Bs} {w w' : World} {p e : Nat} (h : RP B K v l w' p e) (g : w.grownBy w' (some K)) : GK B K v l w w' (p, e) (fun s => s) [] := ⟨h, g, fun _ _ => by show [] = rd l p p; simp [rd]⟩
def FilK (B K : Nat) (v : Value) (l : Bs) (k d : Nat) : Prop := ∀ (w : World) (p e : Nat), RP B K v l w p e → Calls Try.prog 111 #[.pointer (some ⟨K, 0, none⟩), .int .i64 (d : Int)] w fun ev w' => ∃ x : Fi.Tr, ev = .returned (.agg #[.int .i64 x.k, .int .i64 x.d, x.tv, .int .i64 x.lo, .int .i64 x.hi, x.kv]) ∧ Win w.heap.size w' (fun w => x.Ok w) ∧ (TrIn x ∧ (∃ a n c, x.tv = .slice a n c) ∧ (∃ a n c, x.kv = .slice a n c)) ∧ GK B K v l w w' (p, e) (skFil l k) (r_fil x)
set_option maxRecDepth 100000 in
set_option maxHeartbeats 3200000 in
theorem kfil_deep (B K : Nat) (v : Value) (l : Bs) (dp : Nat) (hd : dp = 21) : FilK B K v l 0 dp := by
  intro w p e h
  have hRw := h.lt
  have hple := h.le
  obtain ⟨V, hV⟩ : ∃ V, V = ((w.alloc (.cells #[.int .i64 0, .int .i64 0, .slice none 0 0, .int .i64 0, .int .i64 0, .slice none 0 0] 32)).alloc (.cells #[.int .i64 0, .int .i64 0, .slice none 0 0, .int .i64 0, .int .i64 0, .slice none 0 0] 32)) := ⟨_, rfl⟩
  have zV : V.heap.size = w.heap.size + 1 + 1 := by rw [hV]; simp
  have bV : Below (K + 1) w V := by rw [hV]; exact ((Below.refl (K + 1) w).alloc hRw _).alloc (Nat.le_trans hRw (by simp)) _
  have hP : RP B K v l V p e := h.keep bV
  have gV : w.grownBy V (some K) := by rw [hV]; exact grown_trans' (grown_alloc _ _ _) (grown_alloc _ _ _)
  have xF : BxA V (w.heap.size + 1) 32 #[.int .i64 0, .int .i64 0, .slice none 0 0, .int .i64 0, .int .i64 0, .slice none 0 0] := by
    rw [hV]
    have := BxA.new (w.alloc (.cells #[.int .i64 0, .int .i64 0, .slice none 0 0, .int .i64 0, .int .i64 0, .slice none 0 0] 32)) 32 #[.int .i64 0, .int .i64 0, .slice none 0 0, .int .i64 0, .int .i64 0, .slice none 0 0]
    simpa [BxA] using this
  have xO : BxA V w.heap.size 32 #[.int .i64 0, .int .i64 0, .slice none 0 0, .int .i64 0, .int .i64 0, .slice none 0 0] := by
    rw [hV]
    unfold BxA
    rw [Below.heap_alloc _ _ _ (by simp)]
    exact BxA.new _ _ _
  have HV : Hid (V = _) := hV
  have hdz : (20 : Int) < (dp : Int) := by omega
  obtain ⟨c0, c1, c2, f⟩ := hP.ks.cells
  have f2 := f 2
  have HP : Hid _ := And.intro hP (And.intro gV (And.intro xF xO))
  clear hV bV hP gV xF xO h c0 c1 f hd zV
  by_cases he : e = 0
  · subst he
    go_enter Try.func111, Try.ntmps111
    go_upto_region 2 with fail
    rw [← HV.out]
    obtain ⟨hP, gV, xF, xO⟩ := HP.out
    have XF := BxA.grow (R := K) xF (grown_setCell (w := V) (R := K) (j := 2) (u := .int .i64 12)) (by omega)
    have XB := BxA.grow (R := K) xO (grown_setCell (w := V) (R := K) (j := 2) (u := .int .i64 12)) (by omega)
    have HG : Hid _ := And.intro (grown_trans' gV (grown_setCell (w := V) (R := K) (j := 2) (u := .int .i64 12))) (And.intro (hP.go (heap_setCell_same _ K 2 _ 104 (.int .i64 12) hP.ks) grown_setCell hP.le) (BxA.lt XB))
    clear hP gV xF xO
    have q0 : (V.setCell ⟨K, 2, none⟩ (.int .i64 12)).cell? ⟨w.heap.size + 1, 0, none⟩ = some (.int .i64 0) := BxA.cell XF 0 _ rfl
    have q1 : (V.setCell ⟨K, 2, none⟩ (.int .i64 12)).cell? ⟨w.heap.size + 1, 1, none⟩ = some (.int .i64 0) := BxA.cell XF 1 _ rfl
    have q2 : (V.setCell ⟨K, 2, none⟩ (.int .i64 12)).cell? ⟨w.heap.size + 1, 2, none⟩ = some (.slice none 0 0) := BxA.cell XF 2 _ rfl
    have q3 : (V.setCell ⟨K, 2, none⟩ (.int .i64 12)).cell? ⟨w.heap.size + 1, 3, none⟩ = some (.int .i64 0) := BxA.cell XF 3 _ rfl
    have q4 : (V.setCell ⟨K, 2, none⟩ (.int .i64 12)).cell? ⟨w.heap.size + 1, 4, none⟩ = some (.int .i64 0) := BxA.cell XF 4 _ rfl
    have q5 : (V.setCell ⟨K, 2, none⟩ (.int .i64 12)).cell? ⟨w.heap.size + 1, 5, none⟩ = some (.slice none 0 0) := BxA.cell XF 5 _ rfl
    have z0 : (V.setCell ⟨K, 2, none⟩ (.int .i64 12)).cell? ⟨w.heap.size, 0, none⟩ = some (.int .i64 0) := BxA.cell XB 0 _ rfl
    have f0 : (V.setCell ⟨K, 2, none⟩ (.int .i64 12)).frozen? ⟨w.heap.size, 0, none⟩ = false := BxA.free XB 0
    have z1 : (V.setCell ⟨K, 2, none⟩ (.int .i64 12)).cell? ⟨w.heap.size, 1, none⟩ = some (.int .i64 0) := BxA.cell XB 1 _ rfl
    have f1 : (V.setCell ⟨K, 2, none⟩ (.int .i64 12)).frozen? ⟨w.heap.size, 1, none⟩ = false := BxA.free XB 1
    have z2 : (V.setCell ⟨K, 2, none⟩ (.int .i64 12)).cell? ⟨w.heap.size, 2, none⟩ = some (.slice none 0 0) := BxA.cell XB 2 _ rfl
    have f2 : (V.setCell ⟨K, 2, none⟩ (.int .i64 12)).frozen? ⟨w.heap.size, 2, none⟩ = false := BxA.free XB 2
    have z3 : (V.setCell ⟨K, 2, none⟩ (.int .i64 12)).cell? ⟨w.heap.size, 3, none⟩ = some (.int .i64 0) := BxA.cell XB 3 _ rfl
    have f3 : (V.setCell ⟨K, 2, none⟩ (.int .i64 12)).frozen? ⟨w.heap.size, 3, none⟩ = false := BxA.free XB 3
    have z4 : (V.setCell ⟨K, 2, none⟩ (.int .i64 12)).cell? ⟨w.heap.size, 4, none⟩ = some (.int .i64 0) := BxA.cell XB 4 _ rfl
    have f4 : (V.setCell ⟨K, 2, none⟩ (.int .i64 12)).frozen? ⟨w.heap.size, 4, none⟩ = false := BxA.free XB 4
    have z5 : (V.setCell ⟨K, 2, none⟩ (.int .i64 12)).cell? ⟨w.heap.size, 5, none⟩ = some (.slice none 0 0) := BxA.cell XB 5 _ rfl
    have f5 : (V.setCell ⟨K, 2, none⟩ (.int .i64 12)).frozen? ⟨w.heap.size, 5, none⟩ = false := BxA.free XB 5
    obtain ⟨Y, hY⟩ : ∃ Y, Y = (((((((V.setCell ⟨K, 2, none⟩ (.int .i64 12)).setCell ⟨w.heap.size, 0, none⟩ (.int .i64 0)).setCell ⟨w.heap.size, 1, none⟩ (.int .i64 0)).setCell ⟨w.heap.size, 2, none⟩ (.slice none 0 0)).setCell ⟨w.heap.size, 3, none⟩ (.int .i64 0)).setCell ⟨w.heap.size, 4, none⟩ (.int .i64 0)).setCell ⟨w.heap.size, 5, none⟩ (.slice none 0 0)) := ⟨_, rfl⟩
    have gY : (V.setCell ⟨K, 2, none⟩ (.int .i64 12)).grownBy Y (some (w.heap.size)) := by rw [hY]; exact (grown_trans' (grown_trans' (grown_trans' (grown_trans' (grown_trans' grown_setCell grown_setCell) grown_setCell) grown_setCell) grown_setCell) grown_setCell)
    have xY : BxA Y (w.heap.size) 32 #[.int .i64 0, .int .i64 0, .slice none 0 0, .int .i64 0, .int .i64 0, .slice none 0 0] := by rw [hY]; exact (BxA.set (BxA.set (BxA.set (BxA.set (BxA.set (BxA.set XB 0 (.int .i64 0)) 1 (.int .i64 0)) 2 (.slice none 0 0)) 3 (.int .i64 0)) 4 (.int .i64 0)) 5 (.slice none 0 0))
    have y0 : Y.cell? ⟨w.heap.size, 0, none⟩ = some (.int .i64 0) := BxA.cell xY 0 _ rfl
    have y1 : Y.cell? ⟨w.heap.size, 1, none⟩ = some (.int .i64 0) := BxA.cell xY 1 _ rfl
    have y2 : Y.cell? ⟨w.heap.size, 2, none⟩ = some (.slice none 0 0) := BxA.cell xY 2 _ rfl
    have y3 : Y.cell? ⟨w.heap.size, 3, none⟩ = some (.int .i64 0) := BxA.cell xY 3 _ rfl
    have y4 : Y.cell? ⟨w.heap.size, 4, none⟩ = some (.int .i64 0) := BxA.cell xY 4 _ rfl
    have y5 : Y.cell? ⟨w.heap.size, 5, none⟩ = some (.slice none 0 0) := BxA.cell xY 5 _ rfl
    have HY : Hid (Y = _) := hY
    have GY : Hid ((V.setCell ⟨K, 2, none⟩ (.int .i64 12)).grownBy Y (some (w.heap.size))) := gY
    have XY : Hid _ := xY
    clear hY gY xY
    clear XF XB
    go_wp2_with fail
    rw [← HY.out]
    refine bodyPost_ret (v := .agg #[.int .i64 0, .int .i64 0, .slice none 0 0, .int .i64 0, .int .i64 0, .slice none 0 0]) (by simp [results, Try.results111, go_sem, y0, y1, y2, y3, y4, y5]) rfl ?_
    obtain ⟨gW, hW, lW⟩ := HG.out
    refine ⟨Fi.Tr.mk 0 0 (.slice none 0 0) [] 0 0 (.slice none 0 0) [], rfl, (fun w' _ _ => ⟨Fi.Rds.nil _, Fi.RdsK.nil _ _, fun _ h => by cases h⟩), ⟨⟨show In64 0 from by unfold In64; omega, show In64 0 from by unfold In64; omega, show In64 0 from by unfold In64; omega, show In64 0 from by unfold In64; omega, (fun _ h => by cases h), (fun _ h => by cases h)⟩, ⟨_, _, _, rfl⟩, ⟨_, _, _, rfl⟩⟩, ?_, fill_grown gW GY.out (Nat.le_refl _), ?_⟩
    · have hk := hW.keep (grown_above GY.out hRw lW)
      show RP B K v l Y (skFil l 0 (p, 0)).1 (skFil l 0 (p, 0)).2
      unfold skFil
      exact hk
    · intro h0 h2
      exact absurd h2 (by unfold skFil; simp)
  · have he2 : ((e : Int) == 0) = false := by simpa using he
    go_enter Try.func111, Try.ntmps111
    go_upto_region 2 with fail
    rw [← HV.out]
    obtain ⟨hP, gV, xF, xO⟩ := HP.out
    have XF := xF
    have XB := xO
    have HG : Hid _ := And.intro gV (And.intro hP (BxA.lt XB))
    clear hP gV xF xO
    have q0 : V.cell? ⟨w.heap.size + 1, 0, none⟩ = some (.int .i64 0) := BxA.cell XF 0 _ rfl
    have q1 : V.cell? ⟨w.heap.size + 1, 1, none⟩ = some (.int .i64 0) := BxA.cell XF 1 _ rfl
    have q2 : V.cell? ⟨w.heap.size + 1, 2, none⟩ = some (.slice none 0 0) := BxA.cell XF 2 _ rfl
    have q3 : V.cell? ⟨w.heap.size + 1, 3, none⟩ = some (.int .i64 0) := BxA.cell XF 3 _ rfl
    have q4 : V.cell? ⟨w.heap.size + 1, 4, none⟩ = some (.int .i64 0) := BxA.cell XF 4 _ rfl
    have q5 : V.cell? ⟨w.heap.size + 1, 5, none⟩ = some (.slice none 0 0) := BxA.cell XF 5 _ rfl
    have z0 : V.cell? ⟨w.heap.size, 0, none⟩ = some (.int .i64 0) := BxA.cell XB 0 _ rfl
    have f0 : V.frozen? ⟨w.heap.size, 0, none⟩ = false := BxA.free XB 0
    have z1 : V.cell? ⟨w.heap.size, 1, none⟩ = some (.int .i64 0) := BxA.cell XB 1 _ rfl
    have f1 : V.frozen? ⟨w.heap.size, 1, none⟩ = false := BxA.free XB 1
    have z2 : V.cell? ⟨w.heap.size, 2, none⟩ = some (.slice none 0 0) := BxA.cell XB 2 _ rfl
    have f2 : V.frozen? ⟨w.heap.size, 2, none⟩ = false := BxA.free XB 2
    have z3 : V.cell? ⟨w.heap.size, 3, none⟩ = some (.int .i64 0) := BxA.cell XB 3 _ rfl
    have f3 : V.frozen? ⟨w.heap.size, 3, none⟩ = false := BxA.free XB 3
    have z4 : V.cell? ⟨w.heap.size, 4, none⟩ = some (.int .i64 0) := BxA.cell XB 4 _ rfl
    have f4 : V.frozen? ⟨w.heap.size, 4, none⟩ = false := BxA.free XB 4
    have z5 : V.cell? ⟨w.heap.size, 5, none⟩ = some (.slice none 0 0) := BxA.cell XB 5 _ rfl
    have f5 : V.frozen? ⟨w.heap.size, 5, none⟩ = false := BxA.free XB 5
    obtain ⟨Y, hY⟩ : ∃ Y, Y = ((((((V.setCell ⟨w.heap.size, 0, none⟩ (.int .i64 0)).setCell ⟨w.heap.size, 1, none⟩ (.int .i64 0)).setCell ⟨w.heap.size, 2, none⟩ (.slice none 0 0)).setCell ⟨w.heap.size, 3, none⟩ (.int .i64 0)).setCell ⟨w.heap.size, 4, none⟩ (.int .i64 0)).setCell ⟨w.heap.size, 5, none⟩ (.slice none 0 0)) := ⟨_, rfl⟩
    have gY : V.grownBy Y (some (w.heap.size)) := by rw [hY]; exact (grown_trans' (grown_trans' (grown_trans' (grown_trans' (grown_trans' grown_setCell grown_setCell) grown_setCell) grown_setCell) grown_setCell) grown_setCell)
    have xY : BxA Y (w.heap.size) 32 #[.int .i64 0, .int .i64 0, .slice none 0 0, .int .i64 0, .int .i64 0, .slice none 0 0] := by rw [hY]; exact (BxA.set (BxA.set (BxA.set (BxA.set (BxA.set (BxA.set XB 0 (.int .i64 0)) 1 (.int .i64 0)) 2 (.slice none 0 0)) 3 (.int .i64 0)) 4 (.int .i64 0)) 5 (.slice none 0 0))
    have y0 : Y.cell? ⟨w.heap.size, 0, none⟩ = some (.int .i64 0) := BxA.cell xY 0 _ rfl
    have y1 : Y.cell? ⟨w.heap.size, 1, none⟩ = some (.int .i64 0) := BxA.cell xY 1 _ rfl
    have y2 : Y.cell? ⟨w.heap.size, 2, none⟩ = some (.slice none 0 0) := BxA.cell xY 2 _ rfl
    have y3 : Y.cell? ⟨w.heap.size, 3, none⟩ = some (.int .i64 0) := BxA.cell xY 3 _ rfl
    have y4 : Y.cell? ⟨w.heap.size, 4, none⟩ = some (.int .i64 0) := BxA.cell xY 4 _ rfl
    have y5 : Y.cell? ⟨w.heap.size, 5, none⟩ = some (.slice none 0 0) := BxA.cell xY 5 _ rfl
    have HY : Hid (Y = _) := hY
    have GY : Hid (V.grownBy Y (some (w.heap.size))) := gY
    have XY : Hid _ := xY
    clear hY gY xY
    clear XF XB
    go_wp2_with fail
    rw [← HY.out]
    refine bodyPost_ret (v := .agg #[.int .i64 0, .int .i64 0, .slice none 0 0, .int .i64 0, .int .i64 0, .slice none 0 0]) (by simp [results, Try.results111, go_sem, y0, y1, y2, y3, y4, y5]) rfl ?_
    obtain ⟨gW, hW, lW⟩ := HG.out
    refine ⟨Fi.Tr.mk 0 0 (.slice none 0 0) [] 0 0 (.slice none 0 0) [], rfl, (fun w' _ _ => ⟨Fi.Rds.nil _, Fi.RdsK.nil _ _, fun _ h => by cases h⟩), ⟨⟨show In64 0 from by unfold In64; omega, show In64 0 from by unfold In64; omega, show In64 0 from by unfold In64; omega, show In64 0 from by unfold In64; omega, (fun _ h => by cases h), (fun _ h => by cases h)⟩, ⟨_, _, _, rfl⟩, ⟨_, _, _, rfl⟩⟩, ?_, fill_grown gW GY.out (Nat.le_refl _), ?_⟩
    · have hk := hW.keep (grown_above GY.out hRw lW)
      show RP B K v l Y (skFil l 0 (p, e)).1 (skFil l 0 (p, e)).2
      unfold skFil
      rw [if_pos he]
      exact hk
    · intro h0 h2
      exact absurd h0 he
theorem BxA.other {w : World} {g b i : Nat} {t : TypeId} {cs : Array Value} {u : Value} (h : BxA w g t cs) (hn : g ≠ b) : BxA (w.setCell ⟨b, i, none⟩ u) g t cs := BxA.grow (R := b) h grown_setCell hn
set_option maxRecDepth 100000 in
set_option maxHeartbeats 6400000 in
theorem kfil_step (B K : Nat) (v : Value) (l : Bs) (k dp : Nat) (hd : dp + k = 20) (hlb : l.length ≤ 1048576) (hI : FilK B K v l k (dp + 1)) : FilK B K v l (k + 1) dp := by
  obtain ⟨i0, hi0, hz0, hz1, hz2⟩ := info_parts Try.inf_fil
  intro w p e h
  have hRw := h.lt
  have hple := h.le
  obtain ⟨V, hV⟩ : ∃ V, V = ((w.alloc (.cells #[.int .i64 0, .int .i64 0, .slice none 0 0, .int .i64 0, .int .i64 0, .slice none 0 0] 32)).alloc (.cells #[.int .i64 0, .int .i64 0, .slice none 0 0, .int .i64 0, .int .i64 0, .slice none 0 0] 32)) := ⟨_, rfl⟩
  have zV : V.heap.size = w.heap.size + 1 + 1 := by rw [hV]; simp
  have bV : Below (K + 1) w V := by rw [hV]; exact ((Below.refl (K + 1) w).alloc hRw _).alloc (Nat.le_trans hRw (by simp)) _
  have hP : RP B K v l V p e := h.keep bV
  have gV : w.grownBy V (some K) := by rw [hV]; exact grown_trans' (grown_alloc _ _ _) (grown_alloc _ _ _)
  have xF : BxA V (w.heap.size + 1) 32 #[.int .i64 0, .int .i64 0, .slice none 0 0, .int .i64 0, .int .i64 0, .slice none 0 0] := by
    rw [hV]
    have := BxA.new (w.alloc (.cells #[.int .i64 0, .int .i64 0, .slice none 0 0, .int .i64 0, .int .i64 0, .slice none 0 0] 32)) 32 #[.int .i64 0, .int .i64 0, .slice none 0 0, .int .i64 0, .int .i64 0, .slice none 0 0]
    simpa [BxA] using this
  have xO : BxA V w.heap.size 32 #[.int .i64 0, .int .i64 0, .slice none 0 0, .int .i64 0, .int .i64 0, .slice none 0 0] := by
    rw [hV]
    unfold BxA
    rw [Below.heap_alloc _ _ _ (by simp)]
    exact BxA.new _ _ _
  have HV : Hid (V = _) := hV
  have hdz : ¬ (20 : Int) < (dp : Int) := by omega
  have mixed : Try.prog.follows .mixedOrders = true := by kernel_rfl
  have G0 : GK B K v l w V (p, e) (fun s => s) [] := GK.id hP gV
  have k0 := kwhole B K v l V _ _ G0.ps
  have HI2 : Aside (FilK B K v l k (dp + 1)) := hI
  have H0 : Hid _ := And.intro G0 (And.intro xF xO)
  clear hV bV hP gV xF xO h hI zV G0
  go_enter Try.func111, Try.ntmps111
  go_upto_region 2 with fail
  rw [← HV.out]
  go_wp2_with fail
  refine k0.mono ?_
  rintro er w1 ⟨KI, rfl, iK, G⟩
  obtain ⟨GA, xF, xO⟩ := H0.out
  have GC := GK.comp hple (fwd_id l) (fwd_u l) GA G
  have xF1 := BxA.grow xF G.g (by omega)
  have xO1 := BxA.grow xO G.g (by omega)
  have z0 : w1.cell? ⟨w.heap.size + 1, 0, none⟩ = some (.int .i64 0) := BxA.cell xF1 0 _ rfl
  have f0 : w1.frozen? ⟨w.heap.size + 1, 0, none⟩ = false := BxA.free xF1 0
  obtain ⟨Y1, hY1⟩ : ∃ Y, Y = w1.setCell ⟨w.heap.size + 1, 0, none⟩ (.int .i64 KI) := ⟨_, rfl⟩
  have GY := GC.fld (g := w.heap.size + 1) (by omega) (BxA.lt xF1) hRw 0 (.int .i64 KI)
  rw [← hY1] at GY
  have xFY : BxA Y1 (w.heap.size + 1) 32 #[.int .i64 KI, .int .i64 0, .slice none 0 0, .int .i64 0, .int .i64 0, .slice none 0 0] := by rw [hY1]; exact BxA.set xF1 0 _
  have xOY : BxA Y1 w.heap.size 32 #[.int .i64 0, .int .i64 0, .slice none 0 0, .int .i64 0, .int .i64 0, .slice none 0 0] := by rw [hY1]; exact BxA.other xO1 (by omega)
  have k1 := kwhole B K v l Y1 _ _ GY.ps
  have HY1 : Hid (Y1 = _) := hY1
  have H1 : Hid _ := And.intro GY (And.intro xFY xOY)
  have HHiK : Hid _ := iK
  clear k0 G GA xF xO GC xF1 xO1 hY1 GY xFY xOY  iK
  go_wp2_with fail
  rw [← HY1.out]
  refine k1.mono ?_
  rintro er w2 ⟨DI, rfl, iD, G⟩
  obtain ⟨GA, xF, xO⟩ := H1.out
  have GC := GK.comp hple (fwd_u l) (fwd_u l) GA G
  have xF1 := BxA.grow xF G.g (by omega)
  have xO1 := BxA.grow xO G.g (by omega)
  have z1 : w2.cell? ⟨w.heap.size + 1, 1, none⟩ = some (.int .i64 0) := BxA.cell xF1 1 _ rfl
  have f1 : w2.frozen? ⟨w.heap.size + 1, 1, none⟩ = false := BxA.free xF1 1
  obtain ⟨Y2, hY2⟩ : ∃ Y, Y = w2.setCell ⟨w.heap.size + 1, 1, none⟩ (.int .i64 DI) := ⟨_, rfl⟩
  have GY := GC.fld (g := w.heap.size + 1) (by omega) (BxA.lt xF1) hRw 1 (.int .i64 DI)
  rw [← hY2] at GY
  have xFY : BxA Y2 (w.heap.size + 1) 32 #[.int .i64 KI, .int .i64 DI, .slice none 0 0, .int .i64 0, .int .i64 0, .slice none 0 0] := by rw [hY2]; exact BxA.set xF1 1 _
  have xOY : BxA Y2 w.heap.size 32 #[.int .i64 0, .int .i64 0, .slice none 0 0, .int .i64 0, .int .i64 0, .slice none 0 0] := by rw [hY2]; exact BxA.other xO1 (by omega)
  have k2 := ktexts B K v l Y2 _ _ hlb GY.ps
  have HY2 : Hid (Y2 = _) := hY2
  have H2 : Hid _ := And.intro GY (And.intro xFY xOY)
  have HHiD : Hid _ := iD
  clear k1 G GA xF xO GC xF1 xO1 hY2 GY xFY xOY  iD
  go_wp2_with fail
  rw [← HY2.out]
  refine k2.mono ?_
  rintro er w3 ⟨tv, ts, rfl, ow, tl, G⟩
  obtain ⟨a1, n1, m1, rfl⟩ := own_sl ow
  obtain ⟨GA, xF, xO⟩ := H2.out
  have GC := GK.comp hple ((fwd_u l).comp (fwd_u l)) (fwd_txt l) GA G
  have xF1 := BxA.grow xF G.g (by omega)
  have xO1 := BxA.grow xO G.g (by omega)
  have ow1 := own_mono ow (BxA.lt xF)
  have z2 : w3.cell? ⟨w.heap.size + 1, 2, none⟩ = some (.slice none 0 0) := BxA.cell xF1 2 _ rfl
  have f2 : w3.frozen? ⟨w.heap.size + 1, 2, none⟩ = false := BxA.free xF1 2
  obtain ⟨Y3, hY3⟩ : ∃ Y, Y = w3.setCell ⟨w.heap.size + 1, 2, none⟩ (.slice a1 n1 m1) := ⟨_, rfl⟩
  have GY := GC.fld (g := w.heap.size + 1) (by omega) (BxA.lt xF1) hRw 2 (.slice a1 n1 m1)
  rw [← hY3] at GY
  have xFY : BxA Y3 (w.heap.size + 1) 32 #[.int .i64 KI, .int .i64 DI, .slice a1 n1 m1, .int .i64 0, .int .i64 0, .slice none 0 0] := by rw [hY3]; exact BxA.set xF1 2 _
  have xOY : BxA Y3 w.heap.size 32 #[.int .i64 0, .int .i64 0, .slice none 0 0, .int .i64 0, .int .i64 0, .slice none 0 0] := by rw [hY3]; exact BxA.other xO1 (by omega)
  have owY : Y3.ownsRow (w.heap.size + 1 + 1) 9 1 (.slice a1 n1 m1) ts.length (ts.flatMap cl_str) := by rw [hY3]; exact (BxA.ktt xF1 grown_setCell).own ow1 (by decide)
  have k3 := kint B K v l Y3 _ _ GY.ps
  have HY3 : Hid (Y3 = _) := hY3
  have H3 : Hid _ := And.intro GY (And.intro xFY (And.intro xOY (And.intro owY tl)))
  clear k2 G GA xF xO GC xF1 xO1 hY3 GY xFY xOY ow ow1 owY tl 
  go_wp2_with fail
  rw [← HY3.out]
  refine k3.mono ?_
  rintro er w4 ⟨LO, rfl, iL, G⟩
  obtain ⟨GA, xF, xO, ow, tl⟩ := H3.out
  have GC := GK.comp hple (((fwd_u l).comp (fwd_u l)).comp (fwd_txt l)) (fwd_u l) GA G
  have xF1 := BxA.grow xF G.g (by omega)
  have xO1 := BxA.grow xO G.g (by omega)
  have ow1 := (RP.ktt GA.ps G.g).own ow (by decide)
  have z3 : w4.cell? ⟨w.heap.size + 1, 3, none⟩ = some (.int .i64 0) := BxA.cell xF1 3 _ rfl
  have f3 : w4.frozen? ⟨w.heap.size + 1, 3, none⟩ = false := BxA.free xF1 3
  obtain ⟨Y4, hY4⟩ : ∃ Y, Y = w4.setCell ⟨w.heap.size + 1, 3, none⟩ (.int .i64 LO) := ⟨_, rfl⟩
  have GY := GC.fld (g := w.heap.size + 1) (by omega) (BxA.lt xF1) hRw 3 (.int .i64 LO)
  rw [← hY4] at GY
  have xFY : BxA Y4 (w.heap.size + 1) 32 #[.int .i64 KI, .int .i64 DI, .slice a1 n1 m1, .int .i64 LO, .int .i64 0, .slice none 0 0] := by rw [hY4]; exact BxA.set xF1 3 _
  have xOY : BxA Y4 w.heap.size 32 #[.int .i64 0, .int .i64 0, .slice none 0 0, .int .i64 0, .int .i64 0, .slice none 0 0] := by rw [hY4]; exact BxA.other xO1 (by omega)
  have owY : Y4.ownsRow (w.heap.size + 1 + 1) 9 1 (.slice a1 n1 m1) ts.length (ts.flatMap cl_str) := by rw [hY4]; exact (BxA.ktt xF1 grown_setCell).own ow1 (by decide)
  have k4 := kint B K v l Y4 _ _ GY.ps
  have HY4 : Hid (Y4 = _) := hY4
  have H4 : Hid _ := And.intro GY (And.intro xFY (And.intro xOY (And.intro owY tl)))
  have HHiL : Hid _ := iL
  clear k3 G GA xF xO GC xF1 xO1 hY4 GY xFY xOY ow ow1 owY tl iL
  go_wp2_with fail
  rw [← HY4.out]
  refine k4.mono ?_
  rintro er w5 ⟨HI, rfl, iH, G⟩
  obtain ⟨GA, xF, xO, ow, tl⟩ := H4.out
  have GC := GK.comp hple ((((fwd_u l).comp (fwd_u l)).comp (fwd_txt l)).comp (fwd_u l)) (fwd_u l) GA G
  have xF1 := BxA.grow xF G.g (by omega)
  have xO1 := BxA.grow xO G.g (by omega)
  have ow1 := (RP.ktt GA.ps G.g).own ow (by decide)
  have z4 : w5.cell? ⟨w.heap.size + 1, 4, none⟩ = some (.int .i64 0) := BxA.cell xF1 4 _ rfl
  have f4 : w5.frozen? ⟨w.heap.size + 1, 4, none⟩ = false := BxA.free xF1 4
  obtain ⟨Y5, hY5⟩ : ∃ Y, Y = w5.setCell ⟨w.heap.size + 1, 4, none⟩ (.int .i64 HI) := ⟨_, rfl⟩
  have GY := GC.fld (g := w.heap.size + 1) (by omega) (BxA.lt xF1) hRw 4 (.int .i64 HI)
  rw [← hY5] at GY
  have xFY : BxA Y5 (w.heap.size + 1) 32 #[.int .i64 KI, .int .i64 DI, .slice a1 n1 m1, .int .i64 LO, .int .i64 HI, .slice none 0 0] := by rw [hY5]; exact BxA.set xF1 4 _
  have xOY : BxA Y5 w.heap.size 32 #[.int .i64 0, .int .i64 0, .slice none 0 0, .int .i64 0, .int .i64 0, .slice none 0 0] := by rw [hY5]; exact BxA.other xO1 (by omega)
  have owY : Y5.ownsRow (w.heap.size + 1 + 1) 9 1 (.slice a1 n1 m1) ts.length (ts.flatMap cl_str) := by rw [hY5]; exact (BxA.ktt xF1 grown_setCell).own ow1 (by decide)
  obtain ⟨s5, hs5⟩ : ∃ s5 : Sg2, s5 = skU l (skU l (skTxt l (skU l (skU l (p, e))))) := ⟨_, rfl⟩
  have ps5 : RP B K v l Y5 s5.1 s5.2 := by rw [hs5]; exact GY.ps
  have HS5 : Hid (s5 = _) := hs5
  have H5p : Hid (RP B K v l Y5 s5.1 s5.2) := ps5
  clear hs5
  have k5 := kcount B K v l Y5 s5.1 s5.2 hlb ps5
  have HY5 : Hid (Y5 = _) := hY5
  have H5 : Hid _ := And.intro GY (And.intro xFY (And.intro xOY (And.intro owY tl)))
  have HHiH : Hid _ := iH
  clear k4 G GA xF xO GC xF1 xO1 hY5 GY xFY xOY ow ow1 owY tl iH
  obtain ⟨n, hn⟩ : ∃ n, n = (cS l s5.1 s5.2 1).1 := ⟨_, rfl⟩
  obtain ⟨s1, hs1⟩ : ∃ s : Sg2, s = (cS l s5.1 s5.2 1).2 := ⟨_, rfl⟩
  have hnl : n ≤ 1048576 := by rw [hn]; exact Nat.le_trans (c_le l s5.1 s5.2 H5p.out.le) hlb
  have e1 : (cS l s5.1 s5.2 1).2.1 = s1.1 := by rw [hs1]
  have e2 : (cS l s5.1 s5.2 1).2.2 = s1.2 := by rw [hs1]
  rw [← hn, e1, e2] at k5
  have HN : Hid (n = (cS l s5.1 s5.2 1).1 ∧ s1 = (cS l s5.1 s5.2 1).2) := ⟨hn, hs1⟩
  have FW5 := (((((fwd_u l).comp (fwd_u l)).comp (fwd_txt l)).comp (fwd_u l)).comp (fwd_u l))
  clear hn hs1 e1 e2 ps5
  go_wp2_with fail
  clear z0 f0 z1 f1 z2 f2 z3 f3 z4 f4
  rw [← HY5.out]
  refine k5.mono ?_
  rintro er w6 ⟨rfl, hP6, g6⟩
  obtain ⟨GA, xF, xO, ow, tl⟩ := H5.out
  have HP1 : Hid (RP B K v l w6 s1.1 s1.2) := hP6
  have HX6 : Hid (BxA w6 (w.heap.size + 1) 32 #[.int .i64 KI, .int .i64 DI, .slice a1 n1 m1, .int .i64 LO, .int .i64 HI, .slice none 0 0] ∧ BxA w6 w.heap.size 32 #[.int .i64 0, .int .i64 0, .slice none 0 0, .int .i64 0, .int .i64 0, .slice none 0 0]) := ⟨BxA.grow xF g6 (by omega), BxA.grow xO g6 (by omega)⟩
  have HO6 : Hid (w6.ownsRow (w.heap.size + 1 + 1) 9 1 (.slice a1 n1 m1) ts.length (ts.flatMap cl_str)) := (RP.ktt GA.ps g6).own ow (by decide)
  have HG6 : Hid (w.grownBy w6 (some K)) := grown_trans' GA.g g6
  have ed : ((dp + 1 : Nat) : Int) = (dp : Int) + 1 := by omega
  have hwr : wrap64 ((dp : Int) + 1) = (dp : Int) + 1 := by rw [← IntWalk.i64_left, IntKind.wrap_i64]; omega
  clear GA xF xO ow tl hP6 g6 k5
  go_wp2_with fail
  go_loopg [7] n (fun kx v7 wr => ∃ (i : Nat) (xs : List Fi.Tr) (a2 : Option Addr) (n2 m2 : Nat), v7 = .int .i64 (i : Int) ∧ i ≤ n ∧ n - i ≤ kx ∧ Hid (xs.length = i) ∧ Hid (BxA wr (w.heap.size + 1) 32 #[.int .i64 KI, .int .i64 DI, .slice a1 n1 m1, .int .i64 LO, .int .i64 HI, .slice a2 n2 m2] ∧ BxA wr w.heap.size 32 #[.int .i64 0, .int .i64 0, .slice none 0 0, .int .i64 0, .int .i64 0, .slice none 0 0]) ∧ Hid (wr.ownsRow (w.heap.size + 1 + 1) 32 6 (.slice a2 n2 m2) i (xs.flatMap cl_fil)) ∧ Hid (∀ x ∈ xs, FIt (w.heap.size + 1 + 1) wr (.slice a2 n2 m2) x ∧ TrIn x) ∧ Hid (wr.ownsRow (w.heap.size + 1 + 1) 9 1 (.slice a1 n1 m1) ts.length (ts.flatMap cl_str)) ∧ Hid (RP B K v l wr (skN (skFil l k) i s1).1 (skN (skFil l k) i s1).2) ∧ Hid (w.grownBy wr (some K)) ∧ Hid (s1.2 = 0 → (skN (skFil l k) i s1).2 = 0 → xs.flatMap r_fil = rd l s1.1 (skN (skFil l k) i s1).1))
  case atStart => exact ⟨0, [], none, 0, 0, rfl, by omega, Nat.le_refl _, rfl, HX6, ⟨rfl, .inl ⟨rfl, rfl⟩⟩, (fun _ h => by cases h), HO6, HP1, HG6, fun _ _ => by show _ = rd l s1.1 s1.1; simp [rd]⟩
  case round =>
    obtain ⟨i, xs, a2, n2, m2, rfl, hi, hkx, HXL, HBX, HOW, HOK, HSR, HP, HG, HBB⟩ := hrel
    obtain ⟨E, hE⟩ : ∃ E, E = (skN (skFil l k) i s1).2 := ⟨_, rfl⟩
    have HEE : Hid (E = (skN (skFil l k) i s1).2) := hE
    have hks := HP.out.ks
    rw [← hE] at hks
    obtain ⟨c0, c1, c2, cf⟩ := hks.cells
    clear hks hE cf c0 c1
    by_cases hlt : i < n
    · have hltz : (i : Int) < (n : Int) := by omega
      by_cases he : E = 0
      · subst he
        obtain ⟨q, hq⟩ : ∃ q, q = (skN (skFil l k) i s1).1 := ⟨_, rfl⟩
        have HQ : Hid ((q, 0) = skN (skFil l k) i s1) := Prod.ext hq HEE.out
        have hql : ((q, 0) : Sg2).1 ≤ l.length := by rw [hq]; exact HP.out.le
        have rq : RP B K v l wr q 0 := by have := HP.out; rw [← hq, ← HEE.out] at this; exact this
        have hSig0 : (false = true → false = true) ∧ (false = false → BxA wr.drew (w.heap.size + 1) 32 #[.int .i64 KI, .int .i64 DI, .slice a1 n1 m1, .int .i64 LO, .int .i64 HI, .slice a2 n2 m2]) := ⟨fun h => h, fun _ => HBX.out.1⟩
        have hS00 : GK B K v l wr wr.drew (q, 0) (fun s => s) [] := GK.id ⟨rq.b, rq.ks, rq.rd, rq.le⟩ ⟨rfl, rfl, rfl, Nat.le_refl _, fun _ _ _ => rfl⟩
        clear hq rq
        go_upto_region 15 with fail
        refine wp_region_invF (β := Value × Value × Value × Value × Value × Value × Value × Value × Value) (fun a0 xq => (((((((((a0.put (some 48) (xq.1)).put (some 49) (xq.2.1)).put (some 50) (xq.2.2.1)).put (some 51) (xq.2.2.2.1)).put (some 52) (xq.2.2.2.2.1)).put (some 53) (xq.2.2.2.2.2.1)).put (some 54) (xq.2.2.2.2.2.2.1)).put (some 55) (xq.2.2.2.2.2.2.2.1)).put (some 56) (xq.2.2.2.2.2.2.2.2))) ?fr48 (fun xq d w' => ((d 9 = true → d 1 = true) ∧ (d 9 = false → BxA w' (w.heap.size + 1) 32 #[.int .i64 KI, .int .i64 DI, .slice a1 n1 m1, .int .i64 LO, .int .i64 HI, .slice a2 n2 m2])) ∧ ((d 0 = true → (xq.1) = .pointer (some ⟨w.heap.size + 1, 5, none⟩)) ∧ (d 1 = true → (xq.2.1) = .slice a2 n2 m2) ∧ (d 2 = true → (xq.2.2.1) = .pointer (some ⟨K, 0, none⟩)) ∧ (d 3 = true → (xq.2.2.2.1) = .int .i64 (dp : Int)) ∧ (d 4 = true → (xq.2.2.2.2.1) = .int .i64 ((dp : Int) + 1)) ∧ (d 8 = true → (xq.2.2.2.2.2.2.2.2) = .pointer (some ⟨w.heap.size + 1, 5, none⟩))) ∧ ∃ j : Nat, j ≤ 4 ∧ (d 5 = decide (0 < j) ∧ d 6 = decide (1 < j) ∧ d 7 = decide (2 < j) ∧ d 9 = decide (3 < j)) ∧ ((j = 0 → GK B K v l wr w' (q, 0) (fun s => s) []) ∧ (j = 1 → ∃ (x : Fi.Tr) (b1 : Option Addr) (c1 d1 : Nat) (b2 : Option Addr) (c2 d2 : Nat), (xq.2.2.2.2.2.1) = .agg #[.int .i64 x.k, .int .i64 x.d, .slice b1 c1 d1, .int .i64 x.lo, .int .i64 x.hi, .slice b2 c2 d2] ∧ Win wr.heap.size w' (fun w => x.Ok w) ∧ TrIn x ∧ x.tv = .slice b1 c1 d1 ∧ x.kv = .slice b2 c2 d2 ∧ GK B K v l wr w' (q, 0) (skFil l k) (r_fil x)) ∧ (j = 2 → ∃ (x : Fi.Tr) (b1 : Option Addr) (c1 d1 : Nat) (b2 : Option Addr) (c2 d2 : Nat) (w2 : World), (xq.2.2.2.2.2.1) = .agg #[.int .i64 x.k, .int .i64 x.d, .slice b1 c1 d1, .int .i64 x.lo, .int .i64 x.hi, .slice b2 c2 d2] ∧ (xq.2.2.2.2.2.2.1) = .slice (some ⟨w2.heap.size, 0, none⟩) 1 1 ∧ (Win wr.heap.size w2 (fun w => x.Ok w) ∧ TrIn x ∧ x.tv = .slice b1 c1 d1 ∧ x.kv = .slice b2 c2 d2 ∧ GK B K v l wr w2 (q, 0) (skFil l k) (r_fil x)) ∧ w' = w2.alloc (.cells #[.int .i64 x.k, .int .i64 x.d, .slice b1 c1 d1, .int .i64 x.lo, .int .i64 x.hi, .slice b2 c2 d2] 32)) ∧ (j = 3 → ∃ (x : Fi.Tr) (b1 : Option Addr) (c1 d1 : Nat) (b2 : Option Addr) (c2 d2 : Nat) (w2 : World) (a5 : Option Addr) (n5 m5 : Nat), (xq.2.2.2.2.2.2.2.1) = .slice a5 n5 m5 ∧ (Win wr.heap.size w2 (fun w => x.Ok w) ∧ TrIn x ∧ x.tv = .slice b1 c1 d1 ∧ x.kv = .slice b2 c2 d2 ∧ GK B K v l wr w2 (q, 0) (skFil l k) (r_fil x)) ∧ (w'.ownsRow (w.heap.size + 1 + 1) 32 6 (.slice a5 n5 m5) (i + 1) (xs.flatMap cl_fil ++ cl_fil x) ∧ (w2.alloc (.cells #[.int .i64 x.k, .int .i64 x.d, .slice b1 c1 d1, .int .i64 x.lo, .int .i64 x.hi, .slice b2 c2 d2] 32)).grownBy w' (Value.ownBlock (.slice a2 n2 m2)) ∧ ((Value.ownBlock (.slice a5 n5 m5)) = (Value.ownBlock (.slice a2 n2 m2)) ∨ ∃ g, (Value.ownBlock (.slice a5 n5 m5)) = some g ∧ (w2.alloc (.cells #[.int .i64 x.k, .int .i64 x.d, .slice b1 c1 d1, .int .i64 x.lo, .int .i64 x.hi, .slice b2 c2 d2] 32)).heap.size ≤ g))) ∧ (j = 4 → ∃ (x : Fi.Tr) (b1 : Option Addr) (c1 d1 : Nat) (b2 : Option Addr) (c2 d2 : Nat) (w2 w3 : World) (a5 : Option Addr) (n5 m5 : Nat), (Win wr.heap.size w2 (fun w => x.Ok w) ∧ TrIn x ∧ x.tv = .slice b1 c1 d1 ∧ x.kv = .slice b2 c2 d2 ∧ GK B K v l wr w2 (q, 0) (skFil l k) (r_fil x)) ∧ (w3.ownsRow (w.heap.size + 1 + 1) 32 6 (.slice a5 n5 m5) (i + 1) (xs.flatMap cl_fil ++ cl_fil x) ∧ (w2.alloc (.cells #[.int .i64 x.k, .int .i64 x.d, .slice b1 c1 d1, .int .i64 x.lo, .int .i64 x.hi, .slice b2 c2 d2] 32)).grownBy w3 (Value.ownBlock (.slice a2 n2 m2)) ∧ ((Value.ownBlock (.slice a5 n5 m5)) = (Value.ownBlock (.slice a2 n2 m2)) ∨ ∃ g, (Value.ownBlock (.slice a5 n5 m5)) = some g ∧ (w2.alloc (.cells #[.int .i64 x.k, .int .i64 x.d, .slice b1 c1 d1, .int .i64 x.lo, .int .i64 x.hi, .slice b2 c2 d2] 32)).heap.size ≤ g)) ∧ BxA w3 (w.heap.size + 1) 32 #[.int .i64 KI, .int .i64 DI, .slice a1 n1 m1, .int .i64 LO, .int .i64 HI, .slice a2 n2 m2] ∧ w' = w3.setCell ⟨w.heap.size + 1, 5, none⟩ (.slice a5 n5 m5)))) ?lay48 mixed (by kernel_rfl) ?h048 ?hs48 ?he48
        case lay48 =>
          intro xq
          simp only [Act.put, List.setIfInBounds_toArray, List.set_cons_zero, List.set_cons_succ]
          rfl
        case h048 =>
          refine ⟨(u48, u49, u50, u51, u52, u53, u54, u55, u56), rfl, ?sig48, ⟨(fun h => by cases h), (fun h => by cases h), (fun h => by cases h), (fun h => by cases h), (fun h => by cases h), (fun h => by cases h)⟩, 0, Nat.zero_le _, ⟨rfl, rfl, rfl, rfl⟩, ?S048, (fun h => by cases h), (fun h => by cases h), (fun h => by cases h), (fun h => by cases h)⟩
          case sig48 => exact hSig0
          case S048 => exact fun _ => hS00
        case hs48 =>
          refine ⟨?_, ?_, ?_, ?_, ?_, ?_, ?_, ?_, ?_, ?_, trivial⟩
          · rintro d ⟨x48, x49, x50, x51, x52, x53, x54, x55, x56⟩ w' hI hd hdp KQ hK
            dsimp only at hI
            obtain ⟨hS, ⟨f0, f1, f2, f3, f4, f8⟩, j, hj, ⟨dd5, dd6, dd7, dd9⟩, ⟨p0, p1, p2, p3, p4⟩⟩ := hI
            have hd0 := hd
            have HF : Hid _ := And.intro hS (And.intro (And.intro f0 (And.intro f1 (And.intro f2 (And.intro f3 (And.intro f4 f8))))) (And.intro hj (And.intro (And.intro dd5 (And.intro dd6 (And.intro dd7 dd9))) (And.intro p0 (And.intro p1 (And.intro p2 (And.intro p3 p4)))))))
            clear hS f0 f1 f2 f3 f4 f8 hj dd5 dd6 dd7 dd9 p0 p1 p2 p3 p4 hdp hd
            refine Opn.mk ?_
            dsimp only
            go_simp
            obtain ⟨hS, ⟨f0, f1, f2, f3, f4, f8⟩, hj, ⟨dd5, dd6, dd7, dd9⟩, ⟨p0, p1, p2, p3, p4⟩⟩ := HF.out
            exact hK.out (.pointer (some ⟨w.heap.size + 1, 5, none⟩), x49, x50, x51, x52, x53, x54, x55, x56) _ ⟨⟨fun h => (upd_no (by decide)).trans (hS.1 (upd_ne h (by decide))), fun h => hS.2 (by rw [upd_no (by decide)] at h; exact h)⟩, ⟨(fun _ => rfl), (fun h => f1 (upd_ne h (by decide))), (fun h => f2 (upd_ne h (by decide))), (fun h => f3 (upd_ne h (by decide))), (fun h => f4 (upd_ne h (by decide))), (fun h => f8 (upd_ne h (by decide)))⟩, j, hj, ⟨((upd_no (by decide)).trans dd5), ((upd_no (by decide)).trans dd6), ((upd_no (by decide)).trans dd7), ((upd_no (by decide)).trans dd9)⟩, ⟨p0, p1, p2, p3, p4⟩⟩
          · rintro d ⟨x48, x49, x50, x51, x52, x53, x54, x55, x56⟩ w' hI hd hdp KQ hK
            dsimp only at hI
            obtain ⟨hS, ⟨f0, f1, f2, f3, f4, f8⟩, j, hj, ⟨dd5, dd6, dd7, dd9⟩, ⟨p0, p1, p2, p3, p4⟩⟩ := hI
            obtain rfl := f0 (hdp 0 (by decide +kernel))
            have h9 : d 9 = false := by
              cases h : d 9 with
              | false => rfl
              | true => exact absurd (hS.1 h) (by rw [hd]; decide)
            have c5 : w'.cell? ⟨w.heap.size + 1, 5, none⟩ = some (.slice a2 n2 m2) := BxA.cell (hS.2 h9) 5 _ rfl
            have hd0 := hd
            have HF : Hid _ := And.intro hS (And.intro (And.intro f0 (And.intro f1 (And.intro f2 (And.intro f3 (And.intro f4 f8))))) (And.intro hj (And.intro (And.intro dd5 (And.intro dd6 (And.intro dd7 dd9))) (And.intro p0 (And.intro p1 (And.intro p2 (And.intro p3 p4)))))))
            clear hS f0 f1 f2 f3 f4 f8 hj dd5 dd6 dd7 dd9 p0 p1 p2 p3 p4 hdp hd
            refine Opn.mk ?_
            dsimp only
            go_simp
            obtain ⟨hS, ⟨f0, f1, f2, f3, f4, f8⟩, hj, ⟨dd5, dd6, dd7, dd9⟩, ⟨p0, p1, p2, p3, p4⟩⟩ := HF.out
            exact hK.out (.pointer (some ⟨w.heap.size + 1, 5, none⟩), .slice a2 n2 m2, x50, x51, x52, x53, x54, x55, x56) _ ⟨⟨fun h => by simp [upd], fun h => hS.2 (by rw [upd_no (by decide)] at h; exact h)⟩, ⟨(fun _ => rfl), (fun _ => rfl), (fun h => f2 (upd_ne h (by decide))), (fun h => f3 (upd_ne h (by decide))), (fun h => f4 (upd_ne h (by decide))), (fun h => f8 (upd_ne h (by decide)))⟩, j, hj, ⟨((upd_no (by decide)).trans dd5), ((upd_no (by decide)).trans dd6), ((upd_no (by decide)).trans dd7), ((upd_no (by decide)).trans dd9)⟩, ⟨p0, p1, p2, p3, p4⟩⟩
          · rintro d ⟨x48, x49, x50, x51, x52, x53, x54, x55, x56⟩ w' hI hd hdp KQ hK
            dsimp only at hI
            obtain ⟨hS, ⟨f0, f1, f2, f3, f4, f8⟩, j, hj, ⟨dd5, dd6, dd7, dd9⟩, ⟨p0, p1, p2, p3, p4⟩⟩ := hI
            have hd0 := hd
            have HF : Hid _ := And.intro hS (And.intro (And.intro f0 (And.intro f1 (And.intro f2 (And.intro f3 (And.intro f4 f8))))) (And.intro hj (And.intro (And.intro dd5 (And.intro dd6 (And.intro dd7 dd9))) (And.intro p0 (And.intro p1 (And.intro p2 (And.intro p3 p4)))))))
            clear hS f0 f1 f2 f3 f4 f8 hj dd5 dd6 dd7 dd9 p0 p1 p2 p3 p4 hdp hd
            refine Opn.mk ?_
            dsimp only
            go_simp
            obtain ⟨hS, ⟨f0, f1, f2, f3, f4, f8⟩, hj, ⟨dd5, dd6, dd7, dd9⟩, ⟨p0, p1, p2, p3, p4⟩⟩ := HF.out
            exact hK.out (x48, x49, .pointer (some ⟨K, 0, none⟩), x51, x52, x53, x54, x55, x56) _ ⟨⟨fun h => (upd_no (by decide)).trans (hS.1 (upd_ne h (by decide))), fun h => hS.2 (by rw [upd_no (by decide)] at h; exact h)⟩, ⟨(fun h => f0 (upd_ne h (by decide))), (fun h => f1 (upd_ne h (by decide))), (fun _ => rfl), (fun h => f3 (upd_ne h (by decide))), (fun h => f4 (upd_ne h (by decide))), (fun h => f8 (upd_ne h (by decide)))⟩, j, hj, ⟨((upd_no (by decide)).trans dd5), ((upd_no (by decide)).trans dd6), ((upd_no (by decide)).trans dd7), ((upd_no (by decide)).trans dd9)⟩, ⟨p0, p1, p2, p3, p4⟩⟩
          · rintro d ⟨x48, x49, x50, x51, x52, x53, x54, x55, x56⟩ w' hI hd hdp KQ hK
            dsimp only at hI
            obtain ⟨hS, ⟨f0, f1, f2, f3, f4, f8⟩, j, hj, ⟨dd5, dd6, dd7, dd9⟩, ⟨p0, p1, p2, p3, p4⟩⟩ := hI
            have hd0 := hd
            have HF : Hid _ := And.intro hS (And.intro (And.intro f0 (And.intro f1 (And.intro f2 (And.intro f3 (And.intro f4 f8))))) (And.intro hj (And.intro (And.intro dd5 (And.intro dd6 (And.intro dd7 dd9))) (And.intro p0 (And.intro p1 (And.intro p2 (And.intro p3 p4)))))))
            clear hS f0 f1 f2 f3 f4 f8 hj dd5 dd6 dd7 dd9 p0 p1 p2 p3 p4 hdp hd
            refine Opn.mk ?_
            dsimp only
            go_simp
            obtain ⟨hS, ⟨f0, f1, f2, f3, f4, f8⟩, hj, ⟨dd5, dd6, dd7, dd9⟩, ⟨p0, p1, p2, p3, p4⟩⟩ := HF.out
            exact hK.out (x48, x49, x50, .int .i64 (dp : Int), x52, x53, x54, x55, x56) _ ⟨⟨fun h => (upd_no (by decide)).trans (hS.1 (upd_ne h (by decide))), fun h => hS.2 (by rw [upd_no (by decide)] at h; exact h)⟩, ⟨(fun h => f0 (upd_ne h (by decide))), (fun h => f1 (upd_ne h (by decide))), (fun h => f2 (upd_ne h (by decide))), (fun _ => rfl), (fun h => f4 (upd_ne h (by decide))), (fun h => f8 (upd_ne h (by decide)))⟩, j, hj, ⟨((upd_no (by decide)).trans dd5), ((upd_no (by decide)).trans dd6), ((upd_no (by decide)).trans dd7), ((upd_no (by decide)).trans dd9)⟩, ⟨p0, p1, p2, p3, p4⟩⟩
          · rintro d ⟨x48, x49, x50, x51, x52, x53, x54, x55, x56⟩ w' hI hd hdp KQ hK
            dsimp only at hI
            obtain ⟨hS, ⟨f0, f1, f2, f3, f4, f8⟩, j, hj, ⟨dd5, dd6, dd7, dd9⟩, ⟨p0, p1, p2, p3, p4⟩⟩ := hI
            obtain rfl := f3 (hdp 3 (by decide +kernel))
            have hw4 : wrap64 ((dp : Int) + 1) = (dp : Int) + 1 := by rw [← IntWalk.i64_left, IntKind.wrap_i64]; omega
            have hw5 : IntKind.i64.wrap ((dp : Int) + 1) = (dp : Int) + 1 := by rw [IntKind.wrap_i64]; omega
            have hd0 := hd
            have HF : Hid _ := And.intro hS (And.intro (And.intro f0 (And.intro f1 (And.intro f2 (And.intro f3 (And.intro f4 f8))))) (And.intro hj (And.intro (And.intro dd5 (And.intro dd6 (And.intro dd7 dd9))) (And.intro p0 (And.intro p1 (And.intro p2 (And.intro p3 p4)))))))
            clear hS f0 f1 f2 f3 f4 f8 hj dd5 dd6 dd7 dd9 p0 p1 p2 p3 p4 hdp hd
            refine Opn.mk ?_
            dsimp only
            go_simp
            obtain ⟨hS, ⟨f0, f1, f2, f3, f4, f8⟩, hj, ⟨dd5, dd6, dd7, dd9⟩, ⟨p0, p1, p2, p3, p4⟩⟩ := HF.out
            exact hK.out (x48, x49, x50, .int .i64 (dp : Int), .int .i64 ((dp : Int) + 1), x53, x54, x55, x56) _ ⟨⟨fun h => (upd_no (by decide)).trans (hS.1 (upd_ne h (by decide))), fun h => hS.2 (by rw [upd_no (by decide)] at h; exact h)⟩, ⟨(fun h => f0 (upd_ne h (by decide))), (fun h => f1 (upd_ne h (by decide))), (fun h => f2 (upd_ne h (by decide))), (fun _ => rfl), (fun _ => rfl), (fun h => f8 (upd_ne h (by decide)))⟩, j, hj, ⟨((upd_no (by decide)).trans dd5), ((upd_no (by decide)).trans dd6), ((upd_no (by decide)).trans dd7), ((upd_no (by decide)).trans dd9)⟩, ⟨p0, p1, p2, p3, p4⟩⟩
          · rintro d ⟨x48, x49, x50, x51, x52, x53, x54, x55, x56⟩ w' hI hd hdp KQ hK
            dsimp only at hI
            obtain ⟨hS, ⟨f0, f1, f2, f3, f4, f8⟩, j, hj, ⟨dd5, dd6, dd7, dd9⟩, ⟨p0, p1, p2, p3, p4⟩⟩ := hI
            obtain rfl := f2 (hdp 2 (by decide +kernel))
            obtain rfl := f4 (hdp 4 (by decide +kernel))
            obtain rfl := ph_zero dd5 hd
            have s := p0 rfl
            clear p0 p1 p2 p3 p4 hj
            have G := s
            clear s
            have kk := HI2.out w' _ _ G.ps
            rw [ed] at kk
            have HG : Hid _ := And.intro hS G
            clear hS G
            have HF : Hid _ := And.intro (And.intro f0 (And.intro f1 (And.intro f2 (And.intro f3 (And.intro f4 f8))))) (And.intro dd5 (And.intro dd6 (And.intro dd7 dd9)))
            clear f0 f1 f2 f3 f4 f8 dd5 dd6 dd7 dd9 hdp hd
            refine Opn.mk ?_
            dsimp only
            go_simp
            go_wp2_with (first | (go_at_call 111; with_reducible refine kk.mono ?_; rintro e5 w5 ⟨x, rfl, wx, ⟨tx, ⟨b1, c1, d1, ex1⟩, ⟨b2, c2, d2, ex2⟩⟩, G5⟩))
            obtain ⟨hS, G⟩ := HG.out
            obtain ⟨⟨f0, f1, f2, f3, f4, f8⟩, ⟨dd5, dd6, dd7, dd9⟩⟩ := HF.out
            refine hK.out (x48, x49, .pointer (some ⟨K, 0, none⟩), x51, .int .i64 ((dp : Int) + 1), .agg #[.int .i64 x.k, .int .i64 x.d, .slice b1 c1 d1, .int .i64 x.lo, .int .i64 x.hi, .slice b2 c2 d2], x54, x55, x56) _ ⟨?sg, ⟨(fun h => f0 (upd_ne h (by decide))), (fun h => f1 (upd_ne h (by decide))), (fun _ => rfl), (fun h => f3 (upd_ne h (by decide))), (fun _ => rfl), (fun h => f8 (upd_ne h (by decide)))⟩, 1, by decide, ⟨(by simp [upd]), ((upd_no (by decide)).trans (dd6.trans (by decide))), ((upd_no (by decide)).trans (dd7.trans (by decide))), ((upd_no (by decide)).trans (dd9.trans (by decide)))⟩, ⟨(fun h => absurd h (by decide)), (fun _ => ?new), (fun h => absurd h (by decide)), (fun h => absurd h (by decide)), (fun h => absurd h (by decide))⟩⟩
            case sg => exact ⟨fun h => (upd_no (by decide)).trans (hS.1 (upd_ne h (by decide))), fun h => BxA.grow (hS.2 (by rw [upd_no (by decide)] at h; exact h)) G5.g (by omega)⟩
            case new =>
              have GC := GK.comp hql (fwd_id l) (fwd_fil l k) G G5
              exact ⟨x, b1, c1, d1, b2, c2, d2, rfl, wx.mono G.g.size, tx, ex1, ex2, ⟨GC.ps, GC.g, GC.b⟩⟩
          · rintro d ⟨x48, x49, x50, x51, x52, x53, x54, x55, x56⟩ w' hI hd hdp KQ hK
            dsimp only at hI
            obtain ⟨hS, ⟨f0, f1, f2, f3, f4, f8⟩, j, hj, ⟨dd5, dd6, dd7, dd9⟩, ⟨p0, p1, p2, p3, p4⟩⟩ := hI
            obtain rfl := ph_eq (k := 0) dd6 hd dd5 (hdp 5 (by decide +kernel))
            have s := p1 rfl
            clear p0 p1 p2 p3 p4 hj
            obtain ⟨x, b1, c1, d1, b2, c2, d2, rfl, F1⟩ := s
            have HG : Hid _ := And.intro hS F1
            clear hS F1
            have HF : Hid _ := And.intro (And.intro f0 (And.intro f1 (And.intro f2 (And.intro f3 (And.intro f4 f8))))) (And.intro dd5 (And.intro dd6 (And.intro dd7 dd9)))
            clear f0 f1 f2 f3 f4 f8 dd5 dd6 dd7 dd9 hdp hd
            refine Opn.mk ?_
            dsimp only
            go_simp
            obtain ⟨hS, F1⟩ := HG.out
            obtain ⟨⟨f0, f1, f2, f3, f4, f8⟩, ⟨dd5, dd6, dd7, dd9⟩⟩ := HF.out
            refine hK.out (x48, x49, x50, x51, x52, .agg #[.int .i64 x.k, .int .i64 x.d, .slice b1 c1 d1, .int .i64 x.lo, .int .i64 x.hi, .slice b2 c2 d2], (.slice (some ⟨w'.heap.size, 0, none⟩) 1 1), x55, x56) _ ⟨?sg, ⟨(fun h => f0 (upd_ne h (by decide))), (fun h => f1 (upd_ne h (by decide))), (fun h => f2 (upd_ne h (by decide))), (fun h => f3 (upd_ne h (by decide))), (fun h => f4 (upd_ne h (by decide))), (fun h => f8 (upd_ne h (by decide)))⟩, 2, by decide, ⟨((upd_no (by decide)).trans (dd5.trans (by decide))), (by simp [upd]), ((upd_no (by decide)).trans (dd7.trans (by decide))), ((upd_no (by decide)).trans (dd9.trans (by decide)))⟩, ⟨(fun h => absurd h (by decide)), (fun h => absurd h (by decide)), (fun _ => ?new), (fun h => absurd h (by decide)), (fun h => absurd h (by decide))⟩⟩
            case sg => exact ⟨fun h => (upd_no (by decide)).trans (hS.1 (upd_ne h (by decide))), fun h => by unfold BxA; rw [Below.heap_alloc _ _ _ (BxA.lt (hS.2 (by rw [upd_no (by decide)] at h; exact h)))]; exact (hS.2 (by rw [upd_no (by decide)] at h; exact h))⟩
            case new =>
              exact ⟨x, b1, c1, d1, b2, c2, d2, w', rfl, rfl, F1, rfl⟩
          · rintro d ⟨x48, x49, x50, x51, x52, x53, x54, x55, x56⟩ w' hI hd hdp KQ hK
            dsimp only at hI
            obtain ⟨hS, ⟨f0, f1, f2, f3, f4, f8⟩, j, hj, ⟨dd5, dd6, dd7, dd9⟩, ⟨p0, p1, p2, p3, p4⟩⟩ := hI
            obtain rfl := f1 (hdp 1 (by decide +kernel))
            obtain rfl := ph_eq (k := 1) dd7 hd dd6 (hdp 6 (by decide +kernel))
            have s := p2 rfl
            clear p0 p1 p2 p3 p4 hj
            obtain ⟨x, b1, c1, d1, b2, c2, d2, w2, rfl, rfl, F1, rfl⟩ := s
            have HG : Hid _ := And.intro hS F1
            obtain ⟨wx, tx, ex1, ex2, G1⟩ := F1
            have HOW2 : Hid (w2.ownsRow (w.heap.size + 1 + 1) 32 6 (.slice a2 n2 m2) i (xs.flatMap cl_fil)) := (HP.out.ktt G1.g).own HOW.out (by decide)
            have HCL : Hid (cl_fil x = [.int .i64 x.k, .int .i64 x.d, .slice b1 c1 d1, .int .i64 x.lo, .int .i64 x.hi, .slice b2 c2 d2]) := by apply hide; simp only [cl_fil, ex1, ex2]
            have hsz2 : w.heap.size + 1 + 1 ≤ w2.heap.size := Nat.le_trans (BxA.lt HBX.out.1) G1.g.size
            clear hS wx tx ex1 ex2 G1
            have HF : Hid _ := And.intro (And.intro f0 (And.intro f1 (And.intro f2 (And.intro f3 (And.intro f4 f8))))) (And.intro dd5 (And.intro dd6 (And.intro dd7 dd9)))
            clear f0 f1 f2 f3 f4 f8 dd5 dd6 dd7 dd9 hdp hd
            refine Opn.mk ?_
            dsimp only
            rw [if_pos (show Region.wanted _ _ = true from rfl)]
            refine wp_appF (.tmp 49) (.tmp 54) 30 rfl (w.heap.size + 1 + 1) 32 i0 (.agg #[.int .i64 0, .int .i64 0, .slice none 0 0, .int .i64 0, .int .i64 0, .slice none 0 0]) 6 80 Try.underlying30 hi0 hz0 hz1 hz2 rfl (by decide) (.slice a2 n2 m2) i (xs.flatMap cl_fil) rfl (World.ownsRow.alloc HOW2.out (.cells #[.int .i64 x.k, .int .i64 x.d, .slice b1 c1 d1, .int .i64 x.lo, .int .i64 x.hi, .slice b2 c2 d2] 32)) ⟨w2.heap.size, 0, none⟩ 1 1 (cl_fil x) rfl (by rw [HCL.out]; exact lit_rds' w2 _ 32 _ rfl) (fun u hu => by rw [HCL.out] at hu; simp at hu; rcases hu with rfl | rfl | rfl | rfl | rfl | rfl <;> rfl) (by unfold maxLen; omega) (by omega) (Nat.le_trans hsz2 (by simp)) ?_
            intro v3 w3 o3 g3 fr3
            obtain ⟨a5, n5, m5, rfl⟩ := own_sl o3
            obtain ⟨hS, F1⟩ := HG.out
            obtain ⟨⟨f0, f1, f2, f3, f4, f8⟩, ⟨dd5, dd6, dd7, dd9⟩⟩ := HF.out
            refine hK.out (x48, .slice a2 n2 m2, x50, x51, x52, .agg #[.int .i64 x.k, .int .i64 x.d, .slice b1 c1 d1, .int .i64 x.lo, .int .i64 x.hi, .slice b2 c2 d2], (.slice (some ⟨w2.heap.size, 0, none⟩) 1 1), .slice a5 n5 m5, x56) _ ⟨?sg, ⟨(fun h => f0 (upd_ne h (by decide))), (fun _ => rfl), (fun h => f2 (upd_ne h (by decide))), (fun h => f3 (upd_ne h (by decide))), (fun h => f4 (upd_ne h (by decide))), (fun h => f8 (upd_ne h (by decide)))⟩, 3, by decide, ⟨((upd_no (by decide)).trans (dd5.trans (by decide))), ((upd_no (by decide)).trans (dd6.trans (by decide))), (by simp [upd]), ((upd_no (by decide)).trans (dd9.trans (by decide)))⟩, ⟨(fun h => absurd h (by decide)), (fun h => absurd h (by decide)), (fun h => absurd h (by decide)), (fun _ => ?new), (fun h => absurd h (by decide))⟩⟩
            case sg => exact ⟨fun h => (upd_no (by decide)).trans (hS.1 (upd_ne h (by decide))), fun h => by have hb := (hS.2 (by rw [upd_no (by decide)] at h; exact h)); unfold BxA at hb ⊢; rw [g3.block _ (Array.getElem?_eq_some_iff.1 hb).1 (fun e => by have := (World.ownsRow.lt (World.ownsRow.alloc HOW2.out (.cells #[.int .i64 x.k, .int .i64 x.d, .slice b1 c1 d1, .int .i64 x.lo, .int .i64 x.hi, .slice b2 c2 d2] 32)) _ e.symm).1; omega)]; exact hb⟩
            case new =>
              exact ⟨x, b1, c1, d1, b2, c2, d2, w2, a5, n5, m5, rfl, F1, o3, g3, fr3⟩
          · rintro d ⟨x48, x49, x50, x51, x52, x53, x54, x55, x56⟩ w' hI hd hdp KQ hK
            dsimp only at hI
            obtain ⟨hS, ⟨f0, f1, f2, f3, f4, f8⟩, j, hj, ⟨dd5, dd6, dd7, dd9⟩, ⟨p0, p1, p2, p3, p4⟩⟩ := hI
            have hd0 := hd
            have HF : Hid _ := And.intro hS (And.intro (And.intro f0 (And.intro f1 (And.intro f2 (And.intro f3 (And.intro f4 f8))))) (And.intro hj (And.intro (And.intro dd5 (And.intro dd6 (And.intro dd7 dd9))) (And.intro p0 (And.intro p1 (And.intro p2 (And.intro p3 p4)))))))
            clear hS f0 f1 f2 f3 f4 f8 hj dd5 dd6 dd7 dd9 p0 p1 p2 p3 p4 hdp hd
            refine Opn.mk ?_
            dsimp only
            go_simp
            obtain ⟨hS, ⟨f0, f1, f2, f3, f4, f8⟩, hj, ⟨dd5, dd6, dd7, dd9⟩, ⟨p0, p1, p2, p3, p4⟩⟩ := HF.out
            exact hK.out (x48, x49, x50, x51, x52, x53, x54, x55, .pointer (some ⟨w.heap.size + 1, 5, none⟩)) _ ⟨⟨fun h => (upd_no (by decide)).trans (hS.1 (upd_ne h (by decide))), fun h => hS.2 (by rw [upd_no (by decide)] at h; exact h)⟩, ⟨(fun h => f0 (upd_ne h (by decide))), (fun h => f1 (upd_ne h (by decide))), (fun h => f2 (upd_ne h (by decide))), (fun h => f3 (upd_ne h (by decide))), (fun h => f4 (upd_ne h (by decide))), (fun _ => rfl)⟩, j, hj, ⟨((upd_no (by decide)).trans dd5), ((upd_no (by decide)).trans dd6), ((upd_no (by decide)).trans dd7), ((upd_no (by decide)).trans dd9)⟩, ⟨p0, p1, p2, p3, p4⟩⟩
          · rintro d ⟨x48, x49, x50, x51, x52, x53, x54, x55, x56⟩ w' hI hd hdp KQ hK
            dsimp only at hI
            obtain ⟨hS, ⟨f0, f1, f2, f3, f4, f8⟩, j, hj, ⟨dd5, dd6, dd7, dd9⟩, ⟨p0, p1, p2, p3, p4⟩⟩ := hI
            obtain rfl := f8 (hdp 8 (by decide +kernel))
            obtain rfl := ph_eq (k := 2) dd9 hd dd7 (hdp 7 (by decide +kernel))
            have s := p3 rfl
            clear p0 p1 p2 p3 p4 hj
            have hd1 : d 1 = true := hdp 1 (by decide +kernel)
            obtain ⟨x, b1, c1, d1, b2, c2, d2, w2, a5, n5, m5, rfl, F1, N1⟩ := s
            have hb := hS.2 hd
            have z5 : w'.cell? ⟨w.heap.size + 1, 5, none⟩ = some (.slice a2 n2 m2) := BxA.cell hb 5 _ rfl
            have q5 : w'.frozen? ⟨w.heap.size + 1, 5, none⟩ = false := BxA.free hb 5
            have HG : Hid _ := And.intro hb (And.intro F1 (And.intro N1 hd1))
            clear hS F1 N1 hb hd1
            have HF : Hid _ := And.intro (And.intro f0 (And.intro f1 (And.intro f2 (And.intro f3 (And.intro f4 f8))))) (And.intro dd5 (And.intro dd6 (And.intro dd7 dd9)))
            clear f0 f1 f2 f3 f4 f8 dd5 dd6 dd7 dd9 hdp hd
            refine Opn.mk ?_
            dsimp only
            go_simp
            obtain ⟨hb, F1, N1, hd1⟩ := HG.out
            obtain ⟨⟨f0, f1, f2, f3, f4, f8⟩, ⟨dd5, dd6, dd7, dd9⟩⟩ := HF.out
            refine hK.out (x48, x49, x50, x51, x52, x53, x54, .slice a5 n5 m5, .pointer (some ⟨w.heap.size + 1, 5, none⟩)) _ ⟨?sg, ⟨(fun h => f0 (upd_ne h (by decide))), (fun h => f1 (upd_ne h (by decide))), (fun h => f2 (upd_ne h (by decide))), (fun h => f3 (upd_ne h (by decide))), (fun h => f4 (upd_ne h (by decide))), (fun _ => rfl)⟩, 4, by decide, ⟨((upd_no (by decide)).trans (dd5.trans (by decide))), ((upd_no (by decide)).trans (dd6.trans (by decide))), ((upd_no (by decide)).trans (dd7.trans (by decide))), (by simp [upd])⟩, ⟨(fun h => absurd h (by decide)), (fun h => absurd h (by decide)), (fun h => absurd h (by decide)), (fun h => absurd h (by decide)), (fun _ => ?new)⟩⟩
            case sg => exact ⟨fun _ => (upd_no (by decide)).trans hd1, fun h => by simp [upd] at h⟩
            case new =>
              exact ⟨x, b1, c1, d1, b2, c2, d2, w2, w', a5, n5, m5, F1, N1, hb, rfl⟩
        case he48 =>
          rintro d ⟨x48, x49, x50, x51, x52, x53, x54, x55, x56⟩ w' hall hI
          dsimp only at hI
          obtain ⟨hS, ⟨f0, f1, f2, f3, f4, f8⟩, j, hj, ⟨dd5, dd6, dd7, dd9⟩, ⟨p0, p1, p2, p3, p4⟩⟩ := hI
          obtain rfl := ph_end (k := 3) hj dd9 (hall 9 (by decide))
          have s := p4 rfl
          clear hall hj f0 f1 f2 f3 f4 f8 dd5 dd6 dd7 dd9 p0 p1 p2 p3 p4
          obtain ⟨x, b1, c1, d1, b2, c2, d2, w2, w3, a5, n5, m5, ⟨wx, tx, ex1, ex2, G1⟩, ⟨o3, g3, f3⟩, xb3, rfl⟩ := s
          have HF : Hid _ := And.intro wx (And.intro tx (And.intro ex1 (And.intro ex2 (And.intro G1 (And.intro o3 (And.intro g3 (And.intro f3 xb3)))))))
          clear wx tx ex1 ex2 G1 o3 g3 f3 xb3 hS
          dsimp only
          go_wp2_with fail
          go_roundg (n - (i + 1))
          case measure => omega
          case rel =>
            obtain ⟨wx, tx, ex1, ex2, G1, o3, g3, f3, xb3⟩ := HF.out
            have HOW2 := (HP.out.ktt G1.g).own HOW.out (by decide)
            have hrl : ∀ g, Value.ownBlock (.slice a2 n2 m2) = some g → w.heap.size + 1 + 1 ≤ g ∧ g < wr.heap.size := fun g hg => World.ownsRow.lt HOW.out g hg
            have gA : w2.grownBy w3 (Value.ownBlock (.slice a2 n2 m2)) := grown_trans' (grown_alloc _ _ _) g3
            have hszr := BxA.lt HBX.out.1
            have hsz2 := G1.g.size
            have hK2 : K < w2.heap.size := G1.ps.lt
            have bA : Below (K + 1) w2 w3 := ⟨gA.os, gA.tape, gA.output, gA.size, fun j hj => gA.block j (by omega) (fun e => by have := hrl j e.symm; omega)⟩
            have HS2 : skFil l k (q, 0) = skN (skFil l k) (i + 1) s1 := by rw [skN_succ, ← HQ.out]
            refine ⟨i + 1, xs ++ [x], a5, n5, m5, by go_num, by omega, Nat.le_refl _, by apply hide; simp [HXL.out], ⟨BxA.set xb3 5 _, ?_⟩, ?_, ?_, ?_, ?_, ?_, ?_⟩
            · have h2 := BxA.grow HBX.out.2 G1.g (by omega)
              refine BxA.other ?_ (by omega)
              unfold BxA at h2 ⊢
              rw [gA.block _ (Array.getElem?_eq_some_iff.1 h2).1 (fun e => by have := hrl _ e.symm; omega)]
              exact h2
            · apply hide
              have := (Win.grow (own_win o3) (grown_setCell (w := w3) (R := w.heap.size + 1) (j := 5) (u := .slice a5 n5 m5)) (by omega)).now
              simpa using this
            · intro y hy
              rcases List.mem_append.1 hy with hy | hy
              · refine ⟨(HOK.out y hy).1.step (Nat.le_trans hsz2 (Nat.le_trans gA.size (by simp))) (fun j j1 j2 j3 => ?_) ?_, (HOK.out y hy).2⟩
                · rw [Below.heap_setCell _ _ _ _ (by simp; omega), gA.block j (by omega) (fun e => j3 e.symm)]
                  exact G1.g.block j j2 (fun e => by simp only [Option.some.injEq] at e; omega)
                · rcases f3 with h | ⟨g, h1, h2⟩
                  · exact .inl h
                  · exact .inr ⟨g, h1, Nat.le_trans hsz2 (Nat.le_trans (by simp) h2)⟩
              · simp at hy
                subst hy
                refine ⟨FIt.new wx (by omega) (fun g hg => (hrl g hg).2) (Nat.le_trans gA.size (by simp)) (fun j j1 j2 => ?_) ?_, tx⟩
                · rw [Below.heap_setCell _ _ _ _ (by simp; omega)]
                  exact gA.block j j2 (fun e => by have := (hrl j e.symm).2; omega)
                · rcases f3 with h | ⟨g, h1, h2⟩
                  · exact .inl h
                  · exact .inr ⟨g, h1, Nat.le_trans (by simp) h2⟩
            · exact (BxA.ktt xb3 grown_setCell).own ((own_grow (T := [32]) HOW2 gA (by simp)).own ((HP.out.ktt G1.g).own HSR.out (by decide)) (by decide)) (by decide)
            · apply hide
              rw [← HS2]
              exact (G1.ps.keep bA).keep (grown_above grown_setCell (by omega) (BxA.lt xb3))
            · exact fill_grown (grown_new (grown_trans' (grown_trans' HG.out G1.g) (grown_alloc _ _ _)) (own_mono (World.ownsRow.alloc HOW2 (.cells #[.int .i64 x.k, .int .i64 x.d, .slice b1 c1 d1, .int .i64 x.lo, .int .i64 x.hi, .slice b2 c2 d2] 32)) (by omega)) g3) grown_setCell (by omega)
            · intro h0 h2
              have hle1 := (fwd_n (fwd_fil l k) i).le s1 HP1.out.le
              have hq0 : (skN (skFil l k) i s1).2 = 0 := by rw [← HQ.out]
              have hq1 : (skN (skFil l k) i s1).1 = q := by rw [← HQ.out]
              rw [List.flatMap_append, HBB.out h0 hq0]
              rw [← HS2] at h2 ⊢
              simp only [List.flatMap_cons, List.flatMap_nil, List.append_nil]
              have hb := G1.b rfl h2
              rw [hq1] at hle1 ⊢
              exact (congrArg (rd l s1.1 q ++ ·) hb).trans (rd_app l hle1.1 ((fwd_fil l k).le (q, 0) hle1.2).1).symm
      · have hE2 : ((E : Int) == 0) = false := by simpa using he
        have q0 : wr.cell? ⟨w.heap.size + 1, 0, none⟩ = some (.int .i64 KI) := BxA.cell HBX.out.1 0 _ rfl
        have q1 : wr.cell? ⟨w.heap.size + 1, 1, none⟩ = some (.int .i64 DI) := BxA.cell HBX.out.1 1 _ rfl
        have q2 : wr.cell? ⟨w.heap.size + 1, 2, none⟩ = some (.slice a1 n1 m1) := BxA.cell HBX.out.1 2 _ rfl
        have q3 : wr.cell? ⟨w.heap.size + 1, 3, none⟩ = some (.int .i64 LO) := BxA.cell HBX.out.1 3 _ rfl
        have q4 : wr.cell? ⟨w.heap.size + 1, 4, none⟩ = some (.int .i64 HI) := BxA.cell HBX.out.1 4 _ rfl
        have q5 : wr.cell? ⟨w.heap.size + 1, 5, none⟩ = some (.slice a2 n2 m2) := BxA.cell HBX.out.1 5 _ rfl
        have XB := HBX.out.2
        have z0 : wr.cell? ⟨w.heap.size, 0, none⟩ = some (.int .i64 0) := BxA.cell XB 0 _ rfl
        have f0 : wr.frozen? ⟨w.heap.size, 0, none⟩ = false := BxA.free XB 0
        have z1 : wr.cell? ⟨w.heap.size, 1, none⟩ = some (.int .i64 0) := BxA.cell XB 1 _ rfl
        have f1 : wr.frozen? ⟨w.heap.size, 1, none⟩ = false := BxA.free XB 1
        have z2 : wr.cell? ⟨w.heap.size, 2, none⟩ = some (.slice none 0 0) := BxA.cell XB 2 _ rfl
        have f2 : wr.frozen? ⟨w.heap.size, 2, none⟩ = false := BxA.free XB 2
        have z3 : wr.cell? ⟨w.heap.size, 3, none⟩ = some (.int .i64 0) := BxA.cell XB 3 _ rfl
        have f3 : wr.frozen? ⟨w.heap.size, 3, none⟩ = false := BxA.free XB 3
        have z4 : wr.cell? ⟨w.heap.size, 4, none⟩ = some (.int .i64 0) := BxA.cell XB 4 _ rfl
        have f4 : wr.frozen? ⟨w.heap.size, 4, none⟩ = false := BxA.free XB 4
        have z5 : wr.cell? ⟨w.heap.size, 5, none⟩ = some (.slice none 0 0) := BxA.cell XB 5 _ rfl
        have f5 : wr.frozen? ⟨w.heap.size, 5, none⟩ = false := BxA.free XB 5
        obtain ⟨Y, hY⟩ : ∃ Y, Y = ((((((wr.setCell ⟨w.heap.size, 0, none⟩ (.int .i64 KI)).setCell ⟨w.heap.size, 1, none⟩ (.int .i64 DI)).setCell ⟨w.heap.size, 2, none⟩ (.slice a1 n1 m1)).setCell ⟨w.heap.size, 3, none⟩ (.int .i64 LO)).setCell ⟨w.heap.size, 4, none⟩ (.int .i64 HI)).setCell ⟨w.heap.size, 5, none⟩ (.slice a2 n2 m2)) := ⟨_, rfl⟩
        have gY : wr.grownBy Y (some (w.heap.size)) := by rw [hY]; exact (grown_trans' (grown_trans' (grown_trans' (grown_trans' (grown_trans' grown_setCell grown_setCell) grown_setCell) grown_setCell) grown_setCell) grown_setCell)
        have xY : BxA Y (w.heap.size) 32 #[.int .i64 KI, .int .i64 DI, .slice a1 n1 m1, .int .i64 LO, .int .i64 HI, .slice a2 n2 m2] := by rw [hY]; exact (BxA.set (BxA.set (BxA.set (BxA.set (BxA.set (BxA.set XB 0 (.int .i64 KI)) 1 (.int .i64 DI)) 2 (.slice a1 n1 m1)) 3 (.int .i64 LO)) 4 (.int .i64 HI)) 5 (.slice a2 n2 m2))
        have y0 : Y.cell? ⟨w.heap.size, 0, none⟩ = some (.int .i64 KI) := BxA.cell xY 0 _ rfl
        have y1 : Y.cell? ⟨w.heap.size, 1, none⟩ = some (.int .i64 DI) := BxA.cell xY 1 _ rfl
        have y2 : Y.cell? ⟨w.heap.size, 2, none⟩ = some (.slice a1 n1 m1) := BxA.cell xY 2 _ rfl
        have y3 : Y.cell? ⟨w.heap.size, 3, none⟩ = some (.int .i64 LO) := BxA.cell xY 3 _ rfl
        have y4 : Y.cell? ⟨w.heap.size, 4, none⟩ = some (.int .i64 HI) := BxA.cell xY 4 _ rfl
        have y5 : Y.cell? ⟨w.heap.size, 5, none⟩ = some (.slice a2 n2 m2) := BxA.cell xY 5 _ rfl
        have HY : Hid (Y = _) := hY
        have GY : Hid (wr.grownBy Y (some (w.heap.size))) := gY
        have XY : Hid _ := xY
        clear hY gY xY
        clear XB
        go_wp2_with fail
        rw [← HY.out]
        refine bodyPost_ret (v := .agg #[.int .i64 KI, .int .i64 DI, .slice a1 n1 m1, .int .i64 LO, .int .i64 HI, .slice a2 n2 m2]) (by simp [results, Try.results111, go_sem, y0, y1, y2, y3, y4, y5]) rfl ?_
        have es : skFil l (k + 1) (p, e) = skN (skFil l k) i s1 := by
          rw [show skFil l (k + 1) (p, e) = skN (skFil l k) (cS l s5.1 s5.2 1).1 (cS l s5.1 s5.2 1).2 by rw [HS5.out]; rfl, ← HN.out.1, ← HN.out.2, show n = i + (n - i) by omega, skN_add]; exact skN_stay (fwd_fil l k).stay _ _ (by rw [← HEE.out]; exact he)
        have KYf : KTT [32] wr Y := BxA.ktt HBX.out.2 GY.out
        refine ⟨Fi.Tr.mk KI DI (.slice a1 n1 m1) ts LO HI (.slice a2 n2 m2) xs, rfl, ?_, ⟨⟨HHiK.out, HHiD.out, HHiL.out, HHiH.out, txs_of H5.out.2.2.2.2, fun x hx => (HOK.out x hx).2⟩, ⟨_, _, _, rfl⟩, ⟨_, _, _, rfl⟩⟩, ?_, fill_grown HG.out GY.out (Nat.le_refl _), ?_⟩
        · have w1 : Win (w.heap.size + 1 + 1) wr (fun w => Fi.RdsK 6 w (.slice a2 n2 m2) xs.length (xs.flatMap cl_fil)) := by rw [HXL.out]; exact (own_win HOW.out).imp fun _ r => Fi.RdsK.of_own r
          have w2 := ((own_win HSR.out).both (w1.both (Win.all fun x hx => (HOK.out x hx).1.win))).grow GY.out (by omega)
          exact (w2.imp fun _ r => ⟨own_rds r.1, r.2.1, r.2.2⟩).mono (by omega)
        · rw [es]
          exact HP.out.keep (grown_above GY.out hRw (BxA.lt HBX.out.2))
        · intro h0 h2
          rw [es] at h2 ⊢
          exact absurd h2 (by rw [← HEE.out]; exact he)

    · have hltz : ¬ (i : Int) < (n : Int) := by omega
      obtain rfl : i = n := by omega
      have q0 : wr.cell? ⟨w.heap.size + 1, 0, none⟩ = some (.int .i64 KI) := BxA.cell HBX.out.1 0 _ rfl
      have q1 : wr.cell? ⟨w.heap.size + 1, 1, none⟩ = some (.int .i64 DI) := BxA.cell HBX.out.1 1 _ rfl
      have q2 : wr.cell? ⟨w.heap.size + 1, 2, none⟩ = some (.slice a1 n1 m1) := BxA.cell HBX.out.1 2 _ rfl
      have q3 : wr.cell? ⟨w.heap.size + 1, 3, none⟩ = some (.int .i64 LO) := BxA.cell HBX.out.1 3 _ rfl
      have q4 : wr.cell? ⟨w.heap.size + 1, 4, none⟩ = some (.int .i64 HI) := BxA.cell HBX.out.1 4 _ rfl
      have q5 : wr.cell? ⟨w.heap.size + 1, 5, none⟩ = some (.slice a2 n2 m2) := BxA.cell HBX.out.1 5 _ rfl
      have XB := HBX.out.2
      have z0 : wr.cell? ⟨w.heap.size, 0, none⟩ = some (.int .i64 0) := BxA.cell XB 0 _ rfl
      have f0 : wr.frozen? ⟨w.heap.size, 0, none⟩ = false := BxA.free XB 0
      have z1 : wr.cell? ⟨w.heap.size, 1, none⟩ = some (.int .i64 0) := BxA.cell XB 1 _ rfl
      have f1 : wr.frozen? ⟨w.heap.size, 1, none⟩ = false := BxA.free XB 1
      have z2 : wr.cell? ⟨w.heap.size, 2, none⟩ = some (.slice none 0 0) := BxA.cell XB 2 _ rfl
      have f2 : wr.frozen? ⟨w.heap.size, 2, none⟩ = false := BxA.free XB 2
      have z3 : wr.cell? ⟨w.heap.size, 3, none⟩ = some (.int .i64 0) := BxA.cell XB 3 _ rfl
      have f3 : wr.frozen? ⟨w.heap.size, 3, none⟩ = false := BxA.free XB 3
      have z4 : wr.cell? ⟨w.heap.size, 4, none⟩ = some (.int .i64 0) := BxA.cell XB 4 _ rfl
      have f4 : wr.frozen? ⟨w.heap.size, 4, none⟩ = false := BxA.free XB 4
      have z5 : wr.cell? ⟨w.heap.size, 5, none⟩ = some (.slice none 0 0) := BxA.cell XB 5 _ rfl
      have f5 : wr.frozen? ⟨w.heap.size, 5, none⟩ = false := BxA.free XB 5
      obtain ⟨Y, hY⟩ : ∃ Y, Y = ((((((wr.setCell ⟨w.heap.size, 0, none⟩ (.int .i64 KI)).setCell ⟨w.heap.size, 1, none⟩ (.int .i64 DI)).setCell ⟨w.heap.size, 2, none⟩ (.slice a1 n1 m1)).setCell ⟨w.heap.size, 3, none⟩ (.int .i64 LO)).setCell ⟨w.heap.size, 4, none⟩ (.int .i64 HI)).setCell ⟨w.heap.size, 5, none⟩ (.slice a2 n2 m2)) := ⟨_, rfl⟩
      have gY : wr.grownBy Y (some (w.heap.size)) := by rw [hY]; exact (grown_trans' (grown_trans' (grown_trans' (grown_trans' (grown_trans' grown_setCell grown_setCell) grown_setCell) grown_setCell) grown_setCell) grown_setCell)
      have xY : BxA Y (w.heap.size) 32 #[.int .i64 KI, .int .i64 DI, .slice a1 n1 m1, .int .i64 LO, .int .i64 HI, .slice a2 n2 m2] := by rw [hY]; exact (BxA.set (BxA.set (BxA.set (BxA.set (BxA.set (BxA.set XB 0 (.int .i64 KI)) 1 (.int .i64 DI)) 2 (.slice a1 n1 m1)) 3 (.int .i64 LO)) 4 (.int .i64 HI)) 5 (.slice a2 n2 m2))
      have y0 : Y.cell? ⟨w.heap.size, 0, none⟩ = some (.int .i64 KI) := BxA.cell xY 0 _ rfl
      have y1 : Y.cell? ⟨w.heap.size, 1, none⟩ = some (.int .i64 DI) := BxA.cell xY 1 _ rfl
      have y2 : Y.cell? ⟨w.heap.size, 2, none⟩ = some (.slice a1 n1 m1) := BxA.cell xY 2 _ rfl
      have y3 : Y.cell? ⟨w.heap.size, 3, none⟩ = some (.int .i64 LO) := BxA.cell xY 3 _ rfl
      have y4 : Y.cell? ⟨w.heap.size, 4, none⟩ = some (.int .i64 HI) := BxA.cell xY 4 _ rfl
      have y5 : Y.cell? ⟨w.heap.size, 5, none⟩ = some (.slice a2 n2 m2) := BxA.cell xY 5 _ rfl
      have HY : Hid (Y = _) := hY
      have GY : Hid (wr.grownBy Y (some (w.heap.size))) := gY
      have XY : Hid _ := xY
      clear hY gY xY
      clear XB
      go_wp2_with fail
      rw [← HY.out]
      refine bodyPost_ret (v := .agg #[.int .i64 KI, .int .i64 DI, .slice a1 n1 m1, .int .i64 LO, .int .i64 HI, .slice a2 n2 m2]) (by simp [results, Try.results111, go_sem, y0, y1, y2, y3, y4, y5]) rfl ?_
      have es : skFil l (k + 1) (p, e) = skN (skFil l k) i s1 := by
        rw [show skFil l (k + 1) (p, e) = skN (skFil l k) (cS l s5.1 s5.2 1).1 (cS l s5.1 s5.2 1).2 by rw [HS5.out]; rfl, ← HN.out.1, ← HN.out.2]
      have KYf : KTT [32] wr Y := BxA.ktt HBX.out.2 GY.out
      refine ⟨Fi.Tr.mk KI DI (.slice a1 n1 m1) ts LO HI (.slice a2 n2 m2) xs, rfl, ?_, ⟨⟨HHiK.out, HHiD.out, HHiL.out, HHiH.out, txs_of H5.out.2.2.2.2, fun x hx => (HOK.out x hx).2⟩, ⟨_, _, _, rfl⟩, ⟨_, _, _, rfl⟩⟩, ?_, fill_grown HG.out GY.out (Nat.le_refl _), ?_⟩
      · have w1 : Win (w.heap.size + 1 + 1) wr (fun w => Fi.RdsK 6 w (.slice a2 n2 m2) xs.length (xs.flatMap cl_fil)) := by rw [HXL.out]; exact (own_win HOW.out).imp fun _ r => Fi.RdsK.of_own r
        have w2 := ((own_win HSR.out).both (w1.both (Win.all fun x hx => (HOK.out x hx).1.win))).grow GY.out (by omega)
        exact (w2.imp fun _ r => ⟨own_rds r.1, r.2.1, r.2.2⟩).mono (by omega)
      · rw [es]
        exact HP.out.keep (grown_above GY.out hRw (BxA.lt HBX.out.2))
      · intro h0 h2
        rw [es] at h2 ⊢
        have hs0 : s1.2 = 0 := Classical.byContradiction fun hn0 => by
          rw [skN_stay (fwd_fil l k).stay _ _ hn0] at h2
          exact hn0 h2
        have hc0 : (skC l s5).2 = 0 := by show (cS l s5.1 s5.2 1).2.2 = 0; rw [← HN.out.2]; exact hs0
        have hs5 : s5.2 = 0 := Classical.byContradiction fun hn0 => by
          have := (fwd_c l).stay s5 hn0
          rw [this] at hc0
          exact hn0 hc0
        have hcb := c_bytes l s5 hs5 hc0
        have hA := H5.out.1.b h0 (by have := hs5; rw [HS5.out] at this; exact this)
        have hl5 : s5.1 ≤ l.length := H5p.out.le
        have hle0 := (fwd_c l).le s5 hl5
        have hle1 := (fwd_n (fwd_fil l k) i).le s1 HP1.out.le
        have hle5 : p ≤ s5.1 := by rw [HS5.out]; exact (FW5.le (p, e) hple).1
        have e1 : (skC l s5).1 = s1.1 := by show (cS l s5.1 s5.2 1).2.1 = _; rw [← HN.out.2]
        have e4 : Num.uv i = rd l s5.1 s1.1 := by
          have := hcb.1
          rw [e1] at this
          rw [HN.out.1]
          exact this
        have hA' : ((((ei KI ++ ei DI) ++ r_txt ts) ++ ei LO) ++ ei HI) = rd l p s5.1 := by rw [HS5.out]; exact hA
        rw [r_fil_eq]
        show ei KI ++ (ei DI ++ (r_txt ts ++ (ei LO ++ (ei HI ++ (Num.uv xs.length ++ xs.flatMap r_fil))))) = rd l p (skN (skFil l k) i s1).1
        rw [HXL.out, HBB.out hs0 h2, e4]
        rw [e1] at hle0
        rw [rd_app l hle5 (Nat.le_trans hle0.1 hle1.1), ← hA', rd_app l hle0.1 hle1.1]
        simp only [List.append_assoc]
theorem kfil (B K : Nat) (v : Value) (l : Bs) (hlb : l.length ≤ 1048576) : ∀ k d, d + k = 21 → FilK B K v l k d
  | 0, d, h => kfil_deep B K v l d h
  | k + 1, d, h => kfil_step B K v l k d (by omega) hlb (kfil B K v l hlb k (d + 1) (by omega))
end Go.Proofs.Ytpdlioidiobbbaa
