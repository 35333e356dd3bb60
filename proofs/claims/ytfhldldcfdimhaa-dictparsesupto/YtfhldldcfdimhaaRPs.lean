/- The contract of the reference's Parse. -/
import Derived.Test.YtfhldldcfdimhaaRgn
import Derived.Test.YtfhldldcfdimhaaRefB
import Derived.Deep.LoopGhost
import Derived.Deep.DeepCutAuto
import Derived.Deep.CutBlock
import Derived.BigQuiet
import Derived.Deep.RegionWith
namespace Go.Proofs.Ytfhldldcfdimhaa
open Go.RowKit Go.Shelf Go.Sort

theorem Reads.sl {w : World} {v : Value} {l : List UInt8} (h : Reads w v l) : ∃ a n c, v = .slice a n c := by obtain ⟨ao, cap, rfl, _⟩ := h; exact ⟨_, _, _, rfl⟩
theorem rad_len (was : Str) (k : Nat) (s : Str) : (rad was k s).length ≤ 64 := by
  unfold rad; split
  · simp
  · omega
theorem out_len (l : List UInt8) : ∀ k, ∀ t ∈ (rrn l (rini l) k).2.2.1, t.length ≤ 64
  | 0, t, h => by cases h
  | k + 1, t, h => by
    have e2 : (rrn l (rini l) (k + 1)).2.2.1 = (rrn l (rini l) k).2.2.1 ++ [rad _ _ _] := rfl
    rw [e2] at h
    rcases List.mem_append.1 h with h | h
    · exact out_len l k t h
    · simp only [List.mem_singleton] at h
      subst h; exact rad_len _ _ _
theorem prv_snoc (ts : List Str) (t : Str) : prv (ts ++ [t]) (ts.length + 1) = t := by simp [prv, List.getD]
theorem KS.grown {w w' : World} {K : Nat} {v : Value} {p e : Nat} (h : KS w K v p e) {r : Option Nat} (hg : w.grownBy w' r) (hr : r ≠ some K) : KS w' K v p e := by
  have hlt : K < w.heap.size := by
    unfold KS at h
    rcases Nat.lt_or_ge K w.heap.size with h1 | h1
    · exact h1
    · rw [Array.getElem?_eq_none h1] at h; cases h
  unfold KS at *
  rw [hg.block K hlt (fun e => hr e.symm)]
  exact h
/-- What the reference has behind so many rounds. -/
structure RS (w wr : World) (v : Value) (l : List UInt8) (x : Nat × Nat × List Str × Bool) (v6 : Value) (i : Nat) : Prop where
  ks : KS wr w.heap.size v x.1 x.2.1
  ow : wr.ownsRow (w.heap.size + 1) 9 1 v6 i (sv x.2.2.1)
  ln : x.2.2.1.length = i
  bl : Below w.heap.size w wr
  sz : w.heap.size + 1 ≤ wr.heap.size
  pl : x.1 ≤ l.length

theorem RS.sl6 {w wr : World} {v v6 : Value} {l : List UInt8} {x : Nat × Nat × List Str × Bool} {i : Nat} (h : RS w wr v l x v6 i) : ∃ a n c, v6 = .slice a n c := by
  rcases h.ow.2 with ⟨rfl, _⟩ | ⟨g, cap, cur, rfl, _⟩
  · exact ⟨_, _, _, rfl⟩
  · exact ⟨_, _, _, rfl⟩
theorem RS.next {w w5 w7 : World} {v v6 v7 : Value} {l : List UInt8} {i p5 e5 : Nat} {O : List Str} {s2 : Str} {bb : Bool} (ow5 : Own w5 (w.heap.size + 1) 9 v6 (sv O)) (ks5 : KS w5 w.heap.size v p5 e5) (b5 : Below w.heap.size w w5) (hs5 : w.heap.size + 1 ≤ w5.heap.size) (hp5 : p5 ≤ l.length) (hO5 : O.length = i)
    (o7 : Own w7 (w.heap.size + 1) 9 v7 (sv (O ++ [s2]))) (g7 : (w5.alloc (.cells #[.string ⟨s2.toArray⟩] 9)).grownBy w7 v6.ownBlock) : RS w w7 v l (p5, e5, O ++ [s2], bb) v7 (i + 1) := by
  have ba : Below w5.heap.size w5 (w5.alloc (.cells #[.string ⟨s2.toArray⟩] 9)) := (Below.refl _ _).alloc (Nat.le_refl _) _
  have ka : KS (w5.alloc (.cells #[.string ⟨s2.toArray⟩] 9)) w.heap.size v p5 e5 := by
    unfold KS at ks5 ⊢
    rw [ba.block _ (by omega)]; exact ks5
  have hne : v6.ownBlock ≠ some w.heap.size := fun e => by have := (World.ownsRow.lt ow5 _ e).1; omega
  have hl : (sv (O ++ [s2])).length = i + 1 := by rw [sv_length]; simp [hO5]
  refine ⟨ka.grown g7 hne, ?_, by simp [hO5], ?_, ?_, hp5⟩
  · unfold Own at o7; rw [hl] at o7; exact o7
  · exact grown_belows (base := w.heap.size) (b5.trans (ba.mono (by omega))) (by have := ba.size; omega) (ow5.mono (by omega) |>.below ba) g7
  · have h1 := ba.size; have h2 := g7.size; omega
theorem tS_le (l : List UInt8) (p e : Nat) (hp : p ≤ l.length) : (tS l p e).2.1 ≤ l.length := by
  obtain ⟨h1, h2, h3⟩ := cS_facts l p e 1 hp
  unfold tS
  split
  · exact h1
  · rename_i hh
    exact h3 (by omega)

set_option maxRecDepth 100000 in
set_option maxHeartbeats 8000000 in
theorem refparse_any (w : World) (v : Value) (l : List UInt8) (h : Reads w v l) (hlb : l.length ≤ 1048576) :
    Calls Try.prog 14 #[v] w fun e w' =>
      (en l (fnl l).1 (fnl l).2.1 ≠ 0 ∧ e = .returned (.tuple #[.slice none 0 0, .int .i64 (en l (fnl l).1 (fnl l).2.1 : Nat)]) ∨
       en l (fnl l).1 (fnl l).2.1 = 0 ∧ (fnl l).2.2 = none ∧ e = .returned (.tuple #[.slice none 0 0, .int .i64 12]) ∨
       en l (fnl l).1 (fnl l).2.1 = 0 ∧ ∃ ts vl, (fnl l).2.2 = some ts ∧ e = .returned (.tuple #[vl, .int .i64 0]) ∧ Rds w' vl (sv ts)) ∧ Below w.heap.size w w' := by
  obtain ⟨i0, hi0, hy0, hy1, hy2⟩ := info_parts Try.info_str
  have hrd : ∀ w', Below w.heap.size w w' → Reads w' v l := fun w' b => h.below b
  obtain ⟨ao, n, cap, rfl⟩ : ∃ ao n cap, v = .slice ao n cap := by obtain ⟨ao, cap, rfl, _⟩ := h; exact ⟨_, _, _, rfl⟩
  obtain ⟨W, hW⟩ : ∃ W, W = w.alloc (.cells #[.slice ao n cap, .int .i64 0, .int .i64 0] 70) := ⟨_, rfl⟩
  have bW : Below w.heap.size w W := by rw [hW]; exact (Below.refl _ _).alloc (Nat.le_refl _) _
  have zW : W.heap.size = w.heap.size + 1 := by rw [hW]; simp
  have kS0 : KS W w.heap.size (.slice ao n cap) 0 0 := by rw [hW]; exact heap_alloc_new w _
  have gB : ∀ {w1 w2 : World}, Below w.heap.size w w1 → w1.grownBy w2 (some w.heap.size) → Below w.heap.size w w2 := fun b g => b.grown g b.size (fun j hj => by cases hj; exact Nat.le_refl _)
  have kC := count_k W w.heap.size _ l 0 0 2 kS0 (fun w' g => hrd w' (gB bW g)) (Nat.zero_le _) (by omega) (by omega) (by omega)
  have hcf := cS_facts l 0 0 2 (Nat.zero_le _)
  obtain ⟨c, hc⟩ : ∃ c, c = (cS l 0 0 2).1 := ⟨_, rfl⟩
  have hcl : c ≤ l.length := by
    by_cases he : (cS l 0 0 2).2.2 = 0
    · have := hcf.2.2 he; omega
    · have := hcf.2.1 he; omega
  obtain ⟨X, hX⟩ : ∃ X, X = rrn l (rini l) := ⟨_, rfl⟩
  have hXs : ∀ k, X (k + 1) = rstp l (X k) := fun k => by rw [hX]; rfl
  have hX0 : X 0 = ((cS l 0 0 2).2.1, (cS l 0 0 2).2.2, [], true) := by rw [hX]; rfl
  have hen : ∀ i, i ≤ c → (i = c ∨ (X i).2.1 ≠ 0) → en l (X i).1 (X i).2.1 = en l (fnl l).1 (fnl l).2.1 := fun i h1 h2 => by
    rw [hX, hc] at *; exact en_same l i h1 h2
  have hbo : en l (fnl l).1 (fnl l).2.1 = 0 → ∀ ts, (fnl l).2.2 = some ts ↔ ((X c).2.2 = (ts, true) ∧ ts.length ≤ 4096 ∧ byts ts = l) := fun h1 ts => by
    rw [hX, hc]; exact both l h1 ts
  have hol : ∀ i, ∀ t ∈ (X i).2.2.1, t.length ≤ 64 := fun i => by rw [hX]; exact out_len l i
  have hcp := hcf.1
  rw [← hc] at kC
  have HXS : Aside (∀ k, X (k + 1) = rstp l (X k)) := hXs
  have HX0 : Hid (X 0 = ((cS l 0 0 2).2.1, (cS l 0 0 2).2.2, [], true)) := hX0
  have HEN : Aside (∀ i, i ≤ c → (i = c ∨ (X i).2.1 ≠ 0) → en l (X i).1 (X i).2.1 = en l (fnl l).1 (fnl l).2.1) := hen
  have HBO : Aside (en l (fnl l).1 (fnl l).2.1 = 0 → ∀ ts, (fnl l).2.2 = some ts ↔ ((X c).2.2 = (ts, true) ∧ ts.length ≤ 4096 ∧ byts ts = l)) := hbo
  have HOL : Aside (∀ i, ∀ t ∈ (X i).2.2.1, t.length ≤ 64) := hol
  have HRD : Aside (∀ w', Below w.heap.size w w' → Reads w' (.slice ao n cap) l) := hrd
  have HGB : Aside (∀ (w1 w2 : World), Below w.heap.size w w1 → w1.grownBy w2 (some w.heap.size) → Below w.heap.size w w2) := fun _ _ b g => gB b g
  have HCP : Hid _ := hcp
  have HBW : Hid (Below w.heap.size w W) := bW
  have HZW : Hid (W.heap.size = w.heap.size + 1) := zW
  have HW : Hid _ := hW
  rw [hW] at kC
  clear h hcf hc hX hXs hX0 hen hbo hol hrd gB hcp bW zW kS0 hW
  go_enter Try.func14, Try.ntmps14
  go_wp2_with fail
  refine kC.mono ?_
  rintro e w2 ⟨rfl, ks2, g2⟩
  rw [← HW.out] at g2
  have b2 := HGB.out _ _ HBW.out g2
  have HS : Hid (RS w w2 (.slice ao n cap) l (X 0) (.slice none 0 0) 0) := by
    have e0 := HX0.out
    refine ⟨by rw [e0]; exact ks2, by rw [e0]; exact World.ownsRow_nil _ _ _ _, by rw [e0]; rfl, b2, by have := g2.size; have := HZW.out; omega, by rw [e0]; exact HCP.out⟩
  have hb0 : (X 0).2.2.2 = true ∧ prv (X 0).2.2.1 0 = [] := by rw [HX0.out]; exact ⟨rfl, rfl⟩
  have HB0 : Hid _ := hb0
  have hc63 : (c : Int) ≤ 1048576 := by omega
  clear kC ks2 g2 b2 hb0
  go_wp2_with fail
  go_loopg [6, 7, 8, 9] c (fun kx v6 v7 v8 v9 wr => ∃ (i : Nat), v9 = .int .i64 (i : Int) ∧ v7 = .bool (X i).2.2.2 ∧ v8 = .string ⟨(prv (X i).2.2.1 i).toArray⟩ ∧ i ≤ c ∧ c - i ≤ kx ∧ Hid (RS w wr (.slice ao n cap) l (X i) v6 i))
  case atStart => exact ⟨0, rfl, by rw [HB0.out.1], by rw [HB0.out.2], by omega, by omega, HS⟩
  case round =>
    clear HS
    obtain ⟨i, rfl, rfl, rfl, hic, hkx, HI⟩ := hrel
    obtain ⟨k0, k1, k2, kf⟩ := HI.out.ks.cells
    by_cases hlt : i < c
    · have hltz : (i : Int) < (c : Int) := by omega
      by_cases he : (X i).2.1 = 0
      · have hez : (((X i).2.1 : Nat) : Int) = 0 := by omega
        rw [hez] at k2
        have kU := refrd_any wr w.heap.size _ l (X i).1 (X i).2.1 HI.out.ks (HRD.out wr HI.out.bl) HI.out.pl
        have hst := HXS.out i
        have hpl := HI.out.pl
        have hul := Rd.uS_lt l (X i).1 (X i).2.1
        have hup := Rd.uS_le l (X i).1 (X i).2.1 hpl
        have hln := HI.out.ln
        have hal : (prv (X i).2.2.1 i).length ≤ 64 := prv_few (HOL.out i) i
        unfold rstp at hst
        rw [hln] at hst
        simp only at hst
        generalize hU : Rd.uS l (X i).1 (X i).2.1 = U at *
        obtain ⟨u0, u1, u2⟩ := U
        simp only at hst kU hul hup
        clear hez hU
        go_wp2_with fail
        refine kU.mono ?_
        rintro e w4 ⟨rfl, ks4, g4⟩
        have b4 := HGB.out _ _ HI.out.bl g4
        have kT := text_k w4 w.heap.size _ l u1 u2 ks4 (fun w' g => HRD.out w' (HGB.out _ _ b4 g)) hup (by omega)
        have htl := tS_length l u1 u2
        have htp := tS_le l u1 u2 hup
        generalize tS l u1 u2 = TT at *
        obtain ⟨tx, p5, e5⟩ := TT
        simp only at hst kT htl htp
        have HG4 : Hid (wr.grownBy w4 (some w.heap.size)) := g4
        clear kU ks4 g4 k0 k1 k2 kf
        go_wp2_with fail
        refine kT.mono ?_
        rintro e w5 ⟨rfl, ks5, g5⟩
        have g45 := grown_trans HG4.out g5
        have b5 := HGB.out _ _ HI.out.bl g45
        obtain ⟨O, hO⟩ : ∃ O, O = (X i).2.2.1 := ⟨_, rfl⟩
        obtain ⟨B, hB⟩ : ∃ B, B = (X i).2.2.2 := ⟨_, rfl⟩
        rw [← hO] at hst hal ⊢
        rw [← hB] at hst ⊢
        have hs5 : w.heap.size + 1 ≤ w5.heap.size := Nat.le_trans HI.out.sz g45.size
        have HM : Hid (Own w5 (w.heap.size + 1) 9 u6 (sv O) ∧ KS w5 w.heap.size (.slice ao n cap) p5 e5 ∧ Below w.heap.size w w5 ∧ w.heap.size + 1 ≤ w5.heap.size ∧ p5 ≤ l.length ∧ O.length = i) := by
          refine ⟨?_, ks5, b5, hs5, htp, by rw [hO]; exact hln⟩
          rw [hO]
          have hsl : (sv (X i).2.2.1).length = i := by rw [sv_length]; exact hln
          have ow1 : Own wr (w.heap.size + 1) 9 u6 (sv (X i).2.2.1) := by unfold Own; rw [hsl]; exact HI.out.ow
          exact ow1.other g45 (fun e => by have := (World.ownsRow.lt ow1 _ e).1; omega)
        generalize hA : prv O i = a at *
        have hsa := str_size a
        have hst5 := str_size tx
        have HST : Hid (X (i + 1) = (p5, e5, O ++ [rad a u0 tx], B && radB a i u0 tx)) := hst
        clear kT ks5 g5 g45 b5 hs5 HG4 hst hO hB hln htp hup hpl b4
        obtain ⟨k1, hk1⟩ : ∃ k1, k1 = (if a.length < u0 then 0 else u0) := ⟨_, rfl⟩
        have hk1l : k1 ≤ a.length := by rw [hk1]; split <;> omega
        have hcat := str_cat a tx k1
        have hr1 : rad1 a u0 tx = a.take k1 ++ tx := by unfold rad1; rw [← hk1]
        have hrl : (rad1 a u0 tx).length = k1 + tx.length := by rw [hr1]; simp; omega
        rw [← hr1] at hcat
        have hss := str_size (rad1 a u0 tx)
        have hrd : rad a u0 tx = if 64 < (rad1 a u0 tx).length then [] else rad1 a u0 tx := rfl
        have hrb : radB a i u0 tx = (decide (u0 ≤ a.length) && (decide ((rad1 a u0 tx).length ≤ 64) && decide (0 < i → a < rad a u0 tx))) := rfl
        generalize rad1 a u0 tx = s1 at *
        generalize hs2 : rad a u0 tx = s2 at *
        have hs2l : s2.length ≤ 64 := by rw [← hs2]; exact rad_len _ _ _
        have HOA0 : Hid (Own (w5.alloc (.cells #[.string ⟨s2.toArray⟩] 9)) (w.heap.size + 1) 9 u6 (sv O)) := Own.below HM.out.1 ((Below.refl _ _).alloc (Nat.le_refl _) _)
        have HSR0 : Aside (∀ ad, some (⟨w5.heap.size, 0, none⟩ : Addr) = some ad → ∀ j u, (sv [s2])[j]? = some u → (w5.alloc (.cells #[.string ⟨s2.toArray⟩] 9)).cell? (ad.add j) = some u) := one_src w5 s2
        have hbn : (O.length + 1) * 16 ≤ 140737488355328 := by have := HM.out.2.2.2.2.2; omega
        have hws : w.heap.size + 1 ≤ (w5.alloc (.cells #[.string ⟨s2.toArray⟩] 9)).heap.size := by have := HM.out.2.2.2.1; simp; omega
        obtain ⟨a6, n6, c6, hv6⟩ : ∃ a n c, u6 = .slice a n c := by obtain ⟨ao, cap, hv, _⟩ := HM.out.1.rds; exact ⟨_, _, _, hv⟩
        subst hv6
        by_cases h1 : a.length < u0
        · have h1z : (a.length : Int) < (u0 : Int) := by omega
          have hk : k1 = 0 := by rw [hk1, if_pos h1]
          have e1 : s1 = tx := by rw [hr1, hk]; simp
          subst e1
          clear hk hk1 hr1 hcat hrl hk1l
          by_cases h2 : 64 < s1.length
          · have h2z : (64 : Int) < (s1.length : Int) := by omega
            by_cases h3 : i = 0
            · have h3z : ¬ (0 : Int) < (i : Int) := by omega
              have hbb : (B && radB a i u0 s1) = false := by rw [hrb]; rw [decide_eq_false (show ¬ u0 ≤ a.length by omega), Bool.false_and, Bool.and_false]
              have e2 : s2 = [] := by rw [hrd, if_pos h2]
              have HOA : Hid _ := HOA0.out
              have HSR : Aside _ := HSR0.out
              subst e2
              try simp only [List.toArray_nil] at HOA HSR hws
              clear hrb HOA0 HSR0
              clear hrd hs2 h1 h2
              go_wp2_with (first
                | (at_builtin; refine wp_apps rfl (.tmp 55) (.tmp 57) rfl (w.heap.size + 1) _ O [[]] rfl HOA.out (some ⟨w5.heap.size, 0, none⟩) 1 1 rfl rfl (fun h => by cases h) HSR.out hbn hws ?_; intro v7 w7 o7 g7))
              go_roundg (c - (i + 1))
              case measure => omega
              case rel =>
                obtain ⟨ow5, ks5, b5, hs5, hp5, hO5⟩ := HM.out
                exact ⟨i + 1, by go_num, by rw [HST.out]; simp only []; rw [hbb], by rw [HST.out, ← hO5]; simp only []; rw [prv_snoc], by omega, Nat.le_refl _, by rw [HST.out]; exact RS.next ow5 ks5 b5 hs5 hp5 hO5 o7 g7⟩
            · have h4 : ¬ a < s2 := by rw [show s2 = [] by rw [hrd, if_pos h2]]; exact List.not_lt_nil _
              by_cases h5 : s2 = a
              · have h3z : (0 : Int) < (i : Int) := by omega
                have hxx : Op.bytesLess s2 a = false := by rw [bytesLess_eq, h5]; exact decide_eq_false (lt_irr _)
                have hyy : (s2 == a) = true := beq_iff_eq.2 h5
                have hbb : (B && radB a i u0 s1) = false := by rw [hrb]; rw [decide_eq_false (show ¬ u0 ≤ a.length by omega), Bool.false_and, Bool.and_false]
                have e2 : s2 = [] := by rw [hrd, if_pos h2]
                have HOA : Hid _ := HOA0.out
                have HSR : Aside _ := HSR0.out
                subst e2
                try simp only [List.toArray_nil] at HOA HSR hws
                clear hrb HOA0 HSR0 h4 h5
                clear hrd hs2 h1 h2
                go_wp2_with (first
                  | (at_builtin; refine wp_apps rfl (.tmp 55) (.tmp 57) rfl (w.heap.size + 1) _ O [[]] rfl HOA.out (some ⟨w5.heap.size, 0, none⟩) 1 1 rfl rfl (fun h => by cases h) HSR.out hbn hws ?_; intro v7 w7 o7 g7))
                go_roundg (c - (i + 1))
                case measure => omega
                case rel =>
                  obtain ⟨ow5, ks5, b5, hs5, hp5, hO5⟩ := HM.out
                  exact ⟨i + 1, by go_num, by rw [HST.out]; simp only []; rw [hbb], by rw [HST.out, ← hO5]; simp only []; rw [prv_snoc], by omega, Nat.le_refl _, by rw [HST.out]; exact RS.next ow5 ks5 b5 hs5 hp5 hO5 o7 g7⟩
              · have h3z : (0 : Int) < (i : Int) := by omega
                have hxx : Op.bytesLess s2 a = true := by rw [bytesLess_eq]; exact decide_eq_true (lt_of_le_ne h4 h5)
                have hyy : (s2 == a) = false := beq_eq_false_iff_ne.2 h5
                have hbb : (B && radB a i u0 s1) = false := by rw [hrb]; rw [decide_eq_false (show ¬ u0 ≤ a.length by omega), Bool.false_and, Bool.and_false]
                have e2 : s2 = [] := by rw [hrd, if_pos h2]
                have HOA : Hid _ := HOA0.out
                have HSR : Aside _ := HSR0.out
                subst e2
                try simp only [List.toArray_nil] at HOA HSR hws
                clear hrb HOA0 HSR0 h4 h5
                clear hrd hs2 h1 h2
                go_wp2_with (first
                  | (at_builtin; refine wp_apps rfl (.tmp 55) (.tmp 57) rfl (w.heap.size + 1) _ O [[]] rfl HOA.out (some ⟨w5.heap.size, 0, none⟩) 1 1 rfl rfl (fun h => by cases h) HSR.out hbn hws ?_; intro v7 w7 o7 g7))
                go_roundg (c - (i + 1))
                case measure => omega
                case rel =>
                  obtain ⟨ow5, ks5, b5, hs5, hp5, hO5⟩ := HM.out
                  exact ⟨i + 1, by go_num, by rw [HST.out]; simp only []; rw [hbb], by rw [HST.out, ← hO5]; simp only []; rw [prv_snoc], by omega, Nat.le_refl _, by rw [HST.out]; exact RS.next ow5 ks5 b5 hs5 hp5 hO5 o7 g7⟩
          · have h2z : ¬ (64 : Int) < (s1.length : Int) := by omega
            by_cases h3 : i = 0
            · have h3z : ¬ (0 : Int) < (i : Int) := by omega
              have hbb : (B && radB a i u0 s1) = false := by rw [hrb]; rw [decide_eq_false (show ¬ u0 ≤ a.length by omega), Bool.false_and, Bool.and_false]
              have e2 : s1 = s2 := by rw [hrd, if_neg h2]
              subst e2
              have HOA : Hid _ := HOA0.out
              have HSR : Aside _ := HSR0.out
              clear hrb HOA0 HSR0
              clear hrd hs2 h1 h2
              go_wp2_with (first
                | (at_builtin; refine wp_apps rfl (.tmp 55) (.tmp 57) rfl (w.heap.size + 1) _ O [s1] rfl HOA.out (some ⟨w5.heap.size, 0, none⟩) 1 1 rfl rfl (fun h => by cases h) HSR.out hbn hws ?_; intro v7 w7 o7 g7))
              go_roundg (c - (i + 1))
              case measure => omega
              case rel =>
                obtain ⟨ow5, ks5, b5, hs5, hp5, hO5⟩ := HM.out
                exact ⟨i + 1, by go_num, by rw [HST.out]; simp only []; rw [hbb], by rw [HST.out, ← hO5]; simp only []; rw [prv_snoc], by omega, Nat.le_refl _, by rw [HST.out]; exact RS.next ow5 ks5 b5 hs5 hp5 hO5 o7 g7⟩
            · by_cases h4 : a < s2
              · have h3z : (0 : Int) < (i : Int) := by omega
                have hxx : Op.bytesLess s2 a = false := by rw [bytesLess_eq]; exact decide_eq_false (fun y => lt_irr _ (lt_tr h4 y))
                have hyy : (s2 == a) = false := beq_eq_false_iff_ne.2 (fun y => by rw [y] at h4; exact lt_irr _ h4)
                have hyy' : ¬ s2 = a := fun y => by rw [y] at h4; exact lt_irr _ h4
                have hbb : (B && radB a i u0 s1) = false := by rw [hrb]; rw [decide_eq_false (show ¬ u0 ≤ a.length by omega), Bool.false_and, Bool.and_false]
                have e2 : s1 = s2 := by rw [hrd, if_neg h2]
                subst e2
                have HOA : Hid _ := HOA0.out
                have HSR : Aside _ := HSR0.out
                clear hrb HOA0 HSR0 h4
                clear hrd hs2 h1 h2
                go_wp2_with (first
                  | (at_builtin; refine wp_apps rfl (.tmp 55) (.tmp 57) rfl (w.heap.size + 1) _ O [s1] rfl HOA.out (some ⟨w5.heap.size, 0, none⟩) 1 1 rfl rfl (fun h => by cases h) HSR.out hbn hws ?_; intro v7 w7 o7 g7))
                go_roundg (c - (i + 1))
                case measure => omega
                case rel =>
                  obtain ⟨ow5, ks5, b5, hs5, hp5, hO5⟩ := HM.out
                  exact ⟨i + 1, by go_num, by rw [HST.out]; simp only []; rw [hbb], by rw [HST.out, ← hO5]; simp only []; rw [prv_snoc], by omega, Nat.le_refl _, by rw [HST.out]; exact RS.next ow5 ks5 b5 hs5 hp5 hO5 o7 g7⟩
              · by_cases h5 : s2 = a
                · have h3z : (0 : Int) < (i : Int) := by omega
                  have hxx : Op.bytesLess s2 a = false := by rw [bytesLess_eq, h5]; exact decide_eq_false (lt_irr _)
                  have hyy : (s2 == a) = true := beq_iff_eq.2 h5
                  have hbb : (B && radB a i u0 s1) = false := by rw [hrb]; rw [decide_eq_false (show ¬ u0 ≤ a.length by omega), Bool.false_and, Bool.and_false]
                  have e2 : s1 = s2 := by rw [hrd, if_neg h2]
                  subst e2
                  have HOA : Hid _ := HOA0.out
                  have HSR : Aside _ := HSR0.out
                  clear hrb HOA0 HSR0 h4 h5
                  clear hrd hs2 h1 h2
                  go_wp2_with (first
                    | (at_builtin; refine wp_apps rfl (.tmp 55) (.tmp 57) rfl (w.heap.size + 1) _ O [s1] rfl HOA.out (some ⟨w5.heap.size, 0, none⟩) 1 1 rfl rfl (fun h => by cases h) HSR.out hbn hws ?_; intro v7 w7 o7 g7))
                  go_roundg (c - (i + 1))
                  case measure => omega
                  case rel =>
                    obtain ⟨ow5, ks5, b5, hs5, hp5, hO5⟩ := HM.out
                    exact ⟨i + 1, by go_num, by rw [HST.out]; simp only []; rw [hbb], by rw [HST.out, ← hO5]; simp only []; rw [prv_snoc], by omega, Nat.le_refl _, by rw [HST.out]; exact RS.next ow5 ks5 b5 hs5 hp5 hO5 o7 g7⟩
                · have h3z : (0 : Int) < (i : Int) := by omega
                  have hxx : Op.bytesLess s2 a = true := by rw [bytesLess_eq]; exact decide_eq_true (lt_of_le_ne h4 h5)
                  have hyy : (s2 == a) = false := beq_eq_false_iff_ne.2 h5
                  have hbb : (B && radB a i u0 s1) = false := by rw [hrb]; rw [decide_eq_false (show ¬ u0 ≤ a.length by omega), Bool.false_and, Bool.and_false]
                  have e2 : s1 = s2 := by rw [hrd, if_neg h2]
                  subst e2
                  have HOA : Hid _ := HOA0.out
                  have HSR : Aside _ := HSR0.out
                  clear hrb HOA0 HSR0 h4 h5
                  clear hrd hs2 h1 h2
                  go_wp2_with (first
                    | (at_builtin; refine wp_apps rfl (.tmp 55) (.tmp 57) rfl (w.heap.size + 1) _ O [s1] rfl HOA.out (some ⟨w5.heap.size, 0, none⟩) 1 1 rfl rfl (fun h => by cases h) HSR.out hbn hws ?_; intro v7 w7 o7 g7))
                  go_roundg (c - (i + 1))
                  case measure => omega
                  case rel =>
                    obtain ⟨ow5, ks5, b5, hs5, hp5, hO5⟩ := HM.out
                    exact ⟨i + 1, by go_num, by rw [HST.out]; simp only []; rw [hbb], by rw [HST.out, ← hO5]; simp only []; rw [prv_snoc], by omega, Nat.le_refl _, by rw [HST.out]; exact RS.next ow5 ks5 b5 hs5 hp5 hO5 o7 g7⟩
        · have h1z : ¬ (a.length : Int) < (u0 : Int) := by omega
          have hk : k1 = u0 := by rw [hk1, if_neg h1]
          rw [hk] at hcat hk1l hrl
          have hk1z : (u0 : Int) ≤ (a.length : Int) := by omega
          clear hk hk1 hr1
          by_cases h2 : 64 < s1.length
          · have h2z : (64 : Int) < (s1.length : Int) := by omega
            by_cases h3 : i = 0
            · have h3z : ¬ (0 : Int) < (i : Int) := by omega
              have hbb : (B && radB a i u0 tx) = false := by rw [hrb]; rw [decide_eq_false (show ¬ s1.length ≤ 64 by omega), Bool.false_and, Bool.and_false, Bool.and_false]
              have e2 : s2 = [] := by rw [hrd, if_pos h2]
              have HOA : Hid _ := HOA0.out
              have HSR : Aside _ := HSR0.out
              subst e2
              try simp only [List.toArray_nil] at HOA HSR hws
              clear hrb HOA0 HSR0
              clear hrd hs2 h1 h2
              go_wp2_with (first
                | (at_builtin; refine wp_apps rfl (.tmp 55) (.tmp 57) rfl (w.heap.size + 1) _ O [[]] rfl HOA.out (some ⟨w5.heap.size, 0, none⟩) 1 1 rfl rfl (fun h => by cases h) HSR.out hbn hws ?_; intro v7 w7 o7 g7))
              go_roundg (c - (i + 1))
              case measure => omega
              case rel =>
                obtain ⟨ow5, ks5, b5, hs5, hp5, hO5⟩ := HM.out
                exact ⟨i + 1, by go_num, by rw [HST.out]; simp only []; rw [hbb], by rw [HST.out, ← hO5]; simp only []; rw [prv_snoc], by omega, Nat.le_refl _, by rw [HST.out]; exact RS.next ow5 ks5 b5 hs5 hp5 hO5 o7 g7⟩
            · have h4 : ¬ a < s2 := by rw [show s2 = [] by rw [hrd, if_pos h2]]; exact List.not_lt_nil _
              by_cases h5 : s2 = a
              · have h3z : (0 : Int) < (i : Int) := by omega
                have hxx : Op.bytesLess s2 a = false := by rw [bytesLess_eq, h5]; exact decide_eq_false (lt_irr _)
                have hyy : (s2 == a) = true := beq_iff_eq.2 h5
                have hbb : (B && radB a i u0 tx) = false := by rw [hrb]; rw [decide_eq_false (show ¬ s1.length ≤ 64 by omega), Bool.false_and, Bool.and_false, Bool.and_false]
                have e2 : s2 = [] := by rw [hrd, if_pos h2]
                have HOA : Hid _ := HOA0.out
                have HSR : Aside _ := HSR0.out
                subst e2
                try simp only [List.toArray_nil] at HOA HSR hws
                clear hrb HOA0 HSR0 h4 h5
                clear hrd hs2 h1 h2
                go_wp2_with (first
                  | (at_builtin; refine wp_apps rfl (.tmp 55) (.tmp 57) rfl (w.heap.size + 1) _ O [[]] rfl HOA.out (some ⟨w5.heap.size, 0, none⟩) 1 1 rfl rfl (fun h => by cases h) HSR.out hbn hws ?_; intro v7 w7 o7 g7))
                go_roundg (c - (i + 1))
                case measure => omega
                case rel =>
                  obtain ⟨ow5, ks5, b5, hs5, hp5, hO5⟩ := HM.out
                  exact ⟨i + 1, by go_num, by rw [HST.out]; simp only []; rw [hbb], by rw [HST.out, ← hO5]; simp only []; rw [prv_snoc], by omega, Nat.le_refl _, by rw [HST.out]; exact RS.next ow5 ks5 b5 hs5 hp5 hO5 o7 g7⟩
              · have h3z : (0 : Int) < (i : Int) := by omega
                have hxx : Op.bytesLess s2 a = true := by rw [bytesLess_eq]; exact decide_eq_true (lt_of_le_ne h4 h5)
                have hyy : (s2 == a) = false := beq_eq_false_iff_ne.2 h5
                have hbb : (B && radB a i u0 tx) = false := by rw [hrb]; rw [decide_eq_false (show ¬ s1.length ≤ 64 by omega), Bool.false_and, Bool.and_false, Bool.and_false]
                have e2 : s2 = [] := by rw [hrd, if_pos h2]
                have HOA : Hid _ := HOA0.out
                have HSR : Aside _ := HSR0.out
                subst e2
                try simp only [List.toArray_nil] at HOA HSR hws
                clear hrb HOA0 HSR0 h4 h5
                clear hrd hs2 h1 h2
                go_wp2_with (first
                  | (at_builtin; refine wp_apps rfl (.tmp 55) (.tmp 57) rfl (w.heap.size + 1) _ O [[]] rfl HOA.out (some ⟨w5.heap.size, 0, none⟩) 1 1 rfl rfl (fun h => by cases h) HSR.out hbn hws ?_; intro v7 w7 o7 g7))
                go_roundg (c - (i + 1))
                case measure => omega
                case rel =>
                  obtain ⟨ow5, ks5, b5, hs5, hp5, hO5⟩ := HM.out
                  exact ⟨i + 1, by go_num, by rw [HST.out]; simp only []; rw [hbb], by rw [HST.out, ← hO5]; simp only []; rw [prv_snoc], by omega, Nat.le_refl _, by rw [HST.out]; exact RS.next ow5 ks5 b5 hs5 hp5 hO5 o7 g7⟩
          · have h2z : ¬ (64 : Int) < (s1.length : Int) := by omega
            by_cases h3 : i = 0
            · have h3z : ¬ (0 : Int) < (i : Int) := by omega
              have hbb : (B && radB a i u0 tx) = B := by rw [hrb]; rw [decide_eq_true (show u0 ≤ a.length by omega), decide_eq_true (show s1.length ≤ 64 by omega), decide_eq_true (show 0 < i → a < s2 from fun h => by omega), Bool.and_true, Bool.and_true, Bool.and_true]
              have e2 : s1 = s2 := by rw [hrd, if_neg h2]
              subst e2
              have HOA : Hid _ := HOA0.out
              have HSR : Aside _ := HSR0.out
              clear hrb HOA0 HSR0
              clear hrd hs2 h1 h2
              go_wp2_with (first
                | (at_builtin; refine wp_apps rfl (.tmp 55) (.tmp 57) rfl (w.heap.size + 1) _ O [s1] rfl HOA.out (some ⟨w5.heap.size, 0, none⟩) 1 1 rfl rfl (fun h => by cases h) HSR.out hbn hws ?_; intro v7 w7 o7 g7))
              go_roundg (c - (i + 1))
              case measure => omega
              case rel =>
                obtain ⟨ow5, ks5, b5, hs5, hp5, hO5⟩ := HM.out
                exact ⟨i + 1, by go_num, by rw [HST.out]; simp only []; rw [hbb], by rw [HST.out, ← hO5]; simp only []; rw [prv_snoc], by omega, Nat.le_refl _, by rw [HST.out]; exact RS.next ow5 ks5 b5 hs5 hp5 hO5 o7 g7⟩
            · by_cases h4 : a < s2
              · have h3z : (0 : Int) < (i : Int) := by omega
                have hxx : Op.bytesLess s2 a = false := by rw [bytesLess_eq]; exact decide_eq_false (fun y => lt_irr _ (lt_tr h4 y))
                have hyy : (s2 == a) = false := beq_eq_false_iff_ne.2 (fun y => by rw [y] at h4; exact lt_irr _ h4)
                have hyy' : ¬ s2 = a := fun y => by rw [y] at h4; exact lt_irr _ h4
                have hbb : (B && radB a i u0 tx) = B := by rw [hrb]; rw [decide_eq_true (show u0 ≤ a.length by omega), decide_eq_true (show s1.length ≤ 64 by omega), decide_eq_true (show 0 < i → a < s2 from fun _ => h4), Bool.and_true, Bool.and_true, Bool.and_true]
                have e2 : s1 = s2 := by rw [hrd, if_neg h2]
                subst e2
                have HOA : Hid _ := HOA0.out
                have HSR : Aside _ := HSR0.out
                clear hrb HOA0 HSR0 h4
                clear hrd hs2 h1 h2
                go_wp2_with (first
                  | (at_builtin; refine wp_apps rfl (.tmp 55) (.tmp 57) rfl (w.heap.size + 1) _ O [s1] rfl HOA.out (some ⟨w5.heap.size, 0, none⟩) 1 1 rfl rfl (fun h => by cases h) HSR.out hbn hws ?_; intro v7 w7 o7 g7))
                go_roundg (c - (i + 1))
                case measure => omega
                case rel =>
                  obtain ⟨ow5, ks5, b5, hs5, hp5, hO5⟩ := HM.out
                  exact ⟨i + 1, by go_num, by rw [HST.out]; simp only []; rw [hbb], by rw [HST.out, ← hO5]; simp only []; rw [prv_snoc], by omega, Nat.le_refl _, by rw [HST.out]; exact RS.next ow5 ks5 b5 hs5 hp5 hO5 o7 g7⟩
              · by_cases h5 : s2 = a
                · have h3z : (0 : Int) < (i : Int) := by omega
                  have hxx : Op.bytesLess s2 a = false := by rw [bytesLess_eq, h5]; exact decide_eq_false (lt_irr _)
                  have hyy : (s2 == a) = true := beq_iff_eq.2 h5
                  have hbb : (B && radB a i u0 tx) = false := by rw [hrb]; rw [decide_eq_false (show ¬ (0 < i → a < s2) from fun h => h4 (h (by omega))), Bool.and_false, Bool.and_false, Bool.and_false]
                  have e2 : s1 = s2 := by rw [hrd, if_neg h2]
                  subst e2
                  have HOA : Hid _ := HOA0.out
                  have HSR : Aside _ := HSR0.out
                  clear hrb HOA0 HSR0 h4 h5
                  clear hrd hs2 h1 h2
                  go_wp2_with (first
                    | (at_builtin; refine wp_apps rfl (.tmp 55) (.tmp 57) rfl (w.heap.size + 1) _ O [s1] rfl HOA.out (some ⟨w5.heap.size, 0, none⟩) 1 1 rfl rfl (fun h => by cases h) HSR.out hbn hws ?_; intro v7 w7 o7 g7))
                  go_roundg (c - (i + 1))
                  case measure => omega
                  case rel =>
                    obtain ⟨ow5, ks5, b5, hs5, hp5, hO5⟩ := HM.out
                    exact ⟨i + 1, by go_num, by rw [HST.out]; simp only []; rw [hbb], by rw [HST.out, ← hO5]; simp only []; rw [prv_snoc], by omega, Nat.le_refl _, by rw [HST.out]; exact RS.next ow5 ks5 b5 hs5 hp5 hO5 o7 g7⟩
                · have h3z : (0 : Int) < (i : Int) := by omega
                  have hxx : Op.bytesLess s2 a = true := by rw [bytesLess_eq]; exact decide_eq_true (lt_of_le_ne h4 h5)
                  have hyy : (s2 == a) = false := beq_eq_false_iff_ne.2 h5
                  have hbb : (B && radB a i u0 tx) = false := by rw [hrb]; rw [decide_eq_false (show ¬ (0 < i → a < s2) from fun h => h4 (h (by omega))), Bool.and_false, Bool.and_false, Bool.and_false]
                  have e2 : s1 = s2 := by rw [hrd, if_neg h2]
                  subst e2
                  have HOA : Hid _ := HOA0.out
                  have HSR : Aside _ := HSR0.out
                  clear hrb HOA0 HSR0 h4 h5
                  clear hrd hs2 h1 h2
                  go_wp2_with (first
                    | (at_builtin; refine wp_apps rfl (.tmp 55) (.tmp 57) rfl (w.heap.size + 1) _ O [s1] rfl HOA.out (some ⟨w5.heap.size, 0, none⟩) 1 1 rfl rfl (fun h => by cases h) HSR.out hbn hws ?_; intro v7 w7 o7 g7))
                  go_roundg (c - (i + 1))
                  case measure => omega
                  case rel =>
                    obtain ⟨ow5, ks5, b5, hs5, hp5, hO5⟩ := HM.out
                    exact ⟨i + 1, by go_num, by rw [HST.out]; simp only []; rw [hbb], by rw [HST.out, ← hO5]; simp only []; rw [prv_snoc], by omega, Nat.le_refl _, by rw [HST.out]; exact RS.next ow5 ks5 b5 hs5 hp5 hO5 o7 g7⟩
      · have hex : ((((X i).2.1 : Nat) : Int) == 0) = false := by rw [beq_eq_false_iff_ne]; omega
        have hez : ¬ (((X i).2.1 : Nat) : Int) = 0 := by omega
        have kE := end_k wr w.heap.size _ l _ _ HI.out.ks (HRD.out wr HI.out.bl)
        rw [HEN.out i hic (.inr he)] at kE
        clear k0 k1
        obtain ⟨a6, n6, c6, hv6⟩ : ∃ a n c, u6 = .slice a n c := HI.out.sl6
        subst hv6
        go_wp2_with fail
        refine kE.mono ?_
        rintro e w8 ⟨rfl, q8, rfl⟩
        have b8 : Below w.heap.size w (wr.drewN q8) := below_dN HI.out.bl q8
        clear kE
        by_cases hz : en l (fnl l).1 (fnl l).2.1 = 0
        · exfalso
          have := HEN.out i hic (.inr he)
          rw [hz] at this
          unfold en at this
          rw [if_pos he] at this
          exact he this
        · have hzi : ¬ ((en l (fnl l).1 (fnl l).2.1 : Nat) : Int) = 0 := by omega
          have hzb : (((en l (fnl l).1 (fnl l).2.1 : Nat) : Int) == 0) = false := by rw [beq_eq_false_iff_ne]; exact hzi
          go_wp2_with fail
          go_ret2
          exact ⟨.inl ⟨hz, rfl⟩, b8⟩
    · have hltz : ¬ (i : Int) < (c : Int) := by omega
      have kE := end_k wr w.heap.size _ l _ _ HI.out.ks (HRD.out wr HI.out.bl)
      rw [HEN.out i hic (.inl (by omega))] at kE
      clear k0 k1
      obtain ⟨a6, n6, c6, hv6⟩ : ∃ a n c, u6 = .slice a n c := HI.out.sl6
      subst hv6
      go_wp2_with fail
      refine kE.mono ?_
      rintro e w8 ⟨rfl, q8, rfl⟩
      have b8 : Below w.heap.size w (wr.drewN q8) := below_dN HI.out.bl q8
      clear kE
      by_cases hz : en l (fnl l).1 (fnl l).2.1 = 0
      · have ei : i = c := by omega
        subst ei
        have hzi : ((en l (fnl l).1 (fnl l).2.1 : Nat) : Int) = 0 := by omega
        rw [hzi]
        have hbo := HBO.out hz
        have hln := HI.out.ln
        have hol := HOL.out i
        obtain ⟨O, B, hOB⟩ : ∃ O B, (X i).2.2 = (O, B) := ⟨_, _, rfl⟩
        have hO1 : (X i).2.2.1 = O := by rw [hOB]
        have hB1 : (X i).2.2.2 = B := by rw [hOB]
        have own : Own wr (w.heap.size + 1) 9 (.slice a6 n6 c6) (sv O) := by
          have h := HI.out.ow
          rw [hO1] at h hln
          unfold Own
          rw [sv_length, hln]; exact h
        have rO := (Own.rds own).cells
        rw [hO1] at hln hol
        rw [hB1]
        rw [hOB] at hbo
        have hn6 : n6 = i := by rw [sv_length] at rO; omega
        clear rO hO1 hB1 hOB k2 kf hzi
        have HBO2 : Aside (∀ ts, (fnl l).2.2 = some ts ↔ ((O, B) = (ts, true) ∧ ts.length ≤ 4096 ∧ byts ts = l)) := hbo
        have HOW : Hid _ := own
        have HLN : Hid (O.length = i) := hln
        have HOL2 : Aside _ := hol
        have HZ : Hid _ := hz
        have HB8 : Hid _ := b8
        subst hn6
        clear hbo own hln hol hz b8 HI HEN HXS HX0 HBO HOL
        cases B with
        | false =>
          have hno : (fnl l).2.2 = none := by
            cases hf : (fnl l).2.2 with
            | none => rfl
            | some ts => have := ((HBO2.out ts).1 hf).1; simp at this
          have HNO : Hid _ := hno
          clear hno
          go_wp2_with fail
          go_quiet (fail)
          go_wp2_with fail
          go_ret2
          exact ⟨.inr (.inl ⟨HZ.out, HNO.out, rfl⟩), below_dN HB8.out _⟩
        | true =>
          by_cases hl4 : n6 ≤ 4096
          · have hl4z : ¬ (4096 : Int) < (n6 : Int) := by omega
            obtain ⟨V, hV⟩ : ∃ V, V = wr.drewN q8 := ⟨_, rfl⟩
            have bV : Below w.heap.size w V := by rw [hV]; exact HB8.out
            have rV : Rds V (.slice a6 n6 c6) (sv O) := by rw [hV]; exact (Own.below HOW.out (below_dN (Below.refl _ _) q8)).rds
            have hgl : ∀ i, (O.getD i []).length ≤ 64 := fun i => by
              by_cases hi : i < O.length
              · rw [getD_at hi]; exact HOL2.out _ (List.getElem_mem hi)
              · simp [hi]
            have kB := refbytes_any V.drew _ O (rV.below (below_dN (Below.refl _ _) 1)) (by have := HLN.out; omega) hgl
            have hlb2 : ∀ X v', Reads X v' (byts O) → (convert 33 9 v').run Try.prog X = .ok (.string ⟨(byts O).toArray⟩) X := fun X v' h => conv_string X v' _ h
            have hll : ∀ X, Below w.heap.size w X → (convert 33 9 (.slice ao n cap)).run Try.prog X = .ok (.string ⟨l.toArray⟩) X := fun X h => conv_string X _ _ (HRD.out X h)
            have hll1 := hll V.drew (below_dN bV 1)
            have HLL : Aside _ := hll
            have HL2 : Aside _ := hlb2
            have HRV : Hid _ := rV
            have HBV : Hid _ := bV
            clear hll hlb2 rV
            rw [← hV]
            clear hV
            have HGL : Aside _ := hgl
            have HLE : Hid (O.length ≤ 4096) := by show _ ≤ _; have := HLN.out; omega
            have mixed : Try.prog.follows .mixedOrders = true := by kernel_rfl
            have hl4d : decide ((4096 : Int) < (n6 : Int)) = false := decide_eq_false hl4z
            by_cases hbl : byts O = l
            · have hy : (byts O == l) = true := beq_iff_eq.2 hbl
              have HSO : Hid ((fnl l).2.2 = some O) := (HBO2.out O).2 ⟨rfl, HLE.out, hbl⟩
              have HBL : Hid _ := hbl
              clear hgl hll1 kB hbl
              go_wp2_with fail
              refine wp_region_invF (β := Value × Value × Value × Value × Value × Value × Value × Value × Value × Value × Value × Value × Value × Value × Value) (fun a0 xq => (((((((((((((((a0.put (some 65) (xq.1)).put (some 66) (xq.2.1)).put (some 67) (xq.2.2.1)).put (some 68) (xq.2.2.2.1)).put (some 69) (xq.2.2.2.2.1)).put (some 70) (xq.2.2.2.2.2.1)).put (some 71) (xq.2.2.2.2.2.2.1)).put (some 72) (xq.2.2.2.2.2.2.2.1)).put (some 73) (xq.2.2.2.2.2.2.2.2.1)).put (some 74) (xq.2.2.2.2.2.2.2.2.2.1)).put (some 75) (xq.2.2.2.2.2.2.2.2.2.2.1)).put (some 76) (xq.2.2.2.2.2.2.2.2.2.2.2.1)).put (some 77) (xq.2.2.2.2.2.2.2.2.2.2.2.2.1)).put (some 78) (xq.2.2.2.2.2.2.2.2.2.2.2.2.2.1)).put (some 79) (xq.2.2.2.2.2.2.2.2.2.2.2.2.2.2))) ?fr65 (fun xq d w' => Below V.heap.size V w' ∧ (d 0 = true → Evr w' (fun _ => (xq.1) = .bool true)) ∧ (d 1 = true → Evr w' (fun _ => (xq.2.1) = .bool false)) ∧ (d 2 = true → Evr w' (fun _ => (xq.2.2.1) = .bool false)) ∧ (d 3 = true → Evr w' (fun _ => (xq.2.2.2.1) = .slice a6 n6 c6)) ∧ (d 4 = true → Evr w' (fun _ => (xq.2.2.2.2.1) = .int .i64 (n6 : Int))) ∧ (d 5 = true → Evr w' (fun _ => (xq.2.2.2.2.2.1) = .bool false)) ∧ (d 6 = true → Evr w' (fun _ => (xq.2.2.2.2.2.2.1) = .bool false)) ∧ (d 7 = true → Evr w' (fun _ => (xq.2.2.2.2.2.2.2.1) = .bool false)) ∧ (d 8 = true → Evr w' (fun _ => (xq.2.2.2.2.2.2.2.2.1) = .slice a6 n6 c6)) ∧ (d 9 = true → Evr w' (fun X => ∃ ra rl rc, (xq.2.2.2.2.2.2.2.2.2.1) = .slice ra rl rc ∧ Reads X (.slice ra rl rc) (byts O))) ∧ (d 10 = true → Evr w' (fun _ => (xq.2.2.2.2.2.2.2.2.2.2.1) = .string ⟨(byts O).toArray⟩)) ∧ (d 11 = true → Evr w' (fun _ => (xq.2.2.2.2.2.2.2.2.2.2.2.1) = .slice ao n cap)) ∧ (d 12 = true → Evr w' (fun _ => (xq.2.2.2.2.2.2.2.2.2.2.2.2.1) = .string ⟨l.toArray⟩)) ∧ (d 13 = true → Evr w' (fun _ => (xq.2.2.2.2.2.2.2.2.2.2.2.2.2.1) = .bool false)) ∧ (d 14 = true → Evr w' (fun _ => (xq.2.2.2.2.2.2.2.2.2.2.2.2.2.2) = .bool false))) ?lay65 mixed (by kernel_rfl) ?h065 ?hs65 ?he65
              case lay65 =>
                intro xq
                simp only [Act.put, List.setIfInBounds_toArray, List.set_cons_zero, List.set_cons_succ]
                rfl
              case h065 => exact ⟨(undef, undef, undef, undef, undef, undef, undef, undef, undef, undef, undef, undef, undef, undef, undef), rfl, below_dN (Below.refl _ _) 1, (fun h => by cases h), (fun h => by cases h), (fun h => by cases h), (fun h => by cases h), (fun h => by cases h), (fun h => by cases h), (fun h => by cases h), (fun h => by cases h), (fun h => by cases h), (fun h => by cases h), (fun h => by cases h), (fun h => by cases h), (fun h => by cases h), (fun h => by cases h), (fun h => by cases h)⟩
              case hs65 =>
                refine ⟨?_, ?_, ?_, ?_, ?_, ?_, ?_, ?_, ?_, ?_, ?_, ?_, ?_, ?_, ?_, trivial⟩
                · rintro d ⟨x65, x66, x67, x68, x69, x70, x71, x72, x73, x74, x75, x76, x77, x78, x79⟩ w' hI hd hdp K hK
                  dsimp only at hI
                  obtain ⟨hB, f0, f1, f2, f3, f4, f5, f6, f7, f8, f9, f10, f11, f12, f13, f14⟩ := hI
                  skip
                  have HF : Hid _ := (And.intro hd (And.intro hB (And.intro f0 (And.intro f1 (And.intro f2 (And.intro f3 (And.intro f4 (And.intro f5 (And.intro f6 (And.intro f7 (And.intro f8 (And.intro f9 (And.intro f10 (And.intro f11 (And.intro f12 (And.intro f13 f14))))))))))))))))
                  clear f0 f1 f2 f3 f4 f5 f6 f7 f8 f9 f10 f11 f12 f13 f14 hB hdp hd
                  refine Opn.mk ?_
                  dsimp only
                  go_simp
                  obtain ⟨hd, hB, f0, f1, f2, f3, f4, f5, f6, f7, f8, f9, f10, f11, f12, f13, f14⟩ := HF.out
                  exact hK.out (.bool true, x66, x67, x68, x69, x70, x71, x72, x73, x74, x75, x76, x77, x78, x79) _ ⟨hB.trans (Below.mono (Below.refl w'.heap.size w') hB.size), (fun _ => fun _ _ => rfl), (fun h1 => by first | exact (f1 (upd_ne h1 (by decide))).up (Below.refl w'.heap.size w') | exact fun _ _ => rfl), (fun h2 => by first | exact (f2 (upd_ne h2 (by decide))).up (Below.refl w'.heap.size w') | exact fun _ _ => rfl), (fun h3 => by first | exact (f3 (upd_ne h3 (by decide))).up (Below.refl w'.heap.size w') | exact fun _ _ => rfl), (fun h4 => by first | exact (f4 (upd_ne h4 (by decide))).up (Below.refl w'.heap.size w') | exact fun _ _ => rfl), (fun h5 => by first | exact (f5 (upd_ne h5 (by decide))).up (Below.refl w'.heap.size w') | exact fun _ _ => rfl), (fun h6 => by first | exact (f6 (upd_ne h6 (by decide))).up (Below.refl w'.heap.size w') | exact fun _ _ => rfl), (fun h7 => by first | exact (f7 (upd_ne h7 (by decide))).up (Below.refl w'.heap.size w') | exact fun _ _ => rfl), (fun h8 => by first | exact (f8 (upd_ne h8 (by decide))).up (Below.refl w'.heap.size w') | exact fun _ _ => rfl), (fun h9 => by first | exact (f9 (upd_ne h9 (by decide))).up (Below.refl w'.heap.size w') | exact fun _ _ => rfl), (fun h10 => by first | exact (f10 (upd_ne h10 (by decide))).up (Below.refl w'.heap.size w') | exact fun _ _ => rfl), (fun h11 => by first | exact (f11 (upd_ne h11 (by decide))).up (Below.refl w'.heap.size w') | exact fun _ _ => rfl), (fun h12 => by first | exact (f12 (upd_ne h12 (by decide))).up (Below.refl w'.heap.size w') | exact fun _ _ => rfl), (fun h13 => by first | exact (f13 (upd_ne h13 (by decide))).up (Below.refl w'.heap.size w') | exact fun _ _ => rfl), (fun h14 => by first | exact (f14 (upd_ne h14 (by decide))).up (Below.refl w'.heap.size w') | exact fun _ _ => rfl)⟩
                · rintro d ⟨x65, x66, x67, x68, x69, x70, x71, x72, x73, x74, x75, x76, x77, x78, x79⟩ w' hI hd hdp K hK
                  dsimp only at hI
                  obtain ⟨hB, f0, f1, f2, f3, f4, f5, f6, f7, f8, f9, f10, f11, f12, f13, f14⟩ := hI
                  obtain rfl := (f0 (hdp 0 (by decide +kernel))).now
                  have HF : Hid _ := (And.intro hd (And.intro hB (And.intro f0 (And.intro f1 (And.intro f2 (And.intro f3 (And.intro f4 (And.intro f5 (And.intro f6 (And.intro f7 (And.intro f8 (And.intro f9 (And.intro f10 (And.intro f11 (And.intro f12 (And.intro f13 f14))))))))))))))))
                  clear f0 f1 f2 f3 f4 f5 f6 f7 f8 f9 f10 f11 f12 f13 f14 hB hdp hd
                  refine Opn.mk ?_
                  dsimp only
                  go_simp
                  obtain ⟨hd, hB, f0, f1, f2, f3, f4, f5, f6, f7, f8, f9, f10, f11, f12, f13, f14⟩ := HF.out
                  exact hK.out (.bool true, .bool false, x67, x68, x69, x70, x71, x72, x73, x74, x75, x76, x77, x78, x79) _ ⟨hB.trans (Below.mono (Below.refl w'.heap.size w') hB.size), (fun h0 => by first | exact (f0 (upd_ne h0 (by decide))).up (Below.refl w'.heap.size w') | exact fun _ _ => rfl), (fun _ => fun _ _ => rfl), (fun h2 => by first | exact (f2 (upd_ne h2 (by decide))).up (Below.refl w'.heap.size w') | exact fun _ _ => rfl), (fun h3 => by first | exact (f3 (upd_ne h3 (by decide))).up (Below.refl w'.heap.size w') | exact fun _ _ => rfl), (fun h4 => by first | exact (f4 (upd_ne h4 (by decide))).up (Below.refl w'.heap.size w') | exact fun _ _ => rfl), (fun h5 => by first | exact (f5 (upd_ne h5 (by decide))).up (Below.refl w'.heap.size w') | exact fun _ _ => rfl), (fun h6 => by first | exact (f6 (upd_ne h6 (by decide))).up (Below.refl w'.heap.size w') | exact fun _ _ => rfl), (fun h7 => by first | exact (f7 (upd_ne h7 (by decide))).up (Below.refl w'.heap.size w') | exact fun _ _ => rfl), (fun h8 => by first | exact (f8 (upd_ne h8 (by decide))).up (Below.refl w'.heap.size w') | exact fun _ _ => rfl), (fun h9 => by first | exact (f9 (upd_ne h9 (by decide))).up (Below.refl w'.heap.size w') | exact fun _ _ => rfl), (fun h10 => by first | exact (f10 (upd_ne h10 (by decide))).up (Below.refl w'.heap.size w') | exact fun _ _ => rfl), (fun h11 => by first | exact (f11 (upd_ne h11 (by decide))).up (Below.refl w'.heap.size w') | exact fun _ _ => rfl), (fun h12 => by first | exact (f12 (upd_ne h12 (by decide))).up (Below.refl w'.heap.size w') | exact fun _ _ => rfl), (fun h13 => by first | exact (f13 (upd_ne h13 (by decide))).up (Below.refl w'.heap.size w') | exact fun _ _ => rfl), (fun h14 => by first | exact (f14 (upd_ne h14 (by decide))).up (Below.refl w'.heap.size w') | exact fun _ _ => rfl)⟩
                · rintro d ⟨x65, x66, x67, x68, x69, x70, x71, x72, x73, x74, x75, x76, x77, x78, x79⟩ w' hI hd hdp K hK
                  dsimp only at hI
                  obtain ⟨hB, f0, f1, f2, f3, f4, f5, f6, f7, f8, f9, f10, f11, f12, f13, f14⟩ := hI
                  obtain rfl := (f1 (hdp 1 (by decide +kernel))).now
                  have HF : Hid _ := (And.intro hd (And.intro hB (And.intro f0 (And.intro f1 (And.intro f2 (And.intro f3 (And.intro f4 (And.intro f5 (And.intro f6 (And.intro f7 (And.intro f8 (And.intro f9 (And.intro f10 (And.intro f11 (And.intro f12 (And.intro f13 f14))))))))))))))))
                  clear f0 f1 f2 f3 f4 f5 f6 f7 f8 f9 f10 f11 f12 f13 f14 hB hdp hd
                  refine Opn.mk ?_
                  dsimp only
                  go_simp
                  obtain ⟨hd, hB, f0, f1, f2, f3, f4, f5, f6, f7, f8, f9, f10, f11, f12, f13, f14⟩ := HF.out
                  exact hK.out (x65, .bool false, .bool false, x68, x69, x70, x71, x72, x73, x74, x75, x76, x77, x78, x79) _ ⟨hB.trans (Below.mono (Below.refl w'.heap.size w') hB.size), (fun h0 => by first | exact (f0 (upd_ne h0 (by decide))).up (Below.refl w'.heap.size w') | exact fun _ _ => rfl), (fun h1 => by first | exact (f1 (upd_ne h1 (by decide))).up (Below.refl w'.heap.size w') | exact fun _ _ => rfl), (fun _ => fun _ _ => rfl), (fun h3 => by first | exact (f3 (upd_ne h3 (by decide))).up (Below.refl w'.heap.size w') | exact fun _ _ => rfl), (fun h4 => by first | exact (f4 (upd_ne h4 (by decide))).up (Below.refl w'.heap.size w') | exact fun _ _ => rfl), (fun h5 => by first | exact (f5 (upd_ne h5 (by decide))).up (Below.refl w'.heap.size w') | exact fun _ _ => rfl), (fun h6 => by first | exact (f6 (upd_ne h6 (by decide))).up (Below.refl w'.heap.size w') | exact fun _ _ => rfl), (fun h7 => by first | exact (f7 (upd_ne h7 (by decide))).up (Below.refl w'.heap.size w') | exact fun _ _ => rfl), (fun h8 => by first | exact (f8 (upd_ne h8 (by decide))).up (Below.refl w'.heap.size w') | exact fun _ _ => rfl), (fun h9 => by first | exact (f9 (upd_ne h9 (by decide))).up (Below.refl w'.heap.size w') | exact fun _ _ => rfl), (fun h10 => by first | exact (f10 (upd_ne h10 (by decide))).up (Below.refl w'.heap.size w') | exact fun _ _ => rfl), (fun h11 => by first | exact (f11 (upd_ne h11 (by decide))).up (Below.refl w'.heap.size w') | exact fun _ _ => rfl), (fun h12 => by first | exact (f12 (upd_ne h12 (by decide))).up (Below.refl w'.heap.size w') | exact fun _ _ => rfl), (fun h13 => by first | exact (f13 (upd_ne h13 (by decide))).up (Below.refl w'.heap.size w') | exact fun _ _ => rfl), (fun h14 => by first | exact (f14 (upd_ne h14 (by decide))).up (Below.refl w'.heap.size w') | exact fun _ _ => rfl)⟩
                · rintro d ⟨x65, x66, x67, x68, x69, x70, x71, x72, x73, x74, x75, x76, x77, x78, x79⟩ w' hI hd hdp K hK
                  dsimp only at hI
                  obtain ⟨hB, f0, f1, f2, f3, f4, f5, f6, f7, f8, f9, f10, f11, f12, f13, f14⟩ := hI
                  obtain rfl := (f2 (hdp 2 (by decide +kernel))).now
                  have HF : Hid _ := (And.intro hd (And.intro hB (And.intro f0 (And.intro f1 (And.intro f2 (And.intro f3 (And.intro f4 (And.intro f5 (And.intro f6 (And.intro f7 (And.intro f8 (And.intro f9 (And.intro f10 (And.intro f11 (And.intro f12 (And.intro f13 f14))))))))))))))))
                  clear f0 f1 f2 f3 f4 f5 f6 f7 f8 f9 f10 f11 f12 f13 f14 hB hdp hd
                  refine Opn.mk ?_
                  dsimp only
                  go_simp
                  obtain ⟨hd, hB, f0, f1, f2, f3, f4, f5, f6, f7, f8, f9, f10, f11, f12, f13, f14⟩ := HF.out
                  exact hK.out (x65, x66, .bool false, .slice a6 n6 c6, x69, x70, x71, x72, x73, x74, x75, x76, x77, x78, x79) _ ⟨hB.trans (Below.mono (Below.refl w'.heap.size w') hB.size), (fun h0 => by first | exact (f0 (upd_ne h0 (by decide))).up (Below.refl w'.heap.size w') | exact fun _ _ => rfl), (fun h1 => by first | exact (f1 (upd_ne h1 (by decide))).up (Below.refl w'.heap.size w') | exact fun _ _ => rfl), (fun h2 => by first | exact (f2 (upd_ne h2 (by decide))).up (Below.refl w'.heap.size w') | exact fun _ _ => rfl), (fun _ => fun _ _ => rfl), (fun h4 => by first | exact (f4 (upd_ne h4 (by decide))).up (Below.refl w'.heap.size w') | exact fun _ _ => rfl), (fun h5 => by first | exact (f5 (upd_ne h5 (by decide))).up (Below.refl w'.heap.size w') | exact fun _ _ => rfl), (fun h6 => by first | exact (f6 (upd_ne h6 (by decide))).up (Below.refl w'.heap.size w') | exact fun _ _ => rfl), (fun h7 => by first | exact (f7 (upd_ne h7 (by decide))).up (Below.refl w'.heap.size w') | exact fun _ _ => rfl), (fun h8 => by first | exact (f8 (upd_ne h8 (by decide))).up (Below.refl w'.heap.size w') | exact fun _ _ => rfl), (fun h9 => by first | exact (f9 (upd_ne h9 (by decide))).up (Below.refl w'.heap.size w') | exact fun _ _ => rfl), (fun h10 => by first | exact (f10 (upd_ne h10 (by decide))).up (Below.refl w'.heap.size w') | exact fun _ _ => rfl), (fun h11 => by first | exact (f11 (upd_ne h11 (by decide))).up (Below.refl w'.heap.size w') | exact fun _ _ => rfl), (fun h12 => by first | exact (f12 (upd_ne h12 (by decide))).up (Below.refl w'.heap.size w') | exact fun _ _ => rfl), (fun h13 => by first | exact (f13 (upd_ne h13 (by decide))).up (Below.refl w'.heap.size w') | exact fun _ _ => rfl), (fun h14 => by first | exact (f14 (upd_ne h14 (by decide))).up (Below.refl w'.heap.size w') | exact fun _ _ => rfl)⟩
                · rintro d ⟨x65, x66, x67, x68, x69, x70, x71, x72, x73, x74, x75, x76, x77, x78, x79⟩ w' hI hd hdp K hK
                  dsimp only at hI
                  obtain ⟨hB, f0, f1, f2, f3, f4, f5, f6, f7, f8, f9, f10, f11, f12, f13, f14⟩ := hI
                  obtain rfl := (f3 (hdp 3 (by decide +kernel))).now
                  obtain rfl := (f2 (hdp 2 (by decide +kernel))).now
                  have HF : Hid _ := (And.intro hd (And.intro hB (And.intro f0 (And.intro f1 (And.intro f2 (And.intro f3 (And.intro f4 (And.intro f5 (And.intro f6 (And.intro f7 (And.intro f8 (And.intro f9 (And.intro f10 (And.intro f11 (And.intro f12 (And.intro f13 f14))))))))))))))))
                  clear f0 f1 f2 f3 f4 f5 f6 f7 f8 f9 f10 f11 f12 f13 f14 hB hdp hd
                  refine Opn.mk ?_
                  dsimp only
                  go_simp
                  obtain ⟨hd, hB, f0, f1, f2, f3, f4, f5, f6, f7, f8, f9, f10, f11, f12, f13, f14⟩ := HF.out
                  exact hK.out (x65, x66, .bool false, .slice a6 n6 c6, .int .i64 (n6 : Int), x70, x71, x72, x73, x74, x75, x76, x77, x78, x79) _ ⟨hB.trans (Below.mono (Below.refl w'.heap.size w') hB.size), (fun h0 => by first | exact (f0 (upd_ne h0 (by decide))).up (Below.refl w'.heap.size w') | exact fun _ _ => rfl), (fun h1 => by first | exact (f1 (upd_ne h1 (by decide))).up (Below.refl w'.heap.size w') | exact fun _ _ => rfl), (fun h2 => by first | exact (f2 (upd_ne h2 (by decide))).up (Below.refl w'.heap.size w') | exact fun _ _ => rfl), (fun h3 => by first | exact (f3 (upd_ne h3 (by decide))).up (Below.refl w'.heap.size w') | exact fun _ _ => rfl), (fun _ => fun _ _ => rfl), (fun h5 => by first | exact (f5 (upd_ne h5 (by decide))).up (Below.refl w'.heap.size w') | exact fun _ _ => rfl), (fun h6 => by first | exact (f6 (upd_ne h6 (by decide))).up (Below.refl w'.heap.size w') | exact fun _ _ => rfl), (fun h7 => by first | exact (f7 (upd_ne h7 (by decide))).up (Below.refl w'.heap.size w') | exact fun _ _ => rfl), (fun h8 => by first | exact (f8 (upd_ne h8 (by decide))).up (Below.refl w'.heap.size w') | exact fun _ _ => rfl), (fun h9 => by first | exact (f9 (upd_ne h9 (by decide))).up (Below.refl w'.heap.size w') | exact fun _ _ => rfl), (fun h10 => by first | exact (f10 (upd_ne h10 (by decide))).up (Below.refl w'.heap.size w') | exact fun _ _ => rfl), (fun h11 => by first | exact (f11 (upd_ne h11 (by decide))).up (Below.refl w'.heap.size w') | exact fun _ _ => rfl), (fun h12 => by first | exact (f12 (upd_ne h12 (by decide))).up (Below.refl w'.heap.size w') | exact fun _ _ => rfl), (fun h13 => by first | exact (f13 (upd_ne h13 (by decide))).up (Below.refl w'.heap.size w') | exact fun _ _ => rfl), (fun h14 => by first | exact (f14 (upd_ne h14 (by decide))).up (Below.refl w'.heap.size w') | exact fun _ _ => rfl)⟩
                · rintro d ⟨x65, x66, x67, x68, x69, x70, x71, x72, x73, x74, x75, x76, x77, x78, x79⟩ w' hI hd hdp K hK
                  dsimp only at hI
                  obtain ⟨hB, f0, f1, f2, f3, f4, f5, f6, f7, f8, f9, f10, f11, f12, f13, f14⟩ := hI
                  obtain rfl := (f4 (hdp 4 (by decide +kernel))).now
                  obtain rfl := (f2 (hdp 2 (by decide +kernel))).now
                  have HF : Hid _ := (And.intro hd (And.intro hB (And.intro f0 (And.intro f1 (And.intro f2 (And.intro f3 (And.intro f4 (And.intro f5 (And.intro f6 (And.intro f7 (And.intro f8 (And.intro f9 (And.intro f10 (And.intro f11 (And.intro f12 (And.intro f13 f14))))))))))))))))
                  clear f0 f1 f2 f3 f4 f5 f6 f7 f8 f9 f10 f11 f12 f13 f14 hB hdp hd
                  refine Opn.mk ?_
                  dsimp only
                  go_simp
                  obtain ⟨hd, hB, f0, f1, f2, f3, f4, f5, f6, f7, f8, f9, f10, f11, f12, f13, f14⟩ := HF.out
                  exact hK.out (x65, x66, .bool false, x68, .int .i64 (n6 : Int), .bool false, x71, x72, x73, x74, x75, x76, x77, x78, x79) _ ⟨hB.trans (Below.mono (Below.refl w'.heap.size w') hB.size), (fun h0 => by first | exact (f0 (upd_ne h0 (by decide))).up (Below.refl w'.heap.size w') | exact fun _ _ => rfl), (fun h1 => by first | exact (f1 (upd_ne h1 (by decide))).up (Below.refl w'.heap.size w') | exact fun _ _ => rfl), (fun h2 => by first | exact (f2 (upd_ne h2 (by decide))).up (Below.refl w'.heap.size w') | exact fun _ _ => rfl), (fun h3 => by first | exact (f3 (upd_ne h3 (by decide))).up (Below.refl w'.heap.size w') | exact fun _ _ => rfl), (fun h4 => by first | exact (f4 (upd_ne h4 (by decide))).up (Below.refl w'.heap.size w') | exact fun _ _ => rfl), (fun _ => fun _ _ => rfl), (fun h6 => by first | exact (f6 (upd_ne h6 (by decide))).up (Below.refl w'.heap.size w') | exact fun _ _ => rfl), (fun h7 => by first | exact (f7 (upd_ne h7 (by decide))).up (Below.refl w'.heap.size w') | exact fun _ _ => rfl), (fun h8 => by first | exact (f8 (upd_ne h8 (by decide))).up (Below.refl w'.heap.size w') | exact fun _ _ => rfl), (fun h9 => by first | exact (f9 (upd_ne h9 (by decide))).up (Below.refl w'.heap.size w') | exact fun _ _ => rfl), (fun h10 => by first | exact (f10 (upd_ne h10 (by decide))).up (Below.refl w'.heap.size w') | exact fun _ _ => rfl), (fun h11 => by first | exact (f11 (upd_ne h11 (by decide))).up (Below.refl w'.heap.size w') | exact fun _ _ => rfl), (fun h12 => by first | exact (f12 (upd_ne h12 (by decide))).up (Below.refl w'.heap.size w') | exact fun _ _ => rfl), (fun h13 => by first | exact (f13 (upd_ne h13 (by decide))).up (Below.refl w'.heap.size w') | exact fun _ _ => rfl), (fun h14 => by first | exact (f14 (upd_ne h14 (by decide))).up (Below.refl w'.heap.size w') | exact fun _ _ => rfl)⟩
                · rintro d ⟨x65, x66, x67, x68, x69, x70, x71, x72, x73, x74, x75, x76, x77, x78, x79⟩ w' hI hd hdp K hK
                  dsimp only at hI
                  obtain ⟨hB, f0, f1, f2, f3, f4, f5, f6, f7, f8, f9, f10, f11, f12, f13, f14⟩ := hI
                  obtain rfl := (f2 (hdp 2 (by decide +kernel))).now
                  obtain rfl := (f5 (hdp 5 (by decide +kernel))).now
                  have HF : Hid _ := (And.intro hd (And.intro hB (And.intro f0 (And.intro f1 (And.intro f2 (And.intro f3 (And.intro f4 (And.intro f5 (And.intro f6 (And.intro f7 (And.intro f8 (And.intro f9 (And.intro f10 (And.intro f11 (And.intro f12 (And.intro f13 f14))))))))))))))))
                  clear f0 f1 f2 f3 f4 f5 f6 f7 f8 f9 f10 f11 f12 f13 f14 hB hdp hd
                  refine Opn.mk ?_
                  dsimp only
                  go_simp
                  obtain ⟨hd, hB, f0, f1, f2, f3, f4, f5, f6, f7, f8, f9, f10, f11, f12, f13, f14⟩ := HF.out
                  exact hK.out (x65, x66, .bool false, x68, x69, .bool false, .bool false, x72, x73, x74, x75, x76, x77, x78, x79) _ ⟨hB.trans (Below.mono (Below.refl w'.heap.size w') hB.size), (fun h0 => by first | exact (f0 (upd_ne h0 (by decide))).up (Below.refl w'.heap.size w') | exact fun _ _ => rfl), (fun h1 => by first | exact (f1 (upd_ne h1 (by decide))).up (Below.refl w'.heap.size w') | exact fun _ _ => rfl), (fun h2 => by first | exact (f2 (upd_ne h2 (by decide))).up (Below.refl w'.heap.size w') | exact fun _ _ => rfl), (fun h3 => by first | exact (f3 (upd_ne h3 (by decide))).up (Below.refl w'.heap.size w') | exact fun _ _ => rfl), (fun h4 => by first | exact (f4 (upd_ne h4 (by decide))).up (Below.refl w'.heap.size w') | exact fun _ _ => rfl), (fun h5 => by first | exact (f5 (upd_ne h5 (by decide))).up (Below.refl w'.heap.size w') | exact fun _ _ => rfl), (fun _ => fun _ _ => rfl), (fun h7 => by first | exact (f7 (upd_ne h7 (by decide))).up (Below.refl w'.heap.size w') | exact fun _ _ => rfl), (fun h8 => by first | exact (f8 (upd_ne h8 (by decide))).up (Below.refl w'.heap.size w') | exact fun _ _ => rfl), (fun h9 => by first | exact (f9 (upd_ne h9 (by decide))).up (Below.refl w'.heap.size w') | exact fun _ _ => rfl), (fun h10 => by first | exact (f10 (upd_ne h10 (by decide))).up (Below.refl w'.heap.size w') | exact fun _ _ => rfl), (fun h11 => by first | exact (f11 (upd_ne h11 (by decide))).up (Below.refl w'.heap.size w') | exact fun _ _ => rfl), (fun h12 => by first | exact (f12 (upd_ne h12 (by decide))).up (Below.refl w'.heap.size w') | exact fun _ _ => rfl), (fun h13 => by first | exact (f13 (upd_ne h13 (by decide))).up (Below.refl w'.heap.size w') | exact fun _ _ => rfl), (fun h14 => by first | exact (f14 (upd_ne h14 (by decide))).up (Below.refl w'.heap.size w') | exact fun _ _ => rfl)⟩
                · rintro d ⟨x65, x66, x67, x68, x69, x70, x71, x72, x73, x74, x75, x76, x77, x78, x79⟩ w' hI hd hdp K hK
                  dsimp only at hI
                  obtain ⟨hB, f0, f1, f2, f3, f4, f5, f6, f7, f8, f9, f10, f11, f12, f13, f14⟩ := hI
                  obtain rfl := (f6 (hdp 6 (by decide +kernel))).now
                  have HF : Hid _ := (And.intro hd (And.intro hB (And.intro f0 (And.intro f1 (And.intro f2 (And.intro f3 (And.intro f4 (And.intro f5 (And.intro f6 (And.intro f7 (And.intro f8 (And.intro f9 (And.intro f10 (And.intro f11 (And.intro f12 (And.intro f13 f14))))))))))))))))
                  clear f0 f1 f2 f3 f4 f5 f6 f7 f8 f9 f10 f11 f12 f13 f14 hB hdp hd
                  refine Opn.mk ?_
                  dsimp only
                  go_simp
                  obtain ⟨hd, hB, f0, f1, f2, f3, f4, f5, f6, f7, f8, f9, f10, f11, f12, f13, f14⟩ := HF.out
                  exact hK.out (x65, x66, x67, x68, x69, x70, .bool false, .bool false, x73, x74, x75, x76, x77, x78, x79) _ ⟨hB.trans (Below.mono (Below.refl w'.heap.size w') hB.size), (fun h0 => by first | exact (f0 (upd_ne h0 (by decide))).up (Below.refl w'.heap.size w') | exact fun _ _ => rfl), (fun h1 => by first | exact (f1 (upd_ne h1 (by decide))).up (Below.refl w'.heap.size w') | exact fun _ _ => rfl), (fun h2 => by first | exact (f2 (upd_ne h2 (by decide))).up (Below.refl w'.heap.size w') | exact fun _ _ => rfl), (fun h3 => by first | exact (f3 (upd_ne h3 (by decide))).up (Below.refl w'.heap.size w') | exact fun _ _ => rfl), (fun h4 => by first | exact (f4 (upd_ne h4 (by decide))).up (Below.refl w'.heap.size w') | exact fun _ _ => rfl), (fun h5 => by first | exact (f5 (upd_ne h5 (by decide))).up (Below.refl w'.heap.size w') | exact fun _ _ => rfl), (fun h6 => by first | exact (f6 (upd_ne h6 (by decide))).up (Below.refl w'.heap.size w') | exact fun _ _ => rfl), (fun _ => fun _ _ => rfl), (fun h8 => by first | exact (f8 (upd_ne h8 (by decide))).up (Below.refl w'.heap.size w') | exact fun _ _ => rfl), (fun h9 => by first | exact (f9 (upd_ne h9 (by decide))).up (Below.refl w'.heap.size w') | exact fun _ _ => rfl), (fun h10 => by first | exact (f10 (upd_ne h10 (by decide))).up (Below.refl w'.heap.size w') | exact fun _ _ => rfl), (fun h11 => by first | exact (f11 (upd_ne h11 (by decide))).up (Below.refl w'.heap.size w') | exact fun _ _ => rfl), (fun h12 => by first | exact (f12 (upd_ne h12 (by decide))).up (Below.refl w'.heap.size w') | exact fun _ _ => rfl), (fun h13 => by first | exact (f13 (upd_ne h13 (by decide))).up (Below.refl w'.heap.size w') | exact fun _ _ => rfl), (fun h14 => by first | exact (f14 (upd_ne h14 (by decide))).up (Below.refl w'.heap.size w') | exact fun _ _ => rfl)⟩
                · rintro d ⟨x65, x66, x67, x68, x69, x70, x71, x72, x73, x74, x75, x76, x77, x78, x79⟩ w' hI hd hdp K hK
                  dsimp only at hI
                  obtain ⟨hB, f0, f1, f2, f3, f4, f5, f6, f7, f8, f9, f10, f11, f12, f13, f14⟩ := hI
                  obtain rfl := (f7 (hdp 7 (by decide +kernel))).now
                  have HF : Hid _ := (And.intro hd (And.intro hB (And.intro f0 (And.intro f1 (And.intro f2 (And.intro f3 (And.intro f4 (And.intro f5 (And.intro f6 (And.intro f7 (And.intro f8 (And.intro f9 (And.intro f10 (And.intro f11 (And.intro f12 (And.intro f13 f14))))))))))))))))
                  clear f0 f1 f2 f3 f4 f5 f6 f7 f8 f9 f10 f11 f12 f13 f14 hB hdp hd
                  refine Opn.mk ?_
                  dsimp only
                  go_simp
                  obtain ⟨hd, hB, f0, f1, f2, f3, f4, f5, f6, f7, f8, f9, f10, f11, f12, f13, f14⟩ := HF.out
                  exact hK.out (x65, x66, x67, x68, x69, x70, x71, .bool false, .slice a6 n6 c6, x74, x75, x76, x77, x78, x79) _ ⟨hB.trans (Below.mono (Below.refl w'.heap.size w') hB.size), (fun h0 => by first | exact (f0 (upd_ne h0 (by decide))).up (Below.refl w'.heap.size w') | exact fun _ _ => rfl), (fun h1 => by first | exact (f1 (upd_ne h1 (by decide))).up (Below.refl w'.heap.size w') | exact fun _ _ => rfl), (fun h2 => by first | exact (f2 (upd_ne h2 (by decide))).up (Below.refl w'.heap.size w') | exact fun _ _ => rfl), (fun h3 => by first | exact (f3 (upd_ne h3 (by decide))).up (Below.refl w'.heap.size w') | exact fun _ _ => rfl), (fun h4 => by first | exact (f4 (upd_ne h4 (by decide))).up (Below.refl w'.heap.size w') | exact fun _ _ => rfl), (fun h5 => by first | exact (f5 (upd_ne h5 (by decide))).up (Below.refl w'.heap.size w') | exact fun _ _ => rfl), (fun h6 => by first | exact (f6 (upd_ne h6 (by decide))).up (Below.refl w'.heap.size w') | exact fun _ _ => rfl), (fun h7 => by first | exact (f7 (upd_ne h7 (by decide))).up (Below.refl w'.heap.size w') | exact fun _ _ => rfl), (fun _ => fun _ _ => rfl), (fun h9 => by first | exact (f9 (upd_ne h9 (by decide))).up (Below.refl w'.heap.size w') | exact fun _ _ => rfl), (fun h10 => by first | exact (f10 (upd_ne h10 (by decide))).up (Below.refl w'.heap.size w') | exact fun _ _ => rfl), (fun h11 => by first | exact (f11 (upd_ne h11 (by decide))).up (Below.refl w'.heap.size w') | exact fun _ _ => rfl), (fun h12 => by first | exact (f12 (upd_ne h12 (by decide))).up (Below.refl w'.heap.size w') | exact fun _ _ => rfl), (fun h13 => by first | exact (f13 (upd_ne h13 (by decide))).up (Below.refl w'.heap.size w') | exact fun _ _ => rfl), (fun h14 => by first | exact (f14 (upd_ne h14 (by decide))).up (Below.refl w'.heap.size w') | exact fun _ _ => rfl)⟩
                · rintro d ⟨x65, x66, x67, x68, x69, x70, x71, x72, x73, x74, x75, x76, x77, x78, x79⟩ w' hI hd hdp K hK
                  dsimp only at hI
                  obtain ⟨hB, f0, f1, f2, f3, f4, f5, f6, f7, f8, f9, f10, f11, f12, f13, f14⟩ := hI
                  obtain rfl := (f8 (hdp 8 (by decide +kernel))).now
                  obtain rfl := (f7 (hdp 7 (by decide +kernel))).now
                  have kk := refbytes_any w' _ O (Rds.below HRV.out hB) HLE.out HGL.out
                  have HF : Hid _ := (And.intro hd (And.intro hB (And.intro f0 (And.intro f1 (And.intro f2 (And.intro f3 (And.intro f4 (And.intro f5 (And.intro f6 (And.intro f7 (And.intro f8 (And.intro f9 (And.intro f10 (And.intro f11 (And.intro f12 (And.intro f13 f14))))))))))))))))
                  clear f0 f1 f2 f3 f4 f5 f6 f7 f8 f9 f10 f11 f12 f13 f14 hB hdp hd
                  refine Opn.mk ?_
                  dsimp only
                  go_simp
                  go_wp2_with (first | (go_at_call 29; with_reducible refine kk.mono ?_; rintro e5 w5 ⟨v5, rfl, o5, b5⟩; obtain ⟨ra5, rl5, rc5, rfl⟩ := o5.reads.sl))
                  obtain ⟨hd, hB, f0, f1, f2, f3, f4, f5, f6, f7, f8, f9, f10, f11, f12, f13, f14⟩ := HF.out
                  exact hK.out (x65, x66, x67, x68, x69, x70, x71, .bool false, .slice a6 n6 c6, .slice ra5 rl5 rc5, x75, x76, x77, x78, x79) _ ⟨hB.trans (Below.mono (b5) hB.size), (fun h0 => by first | exact (f0 (upd_ne h0 (by decide))).up (b5) | exact fun _ _ => rfl), (fun h1 => by first | exact (f1 (upd_ne h1 (by decide))).up (b5) | exact fun _ _ => rfl), (fun h2 => by first | exact (f2 (upd_ne h2 (by decide))).up (b5) | exact fun _ _ => rfl), (fun h3 => by first | exact (f3 (upd_ne h3 (by decide))).up (b5) | exact fun _ _ => rfl), (fun h4 => by first | exact (f4 (upd_ne h4 (by decide))).up (b5) | exact fun _ _ => rfl), (fun h5 => by first | exact (f5 (upd_ne h5 (by decide))).up (b5) | exact fun _ _ => rfl), (fun h6 => by first | exact (f6 (upd_ne h6 (by decide))).up (b5) | exact fun _ _ => rfl), (fun h7 => by first | exact (f7 (upd_ne h7 (by decide))).up (b5) | exact fun _ _ => rfl), (fun h8 => by first | exact (f8 (upd_ne h8 (by decide))).up (b5) | exact fun _ _ => rfl), (fun _ => fun X bX => ⟨_, _, _, rfl, o5.reads.below bX⟩), (fun h10 => by first | exact (f10 (upd_ne h10 (by decide))).up (b5) | exact fun _ _ => rfl), (fun h11 => by first | exact (f11 (upd_ne h11 (by decide))).up (b5) | exact fun _ _ => rfl), (fun h12 => by first | exact (f12 (upd_ne h12 (by decide))).up (b5) | exact fun _ _ => rfl), (fun h13 => by first | exact (f13 (upd_ne h13 (by decide))).up (b5) | exact fun _ _ => rfl), (fun h14 => by first | exact (f14 (upd_ne h14 (by decide))).up (b5) | exact fun _ _ => rfl)⟩
                · rintro d ⟨x65, x66, x67, x68, x69, x70, x71, x72, x73, x74, x75, x76, x77, x78, x79⟩ w' hI hd hdp K hK
                  dsimp only at hI
                  obtain ⟨hB, f0, f1, f2, f3, f4, f5, f6, f7, f8, f9, f10, f11, f12, f13, f14⟩ := hI
                  obtain rfl := (f7 (hdp 7 (by decide +kernel))).now
                  obtain ⟨ra, rl, rc, e74, rr⟩ := (f9 (hdp 9 (by decide +kernel))).now
                  subst e74
                  have hcv := HL2.out w' _ rr
                  have HF : Hid _ := (And.intro hd (And.intro hB (And.intro f0 (And.intro f1 (And.intro f2 (And.intro f3 (And.intro f4 (And.intro f5 (And.intro f6 (And.intro f7 (And.intro f8 (And.intro f9 (And.intro f10 (And.intro f11 (And.intro f12 (And.intro f13 f14))))))))))))))))
                  clear f0 f1 f2 f3 f4 f5 f6 f7 f8 f9 f10 f11 f12 f13 f14 hB hdp hd
                  refine Opn.mk ?_
                  dsimp only
                  go_simp
                  obtain ⟨hd, hB, f0, f1, f2, f3, f4, f5, f6, f7, f8, f9, f10, f11, f12, f13, f14⟩ := HF.out
                  exact hK.out (x65, x66, x67, x68, x69, x70, x71, .bool false, x73, .slice ra rl rc, .string ⟨(byts O).toArray⟩, x76, x77, x78, x79) _ ⟨hB.trans (Below.mono (Below.refl w'.heap.size w') hB.size), (fun h0 => by first | exact (f0 (upd_ne h0 (by decide))).up (Below.refl w'.heap.size w') | exact fun _ _ => rfl), (fun h1 => by first | exact (f1 (upd_ne h1 (by decide))).up (Below.refl w'.heap.size w') | exact fun _ _ => rfl), (fun h2 => by first | exact (f2 (upd_ne h2 (by decide))).up (Below.refl w'.heap.size w') | exact fun _ _ => rfl), (fun h3 => by first | exact (f3 (upd_ne h3 (by decide))).up (Below.refl w'.heap.size w') | exact fun _ _ => rfl), (fun h4 => by first | exact (f4 (upd_ne h4 (by decide))).up (Below.refl w'.heap.size w') | exact fun _ _ => rfl), (fun h5 => by first | exact (f5 (upd_ne h5 (by decide))).up (Below.refl w'.heap.size w') | exact fun _ _ => rfl), (fun h6 => by first | exact (f6 (upd_ne h6 (by decide))).up (Below.refl w'.heap.size w') | exact fun _ _ => rfl), (fun h7 => by first | exact (f7 (upd_ne h7 (by decide))).up (Below.refl w'.heap.size w') | exact fun _ _ => rfl), (fun h8 => by first | exact (f8 (upd_ne h8 (by decide))).up (Below.refl w'.heap.size w') | exact fun _ _ => rfl), (fun h9 => by first | exact (f9 (upd_ne h9 (by decide))).up (Below.refl w'.heap.size w') | exact fun _ _ => rfl), (fun _ => fun _ _ => rfl), (fun h11 => by first | exact (f11 (upd_ne h11 (by decide))).up (Below.refl w'.heap.size w') | exact fun _ _ => rfl), (fun h12 => by first | exact (f12 (upd_ne h12 (by decide))).up (Below.refl w'.heap.size w') | exact fun _ _ => rfl), (fun h13 => by first | exact (f13 (upd_ne h13 (by decide))).up (Below.refl w'.heap.size w') | exact fun _ _ => rfl), (fun h14 => by first | exact (f14 (upd_ne h14 (by decide))).up (Below.refl w'.heap.size w') | exact fun _ _ => rfl)⟩
                · rintro d ⟨x65, x66, x67, x68, x69, x70, x71, x72, x73, x74, x75, x76, x77, x78, x79⟩ w' hI hd hdp K hK
                  dsimp only at hI
                  obtain ⟨hB, f0, f1, f2, f3, f4, f5, f6, f7, f8, f9, f10, f11, f12, f13, f14⟩ := hI
                  obtain rfl := (f7 (hdp 7 (by decide +kernel))).now
                  have HF : Hid _ := (And.intro hd (And.intro hB (And.intro f0 (And.intro f1 (And.intro f2 (And.intro f3 (And.intro f4 (And.intro f5 (And.intro f6 (And.intro f7 (And.intro f8 (And.intro f9 (And.intro f10 (And.intro f11 (And.intro f12 (And.intro f13 f14))))))))))))))))
                  clear f0 f1 f2 f3 f4 f5 f6 f7 f8 f9 f10 f11 f12 f13 f14 hB hdp hd
                  refine Opn.mk ?_
                  dsimp only
                  go_simp
                  obtain ⟨hd, hB, f0, f1, f2, f3, f4, f5, f6, f7, f8, f9, f10, f11, f12, f13, f14⟩ := HF.out
                  exact hK.out (x65, x66, x67, x68, x69, x70, x71, .bool false, x73, x74, x75, .slice ao n cap, x77, x78, x79) _ ⟨hB.trans (Below.mono (Below.refl w'.heap.size w') hB.size), (fun h0 => by first | exact (f0 (upd_ne h0 (by decide))).up (Below.refl w'.heap.size w') | exact fun _ _ => rfl), (fun h1 => by first | exact (f1 (upd_ne h1 (by decide))).up (Below.refl w'.heap.size w') | exact fun _ _ => rfl), (fun h2 => by first | exact (f2 (upd_ne h2 (by decide))).up (Below.refl w'.heap.size w') | exact fun _ _ => rfl), (fun h3 => by first | exact (f3 (upd_ne h3 (by decide))).up (Below.refl w'.heap.size w') | exact fun _ _ => rfl), (fun h4 => by first | exact (f4 (upd_ne h4 (by decide))).up (Below.refl w'.heap.size w') | exact fun _ _ => rfl), (fun h5 => by first | exact (f5 (upd_ne h5 (by decide))).up (Below.refl w'.heap.size w') | exact fun _ _ => rfl), (fun h6 => by first | exact (f6 (upd_ne h6 (by decide))).up (Below.refl w'.heap.size w') | exact fun _ _ => rfl), (fun h7 => by first | exact (f7 (upd_ne h7 (by decide))).up (Below.refl w'.heap.size w') | exact fun _ _ => rfl), (fun h8 => by first | exact (f8 (upd_ne h8 (by decide))).up (Below.refl w'.heap.size w') | exact fun _ _ => rfl), (fun h9 => by first | exact (f9 (upd_ne h9 (by decide))).up (Below.refl w'.heap.size w') | exact fun _ _ => rfl), (fun h10 => by first | exact (f10 (upd_ne h10 (by decide))).up (Below.refl w'.heap.size w') | exact fun _ _ => rfl), (fun _ => fun _ _ => rfl), (fun h12 => by first | exact (f12 (upd_ne h12 (by decide))).up (Below.refl w'.heap.size w') | exact fun _ _ => rfl), (fun h13 => by first | exact (f13 (upd_ne h13 (by decide))).up (Below.refl w'.heap.size w') | exact fun _ _ => rfl), (fun h14 => by first | exact (f14 (upd_ne h14 (by decide))).up (Below.refl w'.heap.size w') | exact fun _ _ => rfl)⟩
                · rintro d ⟨x65, x66, x67, x68, x69, x70, x71, x72, x73, x74, x75, x76, x77, x78, x79⟩ w' hI hd hdp K hK
                  dsimp only at hI
                  obtain ⟨hB, f0, f1, f2, f3, f4, f5, f6, f7, f8, f9, f10, f11, f12, f13, f14⟩ := hI
                  obtain rfl := (f11 (hdp 11 (by decide +kernel))).now
                  obtain rfl := (f7 (hdp 7 (by decide +kernel))).now
                  have hcv := HLL.out w' (HBV.out.trans (hB.mono HBV.out.size))
                  have HF : Hid _ := (And.intro hd (And.intro hB (And.intro f0 (And.intro f1 (And.intro f2 (And.intro f3 (And.intro f4 (And.intro f5 (And.intro f6 (And.intro f7 (And.intro f8 (And.intro f9 (And.intro f10 (And.intro f11 (And.intro f12 (And.intro f13 f14))))))))))))))))
                  clear f0 f1 f2 f3 f4 f5 f6 f7 f8 f9 f10 f11 f12 f13 f14 hB hdp hd
                  refine Opn.mk ?_
                  dsimp only
                  go_simp
                  obtain ⟨hd, hB, f0, f1, f2, f3, f4, f5, f6, f7, f8, f9, f10, f11, f12, f13, f14⟩ := HF.out
                  exact hK.out (x65, x66, x67, x68, x69, x70, x71, .bool false, x73, x74, x75, .slice ao n cap, .string ⟨l.toArray⟩, x78, x79) _ ⟨hB.trans (Below.mono (Below.refl w'.heap.size w') hB.size), (fun h0 => by first | exact (f0 (upd_ne h0 (by decide))).up (Below.refl w'.heap.size w') | exact fun _ _ => rfl), (fun h1 => by first | exact (f1 (upd_ne h1 (by decide))).up (Below.refl w'.heap.size w') | exact fun _ _ => rfl), (fun h2 => by first | exact (f2 (upd_ne h2 (by decide))).up (Below.refl w'.heap.size w') | exact fun _ _ => rfl), (fun h3 => by first | exact (f3 (upd_ne h3 (by decide))).up (Below.refl w'.heap.size w') | exact fun _ _ => rfl), (fun h4 => by first | exact (f4 (upd_ne h4 (by decide))).up (Below.refl w'.heap.size w') | exact fun _ _ => rfl), (fun h5 => by first | exact (f5 (upd_ne h5 (by decide))).up (Below.refl w'.heap.size w') | exact fun _ _ => rfl), (fun h6 => by first | exact (f6 (upd_ne h6 (by decide))).up (Below.refl w'.heap.size w') | exact fun _ _ => rfl), (fun h7 => by first | exact (f7 (upd_ne h7 (by decide))).up (Below.refl w'.heap.size w') | exact fun _ _ => rfl), (fun h8 => by first | exact (f8 (upd_ne h8 (by decide))).up (Below.refl w'.heap.size w') | exact fun _ _ => rfl), (fun h9 => by first | exact (f9 (upd_ne h9 (by decide))).up (Below.refl w'.heap.size w') | exact fun _ _ => rfl), (fun h10 => by first | exact (f10 (upd_ne h10 (by decide))).up (Below.refl w'.heap.size w') | exact fun _ _ => rfl), (fun h11 => by first | exact (f11 (upd_ne h11 (by decide))).up (Below.refl w'.heap.size w') | exact fun _ _ => rfl), (fun _ => fun _ _ => rfl), (fun h13 => by first | exact (f13 (upd_ne h13 (by decide))).up (Below.refl w'.heap.size w') | exact fun _ _ => rfl), (fun h14 => by first | exact (f14 (upd_ne h14 (by decide))).up (Below.refl w'.heap.size w') | exact fun _ _ => rfl)⟩
                · rintro d ⟨x65, x66, x67, x68, x69, x70, x71, x72, x73, x74, x75, x76, x77, x78, x79⟩ w' hI hd hdp K hK
                  dsimp only at hI
                  obtain ⟨hB, f0, f1, f2, f3, f4, f5, f6, f7, f8, f9, f10, f11, f12, f13, f14⟩ := hI
                  obtain rfl := (f10 (hdp 10 (by decide +kernel))).now
                  obtain rfl := (f12 (hdp 12 (by decide +kernel))).now
                  obtain rfl := (f7 (hdp 7 (by decide +kernel))).now
                  have HF : Hid _ := (And.intro hd (And.intro hB (And.intro f0 (And.intro f1 (And.intro f2 (And.intro f3 (And.intro f4 (And.intro f5 (And.intro f6 (And.intro f7 (And.intro f8 (And.intro f9 (And.intro f10 (And.intro f11 (And.intro f12 (And.intro f13 f14))))))))))))))))
                  clear f0 f1 f2 f3 f4 f5 f6 f7 f8 f9 f10 f11 f12 f13 f14 hB hdp hd
                  refine Opn.mk ?_
                  dsimp only
                  go_simp
                  obtain ⟨hd, hB, f0, f1, f2, f3, f4, f5, f6, f7, f8, f9, f10, f11, f12, f13, f14⟩ := HF.out
                  exact hK.out (x65, x66, x67, x68, x69, x70, x71, .bool false, x73, x74, .string ⟨(byts O).toArray⟩, x76, .string ⟨l.toArray⟩, .bool false, x79) _ ⟨hB.trans (Below.mono (Below.refl w'.heap.size w') hB.size), (fun h0 => by first | exact (f0 (upd_ne h0 (by decide))).up (Below.refl w'.heap.size w') | exact fun _ _ => rfl), (fun h1 => by first | exact (f1 (upd_ne h1 (by decide))).up (Below.refl w'.heap.size w') | exact fun _ _ => rfl), (fun h2 => by first | exact (f2 (upd_ne h2 (by decide))).up (Below.refl w'.heap.size w') | exact fun _ _ => rfl), (fun h3 => by first | exact (f3 (upd_ne h3 (by decide))).up (Below.refl w'.heap.size w') | exact fun _ _ => rfl), (fun h4 => by first | exact (f4 (upd_ne h4 (by decide))).up (Below.refl w'.heap.size w') | exact fun _ _ => rfl), (fun h5 => by first | exact (f5 (upd_ne h5 (by decide))).up (Below.refl w'.heap.size w') | exact fun _ _ => rfl), (fun h6 => by first | exact (f6 (upd_ne h6 (by decide))).up (Below.refl w'.heap.size w') | exact fun _ _ => rfl), (fun h7 => by first | exact (f7 (upd_ne h7 (by decide))).up (Below.refl w'.heap.size w') | exact fun _ _ => rfl), (fun h8 => by first | exact (f8 (upd_ne h8 (by decide))).up (Below.refl w'.heap.size w') | exact fun _ _ => rfl), (fun h9 => by first | exact (f9 (upd_ne h9 (by decide))).up (Below.refl w'.heap.size w') | exact fun _ _ => rfl), (fun h10 => by first | exact (f10 (upd_ne h10 (by decide))).up (Below.refl w'.heap.size w') | exact fun _ _ => rfl), (fun h11 => by first | exact (f11 (upd_ne h11 (by decide))).up (Below.refl w'.heap.size w') | exact fun _ _ => rfl), (fun h12 => by first | exact (f12 (upd_ne h12 (by decide))).up (Below.refl w'.heap.size w') | exact fun _ _ => rfl), (fun _ => fun _ _ => rfl), (fun h14 => by first | exact (f14 (upd_ne h14 (by decide))).up (Below.refl w'.heap.size w') | exact fun _ _ => rfl)⟩
                · rintro d ⟨x65, x66, x67, x68, x69, x70, x71, x72, x73, x74, x75, x76, x77, x78, x79⟩ w' hI hd hdp K hK
                  dsimp only at hI
                  obtain ⟨hB, f0, f1, f2, f3, f4, f5, f6, f7, f8, f9, f10, f11, f12, f13, f14⟩ := hI
                  obtain rfl := (f7 (hdp 7 (by decide +kernel))).now
                  obtain rfl := (f13 (hdp 13 (by decide +kernel))).now
                  have HF : Hid _ := (And.intro hd (And.intro hB (And.intro f0 (And.intro f1 (And.intro f2 (And.intro f3 (And.intro f4 (And.intro f5 (And.intro f6 (And.intro f7 (And.intro f8 (And.intro f9 (And.intro f10 (And.intro f11 (And.intro f12 (And.intro f13 f14))))))))))))))))
                  clear f0 f1 f2 f3 f4 f5 f6 f7 f8 f9 f10 f11 f12 f13 f14 hB hdp hd
                  refine Opn.mk ?_
                  dsimp only
                  go_simp
                  obtain ⟨hd, hB, f0, f1, f2, f3, f4, f5, f6, f7, f8, f9, f10, f11, f12, f13, f14⟩ := HF.out
                  exact hK.out (x65, x66, x67, x68, x69, x70, x71, .bool false, x73, x74, x75, x76, x77, .bool false, .bool false) _ ⟨hB.trans (Below.mono (Below.refl w'.heap.size w') hB.size), (fun h0 => by first | exact (f0 (upd_ne h0 (by decide))).up (Below.refl w'.heap.size w') | exact fun _ _ => rfl), (fun h1 => by first | exact (f1 (upd_ne h1 (by decide))).up (Below.refl w'.heap.size w') | exact fun _ _ => rfl), (fun h2 => by first | exact (f2 (upd_ne h2 (by decide))).up (Below.refl w'.heap.size w') | exact fun _ _ => rfl), (fun h3 => by first | exact (f3 (upd_ne h3 (by decide))).up (Below.refl w'.heap.size w') | exact fun _ _ => rfl), (fun h4 => by first | exact (f4 (upd_ne h4 (by decide))).up (Below.refl w'.heap.size w') | exact fun _ _ => rfl), (fun h5 => by first | exact (f5 (upd_ne h5 (by decide))).up (Below.refl w'.heap.size w') | exact fun _ _ => rfl), (fun h6 => by first | exact (f6 (upd_ne h6 (by decide))).up (Below.refl w'.heap.size w') | exact fun _ _ => rfl), (fun h7 => by first | exact (f7 (upd_ne h7 (by decide))).up (Below.refl w'.heap.size w') | exact fun _ _ => rfl), (fun h8 => by first | exact (f8 (upd_ne h8 (by decide))).up (Below.refl w'.heap.size w') | exact fun _ _ => rfl), (fun h9 => by first | exact (f9 (upd_ne h9 (by decide))).up (Below.refl w'.heap.size w') | exact fun _ _ => rfl), (fun h10 => by first | exact (f10 (upd_ne h10 (by decide))).up (Below.refl w'.heap.size w') | exact fun _ _ => rfl), (fun h11 => by first | exact (f11 (upd_ne h11 (by decide))).up (Below.refl w'.heap.size w') | exact fun _ _ => rfl), (fun h12 => by first | exact (f12 (upd_ne h12 (by decide))).up (Below.refl w'.heap.size w') | exact fun _ _ => rfl), (fun h13 => by first | exact (f13 (upd_ne h13 (by decide))).up (Below.refl w'.heap.size w') | exact fun _ _ => rfl), (fun _ => fun _ _ => rfl)⟩
              case he65 =>
                rintro d ⟨x65, x66, x67, x68, x69, x70, x71, x72, x73, x74, x75, x76, x77, x78, x79⟩ w' hall hI
                dsimp only at hI
                obtain ⟨hB, f0, f1, f2, f3, f4, f5, f6, f7, f8, f9, f10, f11, f12, f13, f14⟩ := hI
                obtain rfl := (f14 (hall 14 (by decide))).now
                have HB' : Hid _ := hB
                clear hall hB f0 f1 f2 f3 f4 f5 f6 f7 f8 f9 f10 f11 f12 f13 f14
                dsimp only
                go_wp2_with fail
                go_ret2
                exact ⟨.inr (.inr ⟨HZ.out, O, _, HSO.out, rfl, Rds.below HRV.out HB'.out⟩), HBV.out.trans (HB'.out.mono HBV.out.size)⟩
            · have hy : (byts O == l) = false := beq_eq_false_iff_ne.2 hbl
              have HNO : Hid ((fnl l).2.2 = none) := by
                show _ = _
                cases hf : (fnl l).2.2 with
                | none => rfl
                | some ts =>
                  obtain ⟨h1, _, h3⟩ := (HBO2.out ts).1 hf
                  obtain ⟨rfl, _⟩ := Prod.mk.inj h1
                  exact absurd h3 hbl
              clear hgl hll1 kB
              go_wp2_with fail
              refine wp_region_invF (β := Value × Value × Value × Value × Value × Value × Value × Value × Value × Value × Value × Value × Value × Value × Value) (fun a0 xq => (((((((((((((((a0.put (some 65) (xq.1)).put (some 66) (xq.2.1)).put (some 67) (xq.2.2.1)).put (some 68) (xq.2.2.2.1)).put (some 69) (xq.2.2.2.2.1)).put (some 70) (xq.2.2.2.2.2.1)).put (some 71) (xq.2.2.2.2.2.2.1)).put (some 72) (xq.2.2.2.2.2.2.2.1)).put (some 73) (xq.2.2.2.2.2.2.2.2.1)).put (some 74) (xq.2.2.2.2.2.2.2.2.2.1)).put (some 75) (xq.2.2.2.2.2.2.2.2.2.2.1)).put (some 76) (xq.2.2.2.2.2.2.2.2.2.2.2.1)).put (some 77) (xq.2.2.2.2.2.2.2.2.2.2.2.2.1)).put (some 78) (xq.2.2.2.2.2.2.2.2.2.2.2.2.2.1)).put (some 79) (xq.2.2.2.2.2.2.2.2.2.2.2.2.2.2))) ?fr165 (fun xq d w' => Below V.heap.size V w' ∧ (d 0 = true → Evr w' (fun _ => (xq.1) = .bool true)) ∧ (d 1 = true → Evr w' (fun _ => (xq.2.1) = .bool false)) ∧ (d 2 = true → Evr w' (fun _ => (xq.2.2.1) = .bool false)) ∧ (d 3 = true → Evr w' (fun _ => (xq.2.2.2.1) = .slice a6 n6 c6)) ∧ (d 4 = true → Evr w' (fun _ => (xq.2.2.2.2.1) = .int .i64 (n6 : Int))) ∧ (d 5 = true → Evr w' (fun _ => (xq.2.2.2.2.2.1) = .bool false)) ∧ (d 6 = true → Evr w' (fun _ => (xq.2.2.2.2.2.2.1) = .bool false)) ∧ (d 7 = true → Evr w' (fun _ => (xq.2.2.2.2.2.2.2.1) = .bool false)) ∧ (d 8 = true → Evr w' (fun _ => (xq.2.2.2.2.2.2.2.2.1) = .slice a6 n6 c6)) ∧ (d 9 = true → Evr w' (fun X => ∃ ra rl rc, (xq.2.2.2.2.2.2.2.2.2.1) = .slice ra rl rc ∧ Reads X (.slice ra rl rc) (byts O))) ∧ (d 10 = true → Evr w' (fun _ => (xq.2.2.2.2.2.2.2.2.2.2.1) = .string ⟨(byts O).toArray⟩)) ∧ (d 11 = true → Evr w' (fun _ => (xq.2.2.2.2.2.2.2.2.2.2.2.1) = .slice ao n cap)) ∧ (d 12 = true → Evr w' (fun _ => (xq.2.2.2.2.2.2.2.2.2.2.2.2.1) = .string ⟨l.toArray⟩)) ∧ (d 13 = true → Evr w' (fun _ => (xq.2.2.2.2.2.2.2.2.2.2.2.2.2.1) = .bool true)) ∧ (d 14 = true → Evr w' (fun _ => (xq.2.2.2.2.2.2.2.2.2.2.2.2.2.2) = .bool true))) ?lay165 mixed (by kernel_rfl) ?h0165 ?hs165 ?he165
              case lay165 =>
                intro xq
                simp only [Act.put, List.setIfInBounds_toArray, List.set_cons_zero, List.set_cons_succ]
                rfl
              case h0165 => exact ⟨(undef, undef, undef, undef, undef, undef, undef, undef, undef, undef, undef, undef, undef, undef, undef), rfl, below_dN (Below.refl _ _) 1, (fun h => by cases h), (fun h => by cases h), (fun h => by cases h), (fun h => by cases h), (fun h => by cases h), (fun h => by cases h), (fun h => by cases h), (fun h => by cases h), (fun h => by cases h), (fun h => by cases h), (fun h => by cases h), (fun h => by cases h), (fun h => by cases h), (fun h => by cases h), (fun h => by cases h)⟩
              case hs165 =>
                refine ⟨?_, ?_, ?_, ?_, ?_, ?_, ?_, ?_, ?_, ?_, ?_, ?_, ?_, ?_, ?_, trivial⟩
                · rintro d ⟨x65, x66, x67, x68, x69, x70, x71, x72, x73, x74, x75, x76, x77, x78, x79⟩ w' hI hd hdp K hK
                  dsimp only at hI
                  obtain ⟨hB, f0, f1, f2, f3, f4, f5, f6, f7, f8, f9, f10, f11, f12, f13, f14⟩ := hI
                  skip
                  have HF : Hid _ := (And.intro hd (And.intro hB (And.intro f0 (And.intro f1 (And.intro f2 (And.intro f3 (And.intro f4 (And.intro f5 (And.intro f6 (And.intro f7 (And.intro f8 (And.intro f9 (And.intro f10 (And.intro f11 (And.intro f12 (And.intro f13 f14))))))))))))))))
                  clear f0 f1 f2 f3 f4 f5 f6 f7 f8 f9 f10 f11 f12 f13 f14 hB hdp hd
                  refine Opn.mk ?_
                  dsimp only
                  go_simp
                  obtain ⟨hd, hB, f0, f1, f2, f3, f4, f5, f6, f7, f8, f9, f10, f11, f12, f13, f14⟩ := HF.out
                  exact hK.out (.bool true, x66, x67, x68, x69, x70, x71, x72, x73, x74, x75, x76, x77, x78, x79) _ ⟨hB.trans (Below.mono (Below.refl w'.heap.size w') hB.size), (fun _ => fun _ _ => rfl), (fun h1 => by first | exact (f1 (upd_ne h1 (by decide))).up (Below.refl w'.heap.size w') | exact fun _ _ => rfl), (fun h2 => by first | exact (f2 (upd_ne h2 (by decide))).up (Below.refl w'.heap.size w') | exact fun _ _ => rfl), (fun h3 => by first | exact (f3 (upd_ne h3 (by decide))).up (Below.refl w'.heap.size w') | exact fun _ _ => rfl), (fun h4 => by first | exact (f4 (upd_ne h4 (by decide))).up (Below.refl w'.heap.size w') | exact fun _ _ => rfl), (fun h5 => by first | exact (f5 (upd_ne h5 (by decide))).up (Below.refl w'.heap.size w') | exact fun _ _ => rfl), (fun h6 => by first | exact (f6 (upd_ne h6 (by decide))).up (Below.refl w'.heap.size w') | exact fun _ _ => rfl), (fun h7 => by first | exact (f7 (upd_ne h7 (by decide))).up (Below.refl w'.heap.size w') | exact fun _ _ => rfl), (fun h8 => by first | exact (f8 (upd_ne h8 (by decide))).up (Below.refl w'.heap.size w') | exact fun _ _ => rfl), (fun h9 => by first | exact (f9 (upd_ne h9 (by decide))).up (Below.refl w'.heap.size w') | exact fun _ _ => rfl), (fun h10 => by first | exact (f10 (upd_ne h10 (by decide))).up (Below.refl w'.heap.size w') | exact fun _ _ => rfl), (fun h11 => by first | exact (f11 (upd_ne h11 (by decide))).up (Below.refl w'.heap.size w') | exact fun _ _ => rfl), (fun h12 => by first | exact (f12 (upd_ne h12 (by decide))).up (Below.refl w'.heap.size w') | exact fun _ _ => rfl), (fun h13 => by first | exact (f13 (upd_ne h13 (by decide))).up (Below.refl w'.heap.size w') | exact fun _ _ => rfl), (fun h14 => by first | exact (f14 (upd_ne h14 (by decide))).up (Below.refl w'.heap.size w') | exact fun _ _ => rfl)⟩
                · rintro d ⟨x65, x66, x67, x68, x69, x70, x71, x72, x73, x74, x75, x76, x77, x78, x79⟩ w' hI hd hdp K hK
                  dsimp only at hI
                  obtain ⟨hB, f0, f1, f2, f3, f4, f5, f6, f7, f8, f9, f10, f11, f12, f13, f14⟩ := hI
                  obtain rfl := (f0 (hdp 0 (by decide +kernel))).now
                  have HF : Hid _ := (And.intro hd (And.intro hB (And.intro f0 (And.intro f1 (And.intro f2 (And.intro f3 (And.intro f4 (And.intro f5 (And.intro f6 (And.intro f7 (And.intro f8 (And.intro f9 (And.intro f10 (And.intro f11 (And.intro f12 (And.intro f13 f14))))))))))))))))
                  clear f0 f1 f2 f3 f4 f5 f6 f7 f8 f9 f10 f11 f12 f13 f14 hB hdp hd
                  refine Opn.mk ?_
                  dsimp only
                  go_simp
                  obtain ⟨hd, hB, f0, f1, f2, f3, f4, f5, f6, f7, f8, f9, f10, f11, f12, f13, f14⟩ := HF.out
                  exact hK.out (.bool true, .bool false, x67, x68, x69, x70, x71, x72, x73, x74, x75, x76, x77, x78, x79) _ ⟨hB.trans (Below.mono (Below.refl w'.heap.size w') hB.size), (fun h0 => by first | exact (f0 (upd_ne h0 (by decide))).up (Below.refl w'.heap.size w') | exact fun _ _ => rfl), (fun _ => fun _ _ => rfl), (fun h2 => by first | exact (f2 (upd_ne h2 (by decide))).up (Below.refl w'.heap.size w') | exact fun _ _ => rfl), (fun h3 => by first | exact (f3 (upd_ne h3 (by decide))).up (Below.refl w'.heap.size w') | exact fun _ _ => rfl), (fun h4 => by first | exact (f4 (upd_ne h4 (by decide))).up (Below.refl w'.heap.size w') | exact fun _ _ => rfl), (fun h5 => by first | exact (f5 (upd_ne h5 (by decide))).up (Below.refl w'.heap.size w') | exact fun _ _ => rfl), (fun h6 => by first | exact (f6 (upd_ne h6 (by decide))).up (Below.refl w'.heap.size w') | exact fun _ _ => rfl), (fun h7 => by first | exact (f7 (upd_ne h7 (by decide))).up (Below.refl w'.heap.size w') | exact fun _ _ => rfl), (fun h8 => by first | exact (f8 (upd_ne h8 (by decide))).up (Below.refl w'.heap.size w') | exact fun _ _ => rfl), (fun h9 => by first | exact (f9 (upd_ne h9 (by decide))).up (Below.refl w'.heap.size w') | exact fun _ _ => rfl), (fun h10 => by first | exact (f10 (upd_ne h10 (by decide))).up (Below.refl w'.heap.size w') | exact fun _ _ => rfl), (fun h11 => by first | exact (f11 (upd_ne h11 (by decide))).up (Below.refl w'.heap.size w') | exact fun _ _ => rfl), (fun h12 => by first | exact (f12 (upd_ne h12 (by decide))).up (Below.refl w'.heap.size w') | exact fun _ _ => rfl), (fun h13 => by first | exact (f13 (upd_ne h13 (by decide))).up (Below.refl w'.heap.size w') | exact fun _ _ => rfl), (fun h14 => by first | exact (f14 (upd_ne h14 (by decide))).up (Below.refl w'.heap.size w') | exact fun _ _ => rfl)⟩
                · rintro d ⟨x65, x66, x67, x68, x69, x70, x71, x72, x73, x74, x75, x76, x77, x78, x79⟩ w' hI hd hdp K hK
                  dsimp only at hI
                  obtain ⟨hB, f0, f1, f2, f3, f4, f5, f6, f7, f8, f9, f10, f11, f12, f13, f14⟩ := hI
                  obtain rfl := (f1 (hdp 1 (by decide +kernel))).now
                  have HF : Hid _ := (And.intro hd (And.intro hB (And.intro f0 (And.intro f1 (And.intro f2 (And.intro f3 (And.intro f4 (And.intro f5 (And.intro f6 (And.intro f7 (And.intro f8 (And.intro f9 (And.intro f10 (And.intro f11 (And.intro f12 (And.intro f13 f14))))))))))))))))
                  clear f0 f1 f2 f3 f4 f5 f6 f7 f8 f9 f10 f11 f12 f13 f14 hB hdp hd
                  refine Opn.mk ?_
                  dsimp only
                  go_simp
                  obtain ⟨hd, hB, f0, f1, f2, f3, f4, f5, f6, f7, f8, f9, f10, f11, f12, f13, f14⟩ := HF.out
                  exact hK.out (x65, .bool false, .bool false, x68, x69, x70, x71, x72, x73, x74, x75, x76, x77, x78, x79) _ ⟨hB.trans (Below.mono (Below.refl w'.heap.size w') hB.size), (fun h0 => by first | exact (f0 (upd_ne h0 (by decide))).up (Below.refl w'.heap.size w') | exact fun _ _ => rfl), (fun h1 => by first | exact (f1 (upd_ne h1 (by decide))).up (Below.refl w'.heap.size w') | exact fun _ _ => rfl), (fun _ => fun _ _ => rfl), (fun h3 => by first | exact (f3 (upd_ne h3 (by decide))).up (Below.refl w'.heap.size w') | exact fun _ _ => rfl), (fun h4 => by first | exact (f4 (upd_ne h4 (by decide))).up (Below.refl w'.heap.size w') | exact fun _ _ => rfl), (fun h5 => by first | exact (f5 (upd_ne h5 (by decide))).up (Below.refl w'.heap.size w') | exact fun _ _ => rfl), (fun h6 => by first | exact (f6 (upd_ne h6 (by decide))).up (Below.refl w'.heap.size w') | exact fun _ _ => rfl), (fun h7 => by first | exact (f7 (upd_ne h7 (by decide))).up (Below.refl w'.heap.size w') | exact fun _ _ => rfl), (fun h8 => by first | exact (f8 (upd_ne h8 (by decide))).up (Below.refl w'.heap.size w') | exact fun _ _ => rfl), (fun h9 => by first | exact (f9 (upd_ne h9 (by decide))).up (Below.refl w'.heap.size w') | exact fun _ _ => rfl), (fun h10 => by first | exact (f10 (upd_ne h10 (by decide))).up (Below.refl w'.heap.size w') | exact fun _ _ => rfl), (fun h11 => by first | exact (f11 (upd_ne h11 (by decide))).up (Below.refl w'.heap.size w') | exact fun _ _ => rfl), (fun h12 => by first | exact (f12 (upd_ne h12 (by decide))).up (Below.refl w'.heap.size w') | exact fun _ _ => rfl), (fun h13 => by first | exact (f13 (upd_ne h13 (by decide))).up (Below.refl w'.heap.size w') | exact fun _ _ => rfl), (fun h14 => by first | exact (f14 (upd_ne h14 (by decide))).up (Below.refl w'.heap.size w') | exact fun _ _ => rfl)⟩
                · rintro d ⟨x65, x66, x67, x68, x69, x70, x71, x72, x73, x74, x75, x76, x77, x78, x79⟩ w' hI hd hdp K hK
                  dsimp only at hI
                  obtain ⟨hB, f0, f1, f2, f3, f4, f5, f6, f7, f8, f9, f10, f11, f12, f13, f14⟩ := hI
                  obtain rfl := (f2 (hdp 2 (by decide +kernel))).now
                  have HF : Hid _ := (And.intro hd (And.intro hB (And.intro f0 (And.intro f1 (And.intro f2 (And.intro f3 (And.intro f4 (And.intro f5 (And.intro f6 (And.intro f7 (And.intro f8 (And.intro f9 (And.intro f10 (And.intro f11 (And.intro f12 (And.intro f13 f14))))))))))))))))
                  clear f0 f1 f2 f3 f4 f5 f6 f7 f8 f9 f10 f11 f12 f13 f14 hB hdp hd
                  refine Opn.mk ?_
                  dsimp only
                  go_simp
                  obtain ⟨hd, hB, f0, f1, f2, f3, f4, f5, f6, f7, f8, f9, f10, f11, f12, f13, f14⟩ := HF.out
                  exact hK.out (x65, x66, .bool false, .slice a6 n6 c6, x69, x70, x71, x72, x73, x74, x75, x76, x77, x78, x79) _ ⟨hB.trans (Below.mono (Below.refl w'.heap.size w') hB.size), (fun h0 => by first | exact (f0 (upd_ne h0 (by decide))).up (Below.refl w'.heap.size w') | exact fun _ _ => rfl), (fun h1 => by first | exact (f1 (upd_ne h1 (by decide))).up (Below.refl w'.heap.size w') | exact fun _ _ => rfl), (fun h2 => by first | exact (f2 (upd_ne h2 (by decide))).up (Below.refl w'.heap.size w') | exact fun _ _ => rfl), (fun _ => fun _ _ => rfl), (fun h4 => by first | exact (f4 (upd_ne h4 (by decide))).up (Below.refl w'.heap.size w') | exact fun _ _ => rfl), (fun h5 => by first | exact (f5 (upd_ne h5 (by decide))).up (Below.refl w'.heap.size w') | exact fun _ _ => rfl), (fun h6 => by first | exact (f6 (upd_ne h6 (by decide))).up (Below.refl w'.heap.size w') | exact fun _ _ => rfl), (fun h7 => by first | exact (f7 (upd_ne h7 (by decide))).up (Below.refl w'.heap.size w') | exact fun _ _ => rfl), (fun h8 => by first | exact (f8 (upd_ne h8 (by decide))).up (Below.refl w'.heap.size w') | exact fun _ _ => rfl), (fun h9 => by first | exact (f9 (upd_ne h9 (by decide))).up (Below.refl w'.heap.size w') | exact fun _ _ => rfl), (fun h10 => by first | exact (f10 (upd_ne h10 (by decide))).up (Below.refl w'.heap.size w') | exact fun _ _ => rfl), (fun h11 => by first | exact (f11 (upd_ne h11 (by decide))).up (Below.refl w'.heap.size w') | exact fun _ _ => rfl), (fun h12 => by first | exact (f12 (upd_ne h12 (by decide))).up (Below.refl w'.heap.size w') | exact fun _ _ => rfl), (fun h13 => by first | exact (f13 (upd_ne h13 (by decide))).up (Below.refl w'.heap.size w') | exact fun _ _ => rfl), (fun h14 => by first | exact (f14 (upd_ne h14 (by decide))).up (Below.refl w'.heap.size w') | exact fun _ _ => rfl)⟩
                · rintro d ⟨x65, x66, x67, x68, x69, x70, x71, x72, x73, x74, x75, x76, x77, x78, x79⟩ w' hI hd hdp K hK
                  dsimp only at hI
                  obtain ⟨hB, f0, f1, f2, f3, f4, f5, f6, f7, f8, f9, f10, f11, f12, f13, f14⟩ := hI
                  obtain rfl := (f3 (hdp 3 (by decide +kernel))).now
                  obtain rfl := (f2 (hdp 2 (by decide +kernel))).now
                  have HF : Hid _ := (And.intro hd (And.intro hB (And.intro f0 (And.intro f1 (And.intro f2 (And.intro f3 (And.intro f4 (And.intro f5 (And.intro f6 (And.intro f7 (And.intro f8 (And.intro f9 (And.intro f10 (And.intro f11 (And.intro f12 (And.intro f13 f14))))))))))))))))
                  clear f0 f1 f2 f3 f4 f5 f6 f7 f8 f9 f10 f11 f12 f13 f14 hB hdp hd
                  refine Opn.mk ?_
                  dsimp only
                  go_simp
                  obtain ⟨hd, hB, f0, f1, f2, f3, f4, f5, f6, f7, f8, f9, f10, f11, f12, f13, f14⟩ := HF.out
                  exact hK.out (x65, x66, .bool false, .slice a6 n6 c6, .int .i64 (n6 : Int), x70, x71, x72, x73, x74, x75, x76, x77, x78, x79) _ ⟨hB.trans (Below.mono (Below.refl w'.heap.size w') hB.size), (fun h0 => by first | exact (f0 (upd_ne h0 (by decide))).up (Below.refl w'.heap.size w') | exact fun _ _ => rfl), (fun h1 => by first | exact (f1 (upd_ne h1 (by decide))).up (Below.refl w'.heap.size w') | exact fun _ _ => rfl), (fun h2 => by first | exact (f2 (upd_ne h2 (by decide))).up (Below.refl w'.heap.size w') | exact fun _ _ => rfl), (fun h3 => by first | exact (f3 (upd_ne h3 (by decide))).up (Below.refl w'.heap.size w') | exact fun _ _ => rfl), (fun _ => fun _ _ => rfl), (fun h5 => by first | exact (f5 (upd_ne h5 (by decide))).up (Below.refl w'.heap.size w') | exact fun _ _ => rfl), (fun h6 => by first | exact (f6 (upd_ne h6 (by decide))).up (Below.refl w'.heap.size w') | exact fun _ _ => rfl), (fun h7 => by first | exact (f7 (upd_ne h7 (by decide))).up (Below.refl w'.heap.size w') | exact fun _ _ => rfl), (fun h8 => by first | exact (f8 (upd_ne h8 (by decide))).up (Below.refl w'.heap.size w') | exact fun _ _ => rfl), (fun h9 => by first | exact (f9 (upd_ne h9 (by decide))).up (Below.refl w'.heap.size w') | exact fun _ _ => rfl), (fun h10 => by first | exact (f10 (upd_ne h10 (by decide))).up (Below.refl w'.heap.size w') | exact fun _ _ => rfl), (fun h11 => by first | exact (f11 (upd_ne h11 (by decide))).up (Below.refl w'.heap.size w') | exact fun _ _ => rfl), (fun h12 => by first | exact (f12 (upd_ne h12 (by decide))).up (Below.refl w'.heap.size w') | exact fun _ _ => rfl), (fun h13 => by first | exact (f13 (upd_ne h13 (by decide))).up (Below.refl w'.heap.size w') | exact fun _ _ => rfl), (fun h14 => by first | exact (f14 (upd_ne h14 (by decide))).up (Below.refl w'.heap.size w') | exact fun _ _ => rfl)⟩
                · rintro d ⟨x65, x66, x67, x68, x69, x70, x71, x72, x73, x74, x75, x76, x77, x78, x79⟩ w' hI hd hdp K hK
                  dsimp only at hI
                  obtain ⟨hB, f0, f1, f2, f3, f4, f5, f6, f7, f8, f9, f10, f11, f12, f13, f14⟩ := hI
                  obtain rfl := (f4 (hdp 4 (by decide +kernel))).now
                  obtain rfl := (f2 (hdp 2 (by decide +kernel))).now
                  have HF : Hid _ := (And.intro hd (And.intro hB (And.intro f0 (And.intro f1 (And.intro f2 (And.intro f3 (And.intro f4 (And.intro f5 (And.intro f6 (And.intro f7 (And.intro f8 (And.intro f9 (And.intro f10 (And.intro f11 (And.intro f12 (And.intro f13 f14))))))))))))))))
                  clear f0 f1 f2 f3 f4 f5 f6 f7 f8 f9 f10 f11 f12 f13 f14 hB hdp hd
                  refine Opn.mk ?_
                  dsimp only
                  go_simp
                  obtain ⟨hd, hB, f0, f1, f2, f3, f4, f5, f6, f7, f8, f9, f10, f11, f12, f13, f14⟩ := HF.out
                  exact hK.out (x65, x66, .bool false, x68, .int .i64 (n6 : Int), .bool false, x71, x72, x73, x74, x75, x76, x77, x78, x79) _ ⟨hB.trans (Below.mono (Below.refl w'.heap.size w') hB.size), (fun h0 => by first | exact (f0 (upd_ne h0 (by decide))).up (Below.refl w'.heap.size w') | exact fun _ _ => rfl), (fun h1 => by first | exact (f1 (upd_ne h1 (by decide))).up (Below.refl w'.heap.size w') | exact fun _ _ => rfl), (fun h2 => by first | exact (f2 (upd_ne h2 (by decide))).up (Below.refl w'.heap.size w') | exact fun _ _ => rfl), (fun h3 => by first | exact (f3 (upd_ne h3 (by decide))).up (Below.refl w'.heap.size w') | exact fun _ _ => rfl), (fun h4 => by first | exact (f4 (upd_ne h4 (by decide))).up (Below.refl w'.heap.size w') | exact fun _ _ => rfl), (fun _ => fun _ _ => rfl), (fun h6 => by first | exact (f6 (upd_ne h6 (by decide))).up (Below.refl w'.heap.size w') | exact fun _ _ => rfl), (fun h7 => by first | exact (f7 (upd_ne h7 (by decide))).up (Below.refl w'.heap.size w') | exact fun _ _ => rfl), (fun h8 => by first | exact (f8 (upd_ne h8 (by decide))).up (Below.refl w'.heap.size w') | exact fun _ _ => rfl), (fun h9 => by first | exact (f9 (upd_ne h9 (by decide))).up (Below.refl w'.heap.size w') | exact fun _ _ => rfl), (fun h10 => by first | exact (f10 (upd_ne h10 (by decide))).up (Below.refl w'.heap.size w') | exact fun _ _ => rfl), (fun h11 => by first | exact (f11 (upd_ne h11 (by decide))).up (Below.refl w'.heap.size w') | exact fun _ _ => rfl), (fun h12 => by first | exact (f12 (upd_ne h12 (by decide))).up (Below.refl w'.heap.size w') | exact fun _ _ => rfl), (fun h13 => by first | exact (f13 (upd_ne h13 (by decide))).up (Below.refl w'.heap.size w') | exact fun _ _ => rfl), (fun h14 => by first | exact (f14 (upd_ne h14 (by decide))).up (Below.refl w'.heap.size w') | exact fun _ _ => rfl)⟩
                · rintro d ⟨x65, x66, x67, x68, x69, x70, x71, x72, x73, x74, x75, x76, x77, x78, x79⟩ w' hI hd hdp K hK
                  dsimp only at hI
                  obtain ⟨hB, f0, f1, f2, f3, f4, f5, f6, f7, f8, f9, f10, f11, f12, f13, f14⟩ := hI
                  obtain rfl := (f2 (hdp 2 (by decide +kernel))).now
                  obtain rfl := (f5 (hdp 5 (by decide +kernel))).now
                  have HF : Hid _ := (And.intro hd (And.intro hB (And.intro f0 (And.intro f1 (And.intro f2 (And.intro f3 (And.intro f4 (And.intro f5 (And.intro f6 (And.intro f7 (And.intro f8 (And.intro f9 (And.intro f10 (And.intro f11 (And.intro f12 (And.intro f13 f14))))))))))))))))
                  clear f0 f1 f2 f3 f4 f5 f6 f7 f8 f9 f10 f11 f12 f13 f14 hB hdp hd
                  refine Opn.mk ?_
                  dsimp only
                  go_simp
                  obtain ⟨hd, hB, f0, f1, f2, f3, f4, f5, f6, f7, f8, f9, f10, f11, f12, f13, f14⟩ := HF.out
                  exact hK.out (x65, x66, .bool false, x68, x69, .bool false, .bool false, x72, x73, x74, x75, x76, x77, x78, x79) _ ⟨hB.trans (Below.mono (Below.refl w'.heap.size w') hB.size), (fun h0 => by first | exact (f0 (upd_ne h0 (by decide))).up (Below.refl w'.heap.size w') | exact fun _ _ => rfl), (fun h1 => by first | exact (f1 (upd_ne h1 (by decide))).up (Below.refl w'.heap.size w') | exact fun _ _ => rfl), (fun h2 => by first | exact (f2 (upd_ne h2 (by decide))).up (Below.refl w'.heap.size w') | exact fun _ _ => rfl), (fun h3 => by first | exact (f3 (upd_ne h3 (by decide))).up (Below.refl w'.heap.size w') | exact fun _ _ => rfl), (fun h4 => by first | exact (f4 (upd_ne h4 (by decide))).up (Below.refl w'.heap.size w') | exact fun _ _ => rfl), (fun h5 => by first | exact (f5 (upd_ne h5 (by decide))).up (Below.refl w'.heap.size w') | exact fun _ _ => rfl), (fun _ => fun _ _ => rfl), (fun h7 => by first | exact (f7 (upd_ne h7 (by decide))).up (Below.refl w'.heap.size w') | exact fun _ _ => rfl), (fun h8 => by first | exact (f8 (upd_ne h8 (by decide))).up (Below.refl w'.heap.size w') | exact fun _ _ => rfl), (fun h9 => by first | exact (f9 (upd_ne h9 (by decide))).up (Below.refl w'.heap.size w') | exact fun _ _ => rfl), (fun h10 => by first | exact (f10 (upd_ne h10 (by decide))).up (Below.refl w'.heap.size w') | exact fun _ _ => rfl), (fun h11 => by first | exact (f11 (upd_ne h11 (by decide))).up (Below.refl w'.heap.size w') | exact fun _ _ => rfl), (fun h12 => by first | exact (f12 (upd_ne h12 (by decide))).up (Below.refl w'.heap.size w') | exact fun _ _ => rfl), (fun h13 => by first | exact (f13 (upd_ne h13 (by decide))).up (Below.refl w'.heap.size w') | exact fun _ _ => rfl), (fun h14 => by first | exact (f14 (upd_ne h14 (by decide))).up (Below.refl w'.heap.size w') | exact fun _ _ => rfl)⟩
                · rintro d ⟨x65, x66, x67, x68, x69, x70, x71, x72, x73, x74, x75, x76, x77, x78, x79⟩ w' hI hd hdp K hK
                  dsimp only at hI
                  obtain ⟨hB, f0, f1, f2, f3, f4, f5, f6, f7, f8, f9, f10, f11, f12, f13, f14⟩ := hI
                  obtain rfl := (f6 (hdp 6 (by decide +kernel))).now
                  have HF : Hid _ := (And.intro hd (And.intro hB (And.intro f0 (And.intro f1 (And.intro f2 (And.intro f3 (And.intro f4 (And.intro f5 (And.intro f6 (And.intro f7 (And.intro f8 (And.intro f9 (And.intro f10 (And.intro f11 (And.intro f12 (And.intro f13 f14))))))))))))))))
                  clear f0 f1 f2 f3 f4 f5 f6 f7 f8 f9 f10 f11 f12 f13 f14 hB hdp hd
                  refine Opn.mk ?_
                  dsimp only
                  go_simp
                  obtain ⟨hd, hB, f0, f1, f2, f3, f4, f5, f6, f7, f8, f9, f10, f11, f12, f13, f14⟩ := HF.out
                  exact hK.out (x65, x66, x67, x68, x69, x70, .bool false, .bool false, x73, x74, x75, x76, x77, x78, x79) _ ⟨hB.trans (Below.mono (Below.refl w'.heap.size w') hB.size), (fun h0 => by first | exact (f0 (upd_ne h0 (by decide))).up (Below.refl w'.heap.size w') | exact fun _ _ => rfl), (fun h1 => by first | exact (f1 (upd_ne h1 (by decide))).up (Below.refl w'.heap.size w') | exact fun _ _ => rfl), (fun h2 => by first | exact (f2 (upd_ne h2 (by decide))).up (Below.refl w'.heap.size w') | exact fun _ _ => rfl), (fun h3 => by first | exact (f3 (upd_ne h3 (by decide))).up (Below.refl w'.heap.size w') | exact fun _ _ => rfl), (fun h4 => by first | exact (f4 (upd_ne h4 (by decide))).up (Below.refl w'.heap.size w') | exact fun _ _ => rfl), (fun h5 => by first | exact (f5 (upd_ne h5 (by decide))).up (Below.refl w'.heap.size w') | exact fun _ _ => rfl), (fun h6 => by first | exact (f6 (upd_ne h6 (by decide))).up (Below.refl w'.heap.size w') | exact fun _ _ => rfl), (fun _ => fun _ _ => rfl), (fun h8 => by first | exact (f8 (upd_ne h8 (by decide))).up (Below.refl w'.heap.size w') | exact fun _ _ => rfl), (fun h9 => by first | exact (f9 (upd_ne h9 (by decide))).up (Below.refl w'.heap.size w') | exact fun _ _ => rfl), (fun h10 => by first | exact (f10 (upd_ne h10 (by decide))).up (Below.refl w'.heap.size w') | exact fun _ _ => rfl), (fun h11 => by first | exact (f11 (upd_ne h11 (by decide))).up (Below.refl w'.heap.size w') | exact fun _ _ => rfl), (fun h12 => by first | exact (f12 (upd_ne h12 (by decide))).up (Below.refl w'.heap.size w') | exact fun _ _ => rfl), (fun h13 => by first | exact (f13 (upd_ne h13 (by decide))).up (Below.refl w'.heap.size w') | exact fun _ _ => rfl), (fun h14 => by first | exact (f14 (upd_ne h14 (by decide))).up (Below.refl w'.heap.size w') | exact fun _ _ => rfl)⟩
                · rintro d ⟨x65, x66, x67, x68, x69, x70, x71, x72, x73, x74, x75, x76, x77, x78, x79⟩ w' hI hd hdp K hK
                  dsimp only at hI
                  obtain ⟨hB, f0, f1, f2, f3, f4, f5, f6, f7, f8, f9, f10, f11, f12, f13, f14⟩ := hI
                  obtain rfl := (f7 (hdp 7 (by decide +kernel))).now
                  have HF : Hid _ := (And.intro hd (And.intro hB (And.intro f0 (And.intro f1 (And.intro f2 (And.intro f3 (And.intro f4 (And.intro f5 (And.intro f6 (And.intro f7 (And.intro f8 (And.intro f9 (And.intro f10 (And.intro f11 (And.intro f12 (And.intro f13 f14))))))))))))))))
                  clear f0 f1 f2 f3 f4 f5 f6 f7 f8 f9 f10 f11 f12 f13 f14 hB hdp hd
                  refine Opn.mk ?_
                  dsimp only
                  go_simp
                  obtain ⟨hd, hB, f0, f1, f2, f3, f4, f5, f6, f7, f8, f9, f10, f11, f12, f13, f14⟩ := HF.out
                  exact hK.out (x65, x66, x67, x68, x69, x70, x71, .bool false, .slice a6 n6 c6, x74, x75, x76, x77, x78, x79) _ ⟨hB.trans (Below.mono (Below.refl w'.heap.size w') hB.size), (fun h0 => by first | exact (f0 (upd_ne h0 (by decide))).up (Below.refl w'.heap.size w') | exact fun _ _ => rfl), (fun h1 => by first | exact (f1 (upd_ne h1 (by decide))).up (Below.refl w'.heap.size w') | exact fun _ _ => rfl), (fun h2 => by first | exact (f2 (upd_ne h2 (by decide))).up (Below.refl w'.heap.size w') | exact fun _ _ => rfl), (fun h3 => by first | exact (f3 (upd_ne h3 (by decide))).up (Below.refl w'.heap.size w') | exact fun _ _ => rfl), (fun h4 => by first | exact (f4 (upd_ne h4 (by decide))).up (Below.refl w'.heap.size w') | exact fun _ _ => rfl), (fun h5 => by first | exact (f5 (upd_ne h5 (by decide))).up (Below.refl w'.heap.size w') | exact fun _ _ => rfl), (fun h6 => by first | exact (f6 (upd_ne h6 (by decide))).up (Below.refl w'.heap.size w') | exact fun _ _ => rfl), (fun h7 => by first | exact (f7 (upd_ne h7 (by decide))).up (Below.refl w'.heap.size w') | exact fun _ _ => rfl), (fun _ => fun _ _ => rfl), (fun h9 => by first | exact (f9 (upd_ne h9 (by decide))).up (Below.refl w'.heap.size w') | exact fun _ _ => rfl), (fun h10 => by first | exact (f10 (upd_ne h10 (by decide))).up (Below.refl w'.heap.size w') | exact fun _ _ => rfl), (fun h11 => by first | exact (f11 (upd_ne h11 (by decide))).up (Below.refl w'.heap.size w') | exact fun _ _ => rfl), (fun h12 => by first | exact (f12 (upd_ne h12 (by decide))).up (Below.refl w'.heap.size w') | exact fun _ _ => rfl), (fun h13 => by first | exact (f13 (upd_ne h13 (by decide))).up (Below.refl w'.heap.size w') | exact fun _ _ => rfl), (fun h14 => by first | exact (f14 (upd_ne h14 (by decide))).up (Below.refl w'.heap.size w') | exact fun _ _ => rfl)⟩
                · rintro d ⟨x65, x66, x67, x68, x69, x70, x71, x72, x73, x74, x75, x76, x77, x78, x79⟩ w' hI hd hdp K hK
                  dsimp only at hI
                  obtain ⟨hB, f0, f1, f2, f3, f4, f5, f6, f7, f8, f9, f10, f11, f12, f13, f14⟩ := hI
                  obtain rfl := (f8 (hdp 8 (by decide +kernel))).now
                  obtain rfl := (f7 (hdp 7 (by decide +kernel))).now
                  have kk := refbytes_any w' _ O (Rds.below HRV.out hB) HLE.out HGL.out
                  have HF : Hid _ := (And.intro hd (And.intro hB (And.intro f0 (And.intro f1 (And.intro f2 (And.intro f3 (And.intro f4 (And.intro f5 (And.intro f6 (And.intro f7 (And.intro f8 (And.intro f9 (And.intro f10 (And.intro f11 (And.intro f12 (And.intro f13 f14))))))))))))))))
                  clear f0 f1 f2 f3 f4 f5 f6 f7 f8 f9 f10 f11 f12 f13 f14 hB hdp hd
                  refine Opn.mk ?_
                  dsimp only
                  go_simp
                  go_wp2_with (first | (go_at_call 29; with_reducible refine kk.mono ?_; rintro e5 w5 ⟨v5, rfl, o5, b5⟩; obtain ⟨ra5, rl5, rc5, rfl⟩ := o5.reads.sl))
                  obtain ⟨hd, hB, f0, f1, f2, f3, f4, f5, f6, f7, f8, f9, f10, f11, f12, f13, f14⟩ := HF.out
                  exact hK.out (x65, x66, x67, x68, x69, x70, x71, .bool false, .slice a6 n6 c6, .slice ra5 rl5 rc5, x75, x76, x77, x78, x79) _ ⟨hB.trans (Below.mono (b5) hB.size), (fun h0 => by first | exact (f0 (upd_ne h0 (by decide))).up (b5) | exact fun _ _ => rfl), (fun h1 => by first | exact (f1 (upd_ne h1 (by decide))).up (b5) | exact fun _ _ => rfl), (fun h2 => by first | exact (f2 (upd_ne h2 (by decide))).up (b5) | exact fun _ _ => rfl), (fun h3 => by first | exact (f3 (upd_ne h3 (by decide))).up (b5) | exact fun _ _ => rfl), (fun h4 => by first | exact (f4 (upd_ne h4 (by decide))).up (b5) | exact fun _ _ => rfl), (fun h5 => by first | exact (f5 (upd_ne h5 (by decide))).up (b5) | exact fun _ _ => rfl), (fun h6 => by first | exact (f6 (upd_ne h6 (by decide))).up (b5) | exact fun _ _ => rfl), (fun h7 => by first | exact (f7 (upd_ne h7 (by decide))).up (b5) | exact fun _ _ => rfl), (fun h8 => by first | exact (f8 (upd_ne h8 (by decide))).up (b5) | exact fun _ _ => rfl), (fun _ => fun X bX => ⟨_, _, _, rfl, o5.reads.below bX⟩), (fun h10 => by first | exact (f10 (upd_ne h10 (by decide))).up (b5) | exact fun _ _ => rfl), (fun h11 => by first | exact (f11 (upd_ne h11 (by decide))).up (b5) | exact fun _ _ => rfl), (fun h12 => by first | exact (f12 (upd_ne h12 (by decide))).up (b5) | exact fun _ _ => rfl), (fun h13 => by first | exact (f13 (upd_ne h13 (by decide))).up (b5) | exact fun _ _ => rfl), (fun h14 => by first | exact (f14 (upd_ne h14 (by decide))).up (b5) | exact fun _ _ => rfl)⟩
                · rintro d ⟨x65, x66, x67, x68, x69, x70, x71, x72, x73, x74, x75, x76, x77, x78, x79⟩ w' hI hd hdp K hK
                  dsimp only at hI
                  obtain ⟨hB, f0, f1, f2, f3, f4, f5, f6, f7, f8, f9, f10, f11, f12, f13, f14⟩ := hI
                  obtain rfl := (f7 (hdp 7 (by decide +kernel))).now
                  obtain ⟨ra, rl, rc, e74, rr⟩ := (f9 (hdp 9 (by decide +kernel))).now
                  subst e74
                  have hcv := HL2.out w' _ rr
                  have HF : Hid _ := (And.intro hd (And.intro hB (And.intro f0 (And.intro f1 (And.intro f2 (And.intro f3 (And.intro f4 (And.intro f5 (And.intro f6 (And.intro f7 (And.intro f8 (And.intro f9 (And.intro f10 (And.intro f11 (And.intro f12 (And.intro f13 f14))))))))))))))))
                  clear f0 f1 f2 f3 f4 f5 f6 f7 f8 f9 f10 f11 f12 f13 f14 hB hdp hd
                  refine Opn.mk ?_
                  dsimp only
                  go_simp
                  obtain ⟨hd, hB, f0, f1, f2, f3, f4, f5, f6, f7, f8, f9, f10, f11, f12, f13, f14⟩ := HF.out
                  exact hK.out (x65, x66, x67, x68, x69, x70, x71, .bool false, x73, .slice ra rl rc, .string ⟨(byts O).toArray⟩, x76, x77, x78, x79) _ ⟨hB.trans (Below.mono (Below.refl w'.heap.size w') hB.size), (fun h0 => by first | exact (f0 (upd_ne h0 (by decide))).up (Below.refl w'.heap.size w') | exact fun _ _ => rfl), (fun h1 => by first | exact (f1 (upd_ne h1 (by decide))).up (Below.refl w'.heap.size w') | exact fun _ _ => rfl), (fun h2 => by first | exact (f2 (upd_ne h2 (by decide))).up (Below.refl w'.heap.size w') | exact fun _ _ => rfl), (fun h3 => by first | exact (f3 (upd_ne h3 (by decide))).up (Below.refl w'.heap.size w') | exact fun _ _ => rfl), (fun h4 => by first | exact (f4 (upd_ne h4 (by decide))).up (Below.refl w'.heap.size w') | exact fun _ _ => rfl), (fun h5 => by first | exact (f5 (upd_ne h5 (by decide))).up (Below.refl w'.heap.size w') | exact fun _ _ => rfl), (fun h6 => by first | exact (f6 (upd_ne h6 (by decide))).up (Below.refl w'.heap.size w') | exact fun _ _ => rfl), (fun h7 => by first | exact (f7 (upd_ne h7 (by decide))).up (Below.refl w'.heap.size w') | exact fun _ _ => rfl), (fun h8 => by first | exact (f8 (upd_ne h8 (by decide))).up (Below.refl w'.heap.size w') | exact fun _ _ => rfl), (fun h9 => by first | exact (f9 (upd_ne h9 (by decide))).up (Below.refl w'.heap.size w') | exact fun _ _ => rfl), (fun _ => fun _ _ => rfl), (fun h11 => by first | exact (f11 (upd_ne h11 (by decide))).up (Below.refl w'.heap.size w') | exact fun _ _ => rfl), (fun h12 => by first | exact (f12 (upd_ne h12 (by decide))).up (Below.refl w'.heap.size w') | exact fun _ _ => rfl), (fun h13 => by first | exact (f13 (upd_ne h13 (by decide))).up (Below.refl w'.heap.size w') | exact fun _ _ => rfl), (fun h14 => by first | exact (f14 (upd_ne h14 (by decide))).up (Below.refl w'.heap.size w') | exact fun _ _ => rfl)⟩
                · rintro d ⟨x65, x66, x67, x68, x69, x70, x71, x72, x73, x74, x75, x76, x77, x78, x79⟩ w' hI hd hdp K hK
                  dsimp only at hI
                  obtain ⟨hB, f0, f1, f2, f3, f4, f5, f6, f7, f8, f9, f10, f11, f12, f13, f14⟩ := hI
                  obtain rfl := (f7 (hdp 7 (by decide +kernel))).now
                  have HF : Hid _ := (And.intro hd (And.intro hB (And.intro f0 (And.intro f1 (And.intro f2 (And.intro f3 (And.intro f4 (And.intro f5 (And.intro f6 (And.intro f7 (And.intro f8 (And.intro f9 (And.intro f10 (And.intro f11 (And.intro f12 (And.intro f13 f14))))))))))))))))
                  clear f0 f1 f2 f3 f4 f5 f6 f7 f8 f9 f10 f11 f12 f13 f14 hB hdp hd
                  refine Opn.mk ?_
                  dsimp only
                  go_simp
                  obtain ⟨hd, hB, f0, f1, f2, f3, f4, f5, f6, f7, f8, f9, f10, f11, f12, f13, f14⟩ := HF.out
                  exact hK.out (x65, x66, x67, x68, x69, x70, x71, .bool false, x73, x74, x75, .slice ao n cap, x77, x78, x79) _ ⟨hB.trans (Below.mono (Below.refl w'.heap.size w') hB.size), (fun h0 => by first | exact (f0 (upd_ne h0 (by decide))).up (Below.refl w'.heap.size w') | exact fun _ _ => rfl), (fun h1 => by first | exact (f1 (upd_ne h1 (by decide))).up (Below.refl w'.heap.size w') | exact fun _ _ => rfl), (fun h2 => by first | exact (f2 (upd_ne h2 (by decide))).up (Below.refl w'.heap.size w') | exact fun _ _ => rfl), (fun h3 => by first | exact (f3 (upd_ne h3 (by decide))).up (Below.refl w'.heap.size w') | exact fun _ _ => rfl), (fun h4 => by first | exact (f4 (upd_ne h4 (by decide))).up (Below.refl w'.heap.size w') | exact fun _ _ => rfl), (fun h5 => by first | exact (f5 (upd_ne h5 (by decide))).up (Below.refl w'.heap.size w') | exact fun _ _ => rfl), (fun h6 => by first | exact (f6 (upd_ne h6 (by decide))).up (Below.refl w'.heap.size w') | exact fun _ _ => rfl), (fun h7 => by first | exact (f7 (upd_ne h7 (by decide))).up (Below.refl w'.heap.size w') | exact fun _ _ => rfl), (fun h8 => by first | exact (f8 (upd_ne h8 (by decide))).up (Below.refl w'.heap.size w') | exact fun _ _ => rfl), (fun h9 => by first | exact (f9 (upd_ne h9 (by decide))).up (Below.refl w'.heap.size w') | exact fun _ _ => rfl), (fun h10 => by first | exact (f10 (upd_ne h10 (by decide))).up (Below.refl w'.heap.size w') | exact fun _ _ => rfl), (fun _ => fun _ _ => rfl), (fun h12 => by first | exact (f12 (upd_ne h12 (by decide))).up (Below.refl w'.heap.size w') | exact fun _ _ => rfl), (fun h13 => by first | exact (f13 (upd_ne h13 (by decide))).up (Below.refl w'.heap.size w') | exact fun _ _ => rfl), (fun h14 => by first | exact (f14 (upd_ne h14 (by decide))).up (Below.refl w'.heap.size w') | exact fun _ _ => rfl)⟩
                · rintro d ⟨x65, x66, x67, x68, x69, x70, x71, x72, x73, x74, x75, x76, x77, x78, x79⟩ w' hI hd hdp K hK
                  dsimp only at hI
                  obtain ⟨hB, f0, f1, f2, f3, f4, f5, f6, f7, f8, f9, f10, f11, f12, f13, f14⟩ := hI
                  obtain rfl := (f11 (hdp 11 (by decide +kernel))).now
                  obtain rfl := (f7 (hdp 7 (by decide +kernel))).now
                  have hcv := HLL.out w' (HBV.out.trans (hB.mono HBV.out.size))
                  have HF : Hid _ := (And.intro hd (And.intro hB (And.intro f0 (And.intro f1 (And.intro f2 (And.intro f3 (And.intro f4 (And.intro f5 (And.intro f6 (And.intro f7 (And.intro f8 (And.intro f9 (And.intro f10 (And.intro f11 (And.intro f12 (And.intro f13 f14))))))))))))))))
                  clear f0 f1 f2 f3 f4 f5 f6 f7 f8 f9 f10 f11 f12 f13 f14 hB hdp hd
                  refine Opn.mk ?_
                  dsimp only
                  go_simp
                  obtain ⟨hd, hB, f0, f1, f2, f3, f4, f5, f6, f7, f8, f9, f10, f11, f12, f13, f14⟩ := HF.out
                  exact hK.out (x65, x66, x67, x68, x69, x70, x71, .bool false, x73, x74, x75, .slice ao n cap, .string ⟨l.toArray⟩, x78, x79) _ ⟨hB.trans (Below.mono (Below.refl w'.heap.size w') hB.size), (fun h0 => by first | exact (f0 (upd_ne h0 (by decide))).up (Below.refl w'.heap.size w') | exact fun _ _ => rfl), (fun h1 => by first | exact (f1 (upd_ne h1 (by decide))).up (Below.refl w'.heap.size w') | exact fun _ _ => rfl), (fun h2 => by first | exact (f2 (upd_ne h2 (by decide))).up (Below.refl w'.heap.size w') | exact fun _ _ => rfl), (fun h3 => by first | exact (f3 (upd_ne h3 (by decide))).up (Below.refl w'.heap.size w') | exact fun _ _ => rfl), (fun h4 => by first | exact (f4 (upd_ne h4 (by decide))).up (Below.refl w'.heap.size w') | exact fun _ _ => rfl), (fun h5 => by first | exact (f5 (upd_ne h5 (by decide))).up (Below.refl w'.heap.size w') | exact fun _ _ => rfl), (fun h6 => by first | exact (f6 (upd_ne h6 (by decide))).up (Below.refl w'.heap.size w') | exact fun _ _ => rfl), (fun h7 => by first | exact (f7 (upd_ne h7 (by decide))).up (Below.refl w'.heap.size w') | exact fun _ _ => rfl), (fun h8 => by first | exact (f8 (upd_ne h8 (by decide))).up (Below.refl w'.heap.size w') | exact fun _ _ => rfl), (fun h9 => by first | exact (f9 (upd_ne h9 (by decide))).up (Below.refl w'.heap.size w') | exact fun _ _ => rfl), (fun h10 => by first | exact (f10 (upd_ne h10 (by decide))).up (Below.refl w'.heap.size w') | exact fun _ _ => rfl), (fun h11 => by first | exact (f11 (upd_ne h11 (by decide))).up (Below.refl w'.heap.size w') | exact fun _ _ => rfl), (fun _ => fun _ _ => rfl), (fun h13 => by first | exact (f13 (upd_ne h13 (by decide))).up (Below.refl w'.heap.size w') | exact fun _ _ => rfl), (fun h14 => by first | exact (f14 (upd_ne h14 (by decide))).up (Below.refl w'.heap.size w') | exact fun _ _ => rfl)⟩
                · rintro d ⟨x65, x66, x67, x68, x69, x70, x71, x72, x73, x74, x75, x76, x77, x78, x79⟩ w' hI hd hdp K hK
                  dsimp only at hI
                  obtain ⟨hB, f0, f1, f2, f3, f4, f5, f6, f7, f8, f9, f10, f11, f12, f13, f14⟩ := hI
                  obtain rfl := (f10 (hdp 10 (by decide +kernel))).now
                  obtain rfl := (f12 (hdp 12 (by decide +kernel))).now
                  obtain rfl := (f7 (hdp 7 (by decide +kernel))).now
                  have HF : Hid _ := (And.intro hd (And.intro hB (And.intro f0 (And.intro f1 (And.intro f2 (And.intro f3 (And.intro f4 (And.intro f5 (And.intro f6 (And.intro f7 (And.intro f8 (And.intro f9 (And.intro f10 (And.intro f11 (And.intro f12 (And.intro f13 f14))))))))))))))))
                  clear f0 f1 f2 f3 f4 f5 f6 f7 f8 f9 f10 f11 f12 f13 f14 hB hdp hd
                  refine Opn.mk ?_
                  dsimp only
                  go_simp
                  obtain ⟨hd, hB, f0, f1, f2, f3, f4, f5, f6, f7, f8, f9, f10, f11, f12, f13, f14⟩ := HF.out
                  exact hK.out (x65, x66, x67, x68, x69, x70, x71, .bool false, x73, x74, .string ⟨(byts O).toArray⟩, x76, .string ⟨l.toArray⟩, .bool true, x79) _ ⟨hB.trans (Below.mono (Below.refl w'.heap.size w') hB.size), (fun h0 => by first | exact (f0 (upd_ne h0 (by decide))).up (Below.refl w'.heap.size w') | exact fun _ _ => rfl), (fun h1 => by first | exact (f1 (upd_ne h1 (by decide))).up (Below.refl w'.heap.size w') | exact fun _ _ => rfl), (fun h2 => by first | exact (f2 (upd_ne h2 (by decide))).up (Below.refl w'.heap.size w') | exact fun _ _ => rfl), (fun h3 => by first | exact (f3 (upd_ne h3 (by decide))).up (Below.refl w'.heap.size w') | exact fun _ _ => rfl), (fun h4 => by first | exact (f4 (upd_ne h4 (by decide))).up (Below.refl w'.heap.size w') | exact fun _ _ => rfl), (fun h5 => by first | exact (f5 (upd_ne h5 (by decide))).up (Below.refl w'.heap.size w') | exact fun _ _ => rfl), (fun h6 => by first | exact (f6 (upd_ne h6 (by decide))).up (Below.refl w'.heap.size w') | exact fun _ _ => rfl), (fun h7 => by first | exact (f7 (upd_ne h7 (by decide))).up (Below.refl w'.heap.size w') | exact fun _ _ => rfl), (fun h8 => by first | exact (f8 (upd_ne h8 (by decide))).up (Below.refl w'.heap.size w') | exact fun _ _ => rfl), (fun h9 => by first | exact (f9 (upd_ne h9 (by decide))).up (Below.refl w'.heap.size w') | exact fun _ _ => rfl), (fun h10 => by first | exact (f10 (upd_ne h10 (by decide))).up (Below.refl w'.heap.size w') | exact fun _ _ => rfl), (fun h11 => by first | exact (f11 (upd_ne h11 (by decide))).up (Below.refl w'.heap.size w') | exact fun _ _ => rfl), (fun h12 => by first | exact (f12 (upd_ne h12 (by decide))).up (Below.refl w'.heap.size w') | exact fun _ _ => rfl), (fun _ => fun _ _ => rfl), (fun h14 => by first | exact (f14 (upd_ne h14 (by decide))).up (Below.refl w'.heap.size w') | exact fun _ _ => rfl)⟩
                · rintro d ⟨x65, x66, x67, x68, x69, x70, x71, x72, x73, x74, x75, x76, x77, x78, x79⟩ w' hI hd hdp K hK
                  dsimp only at hI
                  obtain ⟨hB, f0, f1, f2, f3, f4, f5, f6, f7, f8, f9, f10, f11, f12, f13, f14⟩ := hI
                  obtain rfl := (f7 (hdp 7 (by decide +kernel))).now
                  obtain rfl := (f13 (hdp 13 (by decide +kernel))).now
                  have HF : Hid _ := (And.intro hd (And.intro hB (And.intro f0 (And.intro f1 (And.intro f2 (And.intro f3 (And.intro f4 (And.intro f5 (And.intro f6 (And.intro f7 (And.intro f8 (And.intro f9 (And.intro f10 (And.intro f11 (And.intro f12 (And.intro f13 f14))))))))))))))))
                  clear f0 f1 f2 f3 f4 f5 f6 f7 f8 f9 f10 f11 f12 f13 f14 hB hdp hd
                  refine Opn.mk ?_
                  dsimp only
                  go_simp
                  obtain ⟨hd, hB, f0, f1, f2, f3, f4, f5, f6, f7, f8, f9, f10, f11, f12, f13, f14⟩ := HF.out
                  exact hK.out (x65, x66, x67, x68, x69, x70, x71, .bool false, x73, x74, x75, x76, x77, .bool true, .bool true) _ ⟨hB.trans (Below.mono (Below.refl w'.heap.size w') hB.size), (fun h0 => by first | exact (f0 (upd_ne h0 (by decide))).up (Below.refl w'.heap.size w') | exact fun _ _ => rfl), (fun h1 => by first | exact (f1 (upd_ne h1 (by decide))).up (Below.refl w'.heap.size w') | exact fun _ _ => rfl), (fun h2 => by first | exact (f2 (upd_ne h2 (by decide))).up (Below.refl w'.heap.size w') | exact fun _ _ => rfl), (fun h3 => by first | exact (f3 (upd_ne h3 (by decide))).up (Below.refl w'.heap.size w') | exact fun _ _ => rfl), (fun h4 => by first | exact (f4 (upd_ne h4 (by decide))).up (Below.refl w'.heap.size w') | exact fun _ _ => rfl), (fun h5 => by first | exact (f5 (upd_ne h5 (by decide))).up (Below.refl w'.heap.size w') | exact fun _ _ => rfl), (fun h6 => by first | exact (f6 (upd_ne h6 (by decide))).up (Below.refl w'.heap.size w') | exact fun _ _ => rfl), (fun h7 => by first | exact (f7 (upd_ne h7 (by decide))).up (Below.refl w'.heap.size w') | exact fun _ _ => rfl), (fun h8 => by first | exact (f8 (upd_ne h8 (by decide))).up (Below.refl w'.heap.size w') | exact fun _ _ => rfl), (fun h9 => by first | exact (f9 (upd_ne h9 (by decide))).up (Below.refl w'.heap.size w') | exact fun _ _ => rfl), (fun h10 => by first | exact (f10 (upd_ne h10 (by decide))).up (Below.refl w'.heap.size w') | exact fun _ _ => rfl), (fun h11 => by first | exact (f11 (upd_ne h11 (by decide))).up (Below.refl w'.heap.size w') | exact fun _ _ => rfl), (fun h12 => by first | exact (f12 (upd_ne h12 (by decide))).up (Below.refl w'.heap.size w') | exact fun _ _ => rfl), (fun h13 => by first | exact (f13 (upd_ne h13 (by decide))).up (Below.refl w'.heap.size w') | exact fun _ _ => rfl), (fun _ => fun _ _ => rfl)⟩
              case he165 =>
                rintro d ⟨x65, x66, x67, x68, x69, x70, x71, x72, x73, x74, x75, x76, x77, x78, x79⟩ w' hall hI
                dsimp only at hI
                obtain ⟨hB, f0, f1, f2, f3, f4, f5, f6, f7, f8, f9, f10, f11, f12, f13, f14⟩ := hI
                obtain rfl := (f14 (hall 14 (by decide))).now
                have HB' : Hid _ := hB
                clear hall hB f0 f1 f2 f3 f4 f5 f6 f7 f8 f9 f10 f11 f12 f13 f14
                dsimp only
                go_wp2_with fail
                go_ret2
                exact ⟨.inr (.inl ⟨HZ.out, HNO.out, rfl⟩), HBV.out.trans (HB'.out.mono HBV.out.size)⟩
          · have hl4z : (4096 : Int) < (n6 : Int) := by omega
            have hno : (fnl l).2.2 = none := by
              cases hf : (fnl l).2.2 with
              | none => rfl
              | some ts => have h9 := (HBO2.out ts).1 hf; simp at h9; have := HLN.out; rw [h9.1] at this; omega
            have HNO : Hid _ := hno
            clear hno
            go_wp2_with fail
            go_quiet (fail)
            go_wp2_with fail
            go_ret2
            exact ⟨.inr (.inl ⟨HZ.out, HNO.out, rfl⟩), below_dN HB8.out _⟩
      · have hzi : ¬ ((en l (fnl l).1 (fnl l).2.1 : Nat) : Int) = 0 := by omega
        have hzb : (((en l (fnl l).1 (fnl l).2.1 : Nat) : Int) == 0) = false := by rw [beq_eq_false_iff_ne]; exact hzi
        go_wp2_with fail
        go_ret2
        exact ⟨.inl ⟨hz, rfl⟩, b8⟩
end Go.Proofs.Ytfhldldcfdimhaa
