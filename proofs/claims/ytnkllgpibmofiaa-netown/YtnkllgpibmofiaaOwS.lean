/- What a message holds; it is sent to an empty net. -/
import Derived.Test.YtnkllgpibmofiaaOwC
namespace Go.Proofs.Ytnkllgpibmofiaa
open Go.RowKit Go.Maps Go.Sort
set_option linter.unusedVariables false

theorem fr_mono {F G : Nat → Prop} {w w' : World} (h : Fr F w w') (hF : ∀ i, F i → G i) : Fr G w w' := ⟨h.os, h.tape, h.output, h.size, fun i hi hg => h.block i hi fun hf => hg (hF i hf)⟩
theorem own_rds {w : World} {b e k n : Nat} {v : Value} {xs : List Value} (h : w.ownsRow b e k v n xs) : RdsK k w v n xs := by
  have hl := h.1
  rcases h.2 with ⟨e1, e2⟩ | ⟨g, cap, cur, e1, e2, e3, e4, e5, _⟩
  · subst e1; subst e2
    exact ⟨none, 0, rfl, hl, Nat.le_refl _, Nat.zero_le _, fun _ => ⟨rfl, rfl⟩, fun _ h => by cases h⟩
  · subst e1
    exact ⟨some ⟨g, 0, none⟩, cap, rfl, hl, e4, e5, (fun h => by cases h), fun ad ha j u hj => by cases ha; exact World.ownsRow.cells h rfl j u hj⟩
abbrev sgc (ver : Int) : List Value := [.int .i64 0, .int .i64 0, .int .i64 ver, .int .i64 0, .int .i64 0]
structure Cn (w : World) (lo : Nat) (M : Array Value) (a : Str) (c ver : Int) : Prop where
  ex : ∃ d s i g, Po M d s g ∧ w.ownsRow lo 9 1 d 1 [.string ⟨a.toArray⟩] ∧ w.ownsRow lo 86 1 s 1 [i] ∧ w.ownsRow lo 3 1 i 1 [.int .i64 c] ∧ w.ownsRow lo 46 5 g 1 (sgc ver)
theorem own_frF {w w' : World} {F : Nat → Prop} {b0 b1 e k m : Nat} {v : Value} {xs : List Value} (h : w.ownsRow b1 e k v m xs) (hb : b0 ≤ b1) (hk : Fr F w w') (hF : ∀ i, b1 ≤ i → ¬ F i) : w'.ownsRow b0 e k v m xs := by
  refine ⟨h.1, ?_⟩
  rcases h.2 with h2 | ⟨g', cap, cur, e1, e2, e3, e4⟩
  · exact .inl h2
  · exact .inr ⟨g', cap, cur, e1, by omega, by rw [hk.block g' (Array.getElem?_eq_some_iff.1 e3).1 (hF g' e2)]; exact e3, e4⟩
theorem Cn.fr {w w' : World} {F : Nat → Prop} {lo lo' : Nat} {M : Array Value} {a : Str} {c ver : Int} (h : Cn w lo M a c ver) (hl : lo' ≤ lo) (hk : Fr F w w') (hF : ∀ i, lo ≤ i → ¬ F i) : Cn w' lo' M a c ver := by
  obtain ⟨d, s, i, g, h1, h2, h3, h4, h5⟩ := h.ex
  exact ⟨d, s, i, g, h1, own_frF h2 hl hk hF, own_frF h3 hl hk hF, own_frF h4 hl hk hF, own_frF h5 hl hk hF⟩
theorem Cn.up {w w' : World} {lo : Nat} {M : Array Value} {a : Str} {c ver : Int} (h : Cn w lo M a c ver) (hb : Below w.heap.size w w') : Cn w' lo M a c ver := h.fr (Nat.le_refl _) (Fr.of_below (F := fun _ => False) hb) fun _ _ h => h
theorem Cn.setId {w : World} {lo : Nat} {M : Array Value} {a : Str} {c ver : Int} (h : Cn w lo M a c ver) (x : Nat) : Cn w lo (M.setIfInBounds 3 (.int .u64 (x : Int))) a c ver := by
  obtain ⟨d, s, i, g, h1, h2⟩ := h.ex
  exact ⟨d, s, i, g, h1.setId x, h2⟩
theorem Cn.sz {w : World} {lo : Nat} {M : Array Value} {a : Str} {c ver : Int} (h : Cn w lo M a c ver) : M.size = 41 ∧ M.all (·.oneCell') = true := by
  obtain ⟨d, s, i, g, h1, h2⟩ := h.ex
  exact ⟨h1.sz, h1.one⟩
theorem copied_cn (w : World) (lo : Nat) (M : Array Value) (a : Str) (c ver : Int) (h : Cn w lo M a c ver) : Calls Try.prog 35 #[.agg M] w fun e w' => ∃ M', e = .returned (.agg M') ∧ Cn w' w.heap.size M' a c ver ∧ M'[3]? = M[3]? ∧ Below w.heap.size w w' := by
  obtain ⟨d, s, i, g, h1, h2, h3, h4, h5⟩ := h.ex
  obtain ⟨b, cap, hs, hc1, hc2, -, hc⟩ := own_at0 h3
  obtain ⟨ad, cd, hd⟩ := own_sl h2
  obtain ⟨ag, cg, hg⟩ := own_sl h5
  subst hs
  subst hd
  subst hg
  refine (copied_own w M ad 1 cd b cap i 1 ag 1 cg _ _ _ h1 (own_rds h2) (by intro u hu; simp at hu; subst hu; rfl) (by decide) hc hc1 (own_rds h4) (by intro u hu; simp at hu; subst hu; rfl) (by decide) (own_rds h5) (fun u hu => by
    simp only [List.mem_cons, List.not_mem_nil, or_false] at hu
    rcases hu with rfl | rfl | rfl | rfl | rfl <;> rfl) (by decide)).mono ?_
  rintro e w' ⟨M', d', s', i', g', he, k1, k2, k3, k4, k5, k6, k7⟩
  exact ⟨M', he, ⟨d', s', i', g', k1, k3, k4, k5, k6⟩, k2, k7⟩
/-- A net under which one message is under way. -/
structure NtO (w : World) (n r gb : Nat) (cr : Nat) (M : Array Value) : Prop where
  b : BxA w n 89 #[.int .u64 1, .slice (some ⟨r, 0, none⟩) 1 cr]
  o : w.ownsRow 0 91 1 (.slice (some ⟨r, 0, none⟩) 1 cr) 1 [.pointer (some ⟨gb, 0, none⟩)]
  m : BxA w gb 54 M
theorem NtO.fr {w w' : World} {F : Nat → Prop} {n r gb cr : Nat} {M : Array Value} (h : NtO w n r gb cr M) (hk : Fr F w w') (hF : ¬ F n ∧ ¬ F r ∧ ¬ F gb) : NtO w' n r gb cr M := by
  refine ⟨h.b.frm hk hF.1, ⟨h.o.1, ?_⟩, h.m.frm hk hF.2.2⟩
  rcases h.o.2 with h2 | ⟨g', cap, cur, e1, e2, e3, e4⟩
  · exact .inl h2
  · have hr : g' = r := by injection e1 with e1; injection e1 with e1; injection e1 with e1; exact e1.symm
    exact .inr ⟨g', cap, cur, e1, e2, by rw [hk.block g' (Array.getElem?_eq_some_iff.1 e3).1 (by rw [hr]; exact hF.2.1)]; exact e3, e4⟩
theorem NtO.up {w w' : World} {n r gb cr : Nat} {M : Array Value} (h : NtO w n r gb cr M) (hb : Below w.heap.size w w') : NtO w' n r gb cr M := h.fr (Fr.of_below (F := fun _ => False) hb) ⟨fun h => h, fun h => h, fun h => h⟩
set_option maxRecDepth 20000 in
set_option maxHeartbeats 4000000 in
theorem send_own (w : World) (n lo : Nat) (M : Array Value) (a : Str) (c ver : Int) (hN : BxA w n 89 #[.int .u64 0, nl]) (h : Cn w lo M a c ver) (hlo : n < lo) :
    Calls Try.prog 13 #[.pointer (some ⟨n, 0, none⟩), .agg M] w fun e w' => e = .returned (.int .u64 1) ∧ ∃ r gb cr M', NtO w' n r gb cr M' ∧ Cn w' w.heap.size M' a c ver ∧ Fr (fun i => i = n) w w' ∧ w.heap.size ≤ r ∧ w.heap.size ≤ gb := by
  have c0 : w.cell? ⟨n, 0, none⟩ = some (.int .u64 0) := hN.cell 0 _ rfl
  have f0 := hN.free 0
  have hnl := hN.lt
  obtain ⟨W, hW⟩ : ∃ W, W = (w.setCell ⟨n, 0, none⟩ (.int .u64 1)).alloc (.cells M 54) := ⟨_, rfl⟩
  have hWM : BxA W w.heap.size 54 M := by
    have := BxA.new (w.setCell ⟨n, 0, none⟩ (.int .u64 1)) 54 M
    rw [show (w.setCell ⟨n, 0, none⟩ (.int .u64 1)).heap.size = w.heap.size by simp, ← hW] at this
    exact this
  have hWN : BxA W n 89 #[.int .u64 1, nl] := by
    rw [hW]
    exact bx_alloc2 (hN.set 0 _) _
  have hWF : Fr (fun i => i = n) w W := by
    rw [hW]
    exact (Fr.of_grown (F := fun i => i = n) grown_setCell fun j hj => .inl (by cases hj; rfl)).trans (Fr.of_below (F := fun i => i = n) ((Below.refl _ _).alloc (Nat.le_refl _) _)) fun _ _ h => h
  have hWs : W.heap.size = w.heap.size + 1 := by rw [hW]; simp
  have hWC : Cn W lo M a c ver := h.fr (Nat.le_refl _) hWF fun i hi e => by omega
  have HI : Hid ((Try.prog.info? 54).map (·.size) = some M.size) := by apply hide; rw [h.sz.1]; exact Try.info_msg
  have kC := copied_cn W lo M a c ver hWC
  obtain ⟨i0, hi0, hz0, hz1, hz2⟩ := info_parts Try.info_pm
  have HWM := hide hWM
  have HWN := hide hWN
  have HWF := hide hWF
  have HWS := hide hWs
  have HMS := hide h.sz.1
  clear hWM hWN hWF hWs hWC hN h
  go_enter Try.func13, Try.ntmps13
  go_wp2_with (refine wpList_load_row rfl 54 (.tmp 3) rfl w.heap.size rfl 54 M (0, 0) _ (by rw [← hW]; exact HWM.out) Try.underlying54 rfl HI.out ?_)
  rw [← hW]
  clear hW c0 f0
  go_at_call 35
  refine kC.mono ?_
  rintro e w1 ⟨M', he1, hC1, -, hb1⟩
  subst he1
  have hsz1 := hC1.sz
  have hb1M : BxA w1 w.heap.size 54 M := BxA.up HWM.out hb1
  have hb1N : BxA w1 n 89 #[.int .u64 1, nl] := BxA.up HWN.out hb1
  have hne : ¬ n = w.heap.size := by omega
  obtain ⟨M3, hM3⟩ : ∃ M3, M3 = M'.setIfInBounds 3 (.int .u64 1) := ⟨_, rfl⟩
  obtain ⟨X1, hX1⟩ : ∃ X1, X1 = w1.setRow w.heap.size M' := ⟨_, rfl⟩
  obtain ⟨X2, hX2⟩ : ∃ X2, X2 = X1.setCell ⟨w.heap.size, 3, none⟩ (.int .u64 1) := ⟨_, rfl⟩
  obtain ⟨X3, hX3⟩ : ∃ X3, X3 = X2.alloc (.cells #[.pointer (some ⟨w.heap.size, 0, none⟩)] 91) := ⟨_, rfl⟩
  have x1M : BxA X1 w.heap.size 54 M' := by rw [hX1]; exact setRow_heap _ _ _ M' _ _ hb1M
  have x1N : BxA X1 n 89 #[.int .u64 1, nl] := by rw [hX1]; exact BxA.setRow hb1N hne
  have x2M : BxA X2 w.heap.size 54 M3 := by rw [hX2, hM3]; exact x1M.set 3 _
  have x2N : BxA X2 n 89 #[.int .u64 1, nl] := by rw [hX2]; exact BxA.setCells' (fun i hi => Below.heap_setCell _ _ _ _ hi) x1N hne
  have x3M : BxA X3 w.heap.size 54 M3 := by rw [hX3]; exact bx_alloc2 x2M _
  have x3N : BxA X3 n 89 #[.int .u64 1, nl] := by rw [hX3]; exact bx_alloc2 x2N _
  have hfX : Fr (fun i => i = w.heap.size) w1 X3 := by
    rw [hX3, hX2, hX1]
    exact (((Fr.of_grown (F := fun i => i = w.heap.size) (setRow_grown' w1 w.heap.size M') fun j hj => .inl (by injection hj with hj; exact hj.symm)).trans (Fr.of_grown (F := fun i => i = w.heap.size) grown_setCell fun j hj => .inl (by injection hj with hj; exact hj.symm)) fun _ _ h => h).trans (Fr.of_below (F := fun i => i = w.heap.size) ((Below.refl _ _).alloc (Nat.le_refl _) _)) fun _ _ h => h)
  have hb0 : X1.cell? ⟨n, 0, none⟩ = some (.int .u64 1) := x1N.cell 0 _ rfl
  obtain ⟨u3, hu3⟩ : ∃ u, M'[3]? = some u := ⟨_, Array.getElem?_eq_getElem (by rw [hsz1.1]; omega)⟩
  have hb3 : X1.cell? ⟨w.heap.size, 3, none⟩ = some u3 := x1M.cell 3 _ hu3
  have hf3 := x1M.free 3
  obtain ⟨a0, m0, c0, ha0, hm0, hcc0⟩ : ∃ (a0 : Option Addr) (m0 c0 : Nat), a0 = none ∧ m0 = 0 ∧ c0 = 0 := ⟨_, _, _, rfl, rfl, rfl⟩
  have hn1 : X1.cell? ⟨n, 1, none⟩ = some (.slice a0 m0 c0) := by rw [ha0, hm0, hcc0]; exact x1N.cell 1 _ rfl
  have hr3 : RdsK 1 X3 (.slice (some ⟨X2.heap.size, 0, none⟩) 1 1) 1 [.pointer (some ⟨w.heap.size, 0, none⟩)] := by rw [hX3]; exact litK X2 _ _
  have hs3 : w.heap.size ≤ X3.heap.size := Nat.le_of_lt x3M.lt
  have HC1 := hide hC1
  have HB1 := hide hb1
  have HM3 := hide hM3
  have HX1M := hide hb1M
  have HX3M := hide x3M
  have HX3N := hide x3N
  have HFX := hide hfX
  have HR3 := hide hr3
  have HS3 := hide hs3
  have HON : Hid (X3.ownsRow w.heap.size 91 1 (.slice a0 m0 c0) m0 []) := by apply hide; rw [ha0, hm0, hcc0]; exact own_nil X3 w.heap.size 91 1
  have HA0 := hide ha0
  have HM0 := hide hm0
  have HLM : Hid (m0 + 1 ≤ maxLen ∧ ((m0 + 1) + (m0 + 1) / 4 + 192) * 8 ≤ 281474976710656) := by apply hide; rw [hm0]; decide
  have HI' : Hid ((Try.prog.info? 54).map (·.size) = some M'.size) := by apply hide; rw [hsz1.1]; exact Try.info_msg
  have HSM : Hid (M.size = M'.size) := by apply hide; rw [hsz1.1]; exact HMS.out
  have H1' := hide hsz1.2
  have HM33 : Hid (M3[3]? = some (.int .u64 1)) := by
    apply hide
    rw [hM3, Array.getElem?_setIfInBounds, if_pos rfl, if_pos (by rw [hsz1.1]; omega)]
  clear ha0 hm0 hcc0 hC1 hb1 hsz1 hb1M hb1N hM3 x1M x1N x2M x2N x3M x3N hfX hu3 hr3 hs3
  subst hX3
  subst hX2
  have hX2s : (X1.setCell ⟨w.heap.size, 3, none⟩ (.int .u64 1)).heap.size = X1.heap.size := by simp
  rw [hX2s] at HR3
  clear hX2s
  go_wp2_with (first
    | (refine wpList_store_row rfl 54 (.tmp 3) (.tmp 15) rfl w.heap.size M' rfl rfl 54 M HX1M.out HI'.out HSM.out H1'.out ?_; rw [← hX1]; clear hX1)
    | (at_builtin; refine wpList_appF rfl _ _ 87 rfl w.heap.size 91 i0 _ 1 8 Try.underlying87 hi0 hz0 hz1 hz2 rfl (by decide) (.slice a0 m0 c0) m0 [] rfl HON.out (.slice (some ⟨X1.heap.size, 0, none⟩) 1 1) 1 [.pointer (some ⟨w.heap.size, 0, none⟩)] rfl HR3.out (fun u hu => by simp only [List.mem_cons, List.not_mem_nil, or_false] at hu; subst hu; rfl) HLM.out.1 HLM.out.2 HS3.out ?_; intro v4 w4 o4 g4 p4; rw [HM0.out, Nat.zero_add] at o4; obtain ⟨r4, c4, hx4, hc41, hc42, hr4, hcl4⟩ := own_at0 (u := .pointer (some ⟨w.heap.size, 0, none⟩)) o4; subst hx4; have hn4 : BxA w4 n 89 #[.int .u64 1, nl] := bx_grown2 HX3N.out g4 (by rw [HA0.out]; exact fun e => by cases e); have hm4 : BxA w4 w.heap.size 54 M3 := bx_grown2 HX3M.out g4 (by rw [HA0.out]; exact fun e => by cases e); have HN4 := hide hn4; have HM4 := hide hm4; have HO4 := hide o4; have HG4 := hide g4; have q1 := hn4.cell 1 _ rfl; have qf := hn4.free 1; have q3 : (w4.setCell ⟨n, 1, none⟩ (.slice (some ⟨r4, 0, none⟩) 1 c4)).cell? ⟨w.heap.size, 3, none⟩ = some (.int .u64 1) := (BxA.setCells' (fun i hi => Below.heap_setCell w4 ⟨n, 1, none⟩ _ _ hi) hm4 (fun e => hne e.symm)).cell 3 _ HM33.out; clear o4 g4 p4 hn4 hm4))
  go_ret
  have hg4 : Fr (fun _ => False) _ w4 := Fr.of_grown HG4.out fun j hj => by rw [HA0.out] at hj; cases hj
  have hf5 : Fr (fun i => i = n) w4 (w4.setCell ⟨n, 1, none⟩ (.slice (some ⟨r4, 0, none⟩) 1 c4)) := Fr.of_grown (F := fun i => i = n) grown_setCell fun j hj => .inl (by injection hj with hj; exact hj.symm)
  have hf1 : Fr (fun i => i = w.heap.size ∨ i = n) w1 (w4.setCell ⟨n, 1, none⟩ (.slice (some ⟨r4, 0, none⟩) 1 c4)) := ((fr_mono HFX.out fun i h => .inl h).trans (fr_mono hg4 fun i h => h.elim) fun i _ h => h).trans (fr_mono hf5 fun i h => .inr h) fun i _ h => h
  refine ⟨rfl, r4, w.heap.size, c4, M3, ⟨HN4.out.set 1 _, own_frF HO4.out (Nat.zero_le _) hf5 fun i hi e => by omega, HM4.out.frm hf5 fun e => by omega⟩, ?_, ?_, hr4, Nat.le_refl _⟩
  · have h1 := HC1.out.setId 1
    have h2 : Cn w1 W.heap.size M3 a c ver := by rw [HM3.out]; exact h1
    exact h2.fr (by have := HWS.out; omega) hf1 fun i hi e => by have := HWS.out; rcases e with e | e <;> omega
  · exact (HWF.out.trans (Fr.of_below (F := fun i => i = n) HB1.out) fun i _ h => h).trans hf1 fun i hi h => by rcases h with h | h <;> omega
end Go.Proofs.Ytnkllgpibmofiaa
