/- A call on both, whichever it is; and the walk of BlobPlays. -/
import Derived.Test.YthegdhbmfojdaaaBb1
import Derived.Test.YthegdhbmfojdaaaBb2
import Derived.Test.YthegdhbmfojdaaaBb3
import Derived.Test.YthegdhbmfojdaaaAlk
namespace Go.Proofs.Ythegdhbmfojdaaa
open Go.RowKit Go.Maps Go.Sort
set_option linter.unusedVariables false

theorem both_any (w0 w : World) (sp dp rp m : Nat) (sd : St) (tr : RSt) (o : OpM) (h : Qp w0 w sp dp rp m sd tr) (hm : m < 100) (ok : o.Ok w0 1048576) :
    Calls Try.prog 13 #[.pointer (some ⟨sp, 0, none⟩), .pointer (some ⟨dp, 0, none⟩), .pointer (some ⟨rp, 0, none⟩), .agg #[.int .i64 o.K, .string ⟨o.A.toArray⟩, o.u, .int .i64 o.n]] w fun e w' => e = .returned (.bool true) ∧ Bth w0 w' sp dp rp m := by
  obtain ⟨K, A, u, bs, n⟩ := o
  obtain ⟨ua, uc, hu, -⟩ := ok.r
  simp only at hu
  subst hu
  have hlt : absN K % 13 < 13 := Nat.mod_lt _ (by omega)
  obtain ⟨k, hk⟩ : ∃ k, absN K % 13 = k := ⟨_, rfl⟩
  have hk13 : k < 13 := by omega
  match k, hk13, hk with
  | 0, _, hk => exact both_0 w0 w sp dp rp m sd tr K n A ua uc bs h hm ok hk
  | 1, _, hk => exact both_1 w0 w sp dp rp m sd tr K n A ua uc bs h hm ok hk
  | 2, _, hk => exact both_2 w0 w sp dp rp m sd tr K n A ua uc bs h hm ok hk
  | 3, _, hk => exact both_3 w0 w sp dp rp m sd tr K n A ua uc bs h hm ok hk
  | 4, _, hk => exact both_4 w0 w sp dp rp m sd tr K n A ua uc bs h hm ok hk
  | 5, _, hk => exact both_5 w0 w sp dp rp m sd tr K n A ua uc bs h hm ok hk
  | 6, _, hk => exact both_6 w0 w sp dp rp m sd tr K n A ua uc bs h hm ok hk
  | 7, _, hk => exact both_7 w0 w sp dp rp m sd tr K n A ua uc bs h hm ok hk
  | 8, _, hk => exact both_8 w0 w sp dp rp m sd tr K n A ua uc bs h hm ok hk
  | 9, _, hk => exact both_9 w0 w sp dp rp m sd tr K n A ua uc bs h hm ok hk
  | 10, _, hk => exact both_10 w0 w sp dp rp m sd tr K n A ua uc bs h hm ok hk
  | 11, _, hk => exact both_11 w0 w sp dp rp m sd tr K n A ua uc bs h hm ok hk
  | 12, _, hk => exact both_12 w0 w sp dp rp m sd tr K n A ua uc bs h hm ok hk
set_option maxRecDepth 100000 in
set_option maxHeartbeats 6400000 in
theorem blobPlays_walk (w : World) (v : Value) (ol : List OpM) (h : OpR w 1048576 v ol) : Calls Try.prog 3 #[v] w fun e w' => e = .returned (.bool true) ∧ Below w.heap.size w w' := by
  have mixed : Try.prog.follows .mixedOrders = true := by kernel_rfl
  have HOK : Hid (∀ o ∈ ol, o.Ok w 1048576) := h.ok
  obtain ⟨va, vc, rfl, hvc1, hvc2, hcs⟩ := h.ex
  obtain ⟨n, hn⟩ : ∃ n, n = ol.length := ⟨_, rfl⟩
  rw [← hn] at hvc1
  rw [← hn]
  have HCS : Hid (0 < ol.length → ∃ b off, va = some ⟨b, off, none⟩ ∧ ∀ i (hi : i < ol.length) c u, (ol[i]).cs[c]? = some u → w.cell? ⟨b, off + (i * 4 + c), none⟩ = some u) := hcs
  have HN : Hid (n = ol.length) := hn
  unfold maxLen at hvc2
  clear h hn hcs
  go_enter Try.func3, Try.ntmps3
  go_wp2_with fail
  refine (awake_any w).mono ?_
  rintro e w1 ⟨rfl, b1⟩
  have kN := new_any w1
  have HB1 : Hid (Below w.heap.size w w1) := b1
  clear b1
  go_wp2_with fail
  refine kN.mono ?_
  rintro e w2 ⟨rfl, h2, b2⟩
  obtain ⟨d, hd⟩ : ∃ d, d = w1.heap.size := ⟨_, rfl⟩
  have kM := refnew_any w2
  have hds : d < w2.heap.size := h2.ltR d hd
  rw [← hd] at h2
  have HD2 : Hid (Dk w2 d (fun i => i = d) 0 st0) := h2
  have HB2 : Hid (Below w.heap.size w w2) := HB1.out.trans (b2.mono HB1.out.size)
  have HDS : Hid (w.heap.size ≤ d ∧ d < w2.heap.size) := ⟨by rw [hd]; exact HB1.out.size, hds⟩
  rw [← hd]
  clear kN h2 b2 hd hds
  go_wp2_with fail
  refine kM.mono ?_
  rintro e w3 ⟨rfl, h3, b3⟩
  obtain ⟨r, hr⟩ : ∃ r, r = w2.heap.size := ⟨_, rfl⟩
  rw [← hr] at h3
  rw [← hr]
  have HD3 : Hid (Dk w3 d (fun i => i = d) 0 st0 ∧ Rd w3 r (fun i => i = r) 0 rst0 ∧ d < r ∧ r < w3.heap.size ∧ w.heap.size ≤ d ∧ Below w.heap.size w w3) := ⟨HD2.out.below b3, h3, by rw [hr]; exact HDS.out.2, h3.ltB r rfl, HDS.out.1, HB2.out.trans (b3.mono HB2.out.size)⟩
  have kO := openB_any w3 d 0 (fun i => i = d) st0 HD3.out.1 (by decide)
  clear hr kM h3 b3 HD2 HB2 HDS HB1
  go_wp2_with fail
  refine kO.mono ?_
  rintro e w4 ⟨dk, fr, okk, -⟩
  rw [open_new] at dk okk
  obtain ⟨p, rfl, sr, hp⟩ := okk rfl
  have HP0 : Hid (Qp w w4 p d r 0 st0 rst0) := by
    obtain ⟨e1, e2, e3, e4, e5, e6⟩ := HD3.out
    exact ⟨⟨_, _, dk, (e2.other fr fun i a b => by have a' : i = r := a; have b' : i = d := b; omega), fun i a b => (by have a' : i = d := a; have b' : i = r := b; omega), fun i a => (by have a' : i = d := a; omega), fun i a => (by have a' : i = r := a; omega), fun a => (by have a' : p = d := a; omega), fun a => (by have a' : p = r := a; omega)⟩, sr, e6.trans (fr.below e6.size fun i a => by have a' : i = d := a; omega), ⟨⟨List.Pairwise.nil, List.Perm.refl _⟩, rfl, rfl, .inl ⟨rfl, rfl⟩⟩, Nat.le_refl _, by decide, fun f hf => by cases hf⟩
  clear kO dk fr okk sr hp HD3
  go_wp2_with fail
  go_loopg [8, 9] n (fun kx v6 _ wr => ∃ (i : Nat) (s : St) (t : RSt), v6 = .int .i64 (i : Int) ∧ i ≤ n ∧ i ≤ 100 ∧ n - i ≤ kx ∧ Hid (Qp w wr p d r i s t))
  case atStart => exact ⟨0, _, _, rfl, Nat.zero_le _, Nat.zero_le _, Nat.le_refl _, HP0⟩
  case round =>
    obtain ⟨i, s, t, rfl, hi, hiL, hkx, HP⟩ := hrel
    clear HP0
    by_cases hlt : i < n ∧ i < 100
    · have hltz : (i : Int) < (n : Int) := by omega
      have hLz : (i : Int) < 100 := by omega
      have hil : i < ol.length := by have := HN.out; omega
      obtain ⟨vb, vo, rfl, hcs⟩ := HCS.out (by omega)
      have hbel := HP.out.bel
      have hcell : ∀ c u, (ol[i]).cs[c]? = some u → wr.cell? ⟨vb, vo + i * 4 + c, none⟩ = some u := fun c u hu => by
        have h0 := hcs i hil c u hu
        rw [Nat.add_assoc]
        exact (hbel.cell (World.block_lt_of_cell? _ _ h0)).trans h0
      have hok := HOK.out _ (List.getElem_mem hil)
      obtain ⟨o, ho⟩ : ∃ o, o = ol[i] := ⟨_, rfl⟩
      rw [← ho] at hok hcell
      have kT := both_any w wr p d r i s t o HP.out (by omega) hok
      have c0 := hcell 0 _ rfl
      have c1 := hcell 1 _ rfl
      have c2 := hcell 2 _ rfl
      have c3 := hcell 3 _ rfl
      simp only [Nat.add_zero] at c0
      have hin : i < n := hlt.1
      have HW1 : Hid (wrap64 ((i : Int) + 1) = (i : Int) + 1) := by apply hide; rw [← IntWalk.i64_left, IntKind.wrap_i64]; omega
      have hi1 : i + 1 ≤ 100 := hlt.2
      clear hcs hbel hcell ho hok hil
      go_wp2_with fail
      refine kT.mono ?_
      rintro e w4 ⟨rfl, ⟨s4, t4, p4⟩⟩
      have HP4 : Hid (Qp w w4 p d r (i + 1) s4 t4) := p4
      obtain ⟨⟨F, G, d1, ⟨Lv, Z, hz⟩, -, -, -, -, -⟩, -, -, rel, -, -, -⟩ := p4
      have zO : ∀ nq os, Calls Try.prog 14 #[.pointer (some ⟨d, 0, none⟩)] (Go.Sort.grow (w4.drewN nq) os) fun e w' => e = .returned (.bool s4.off) ∧ ∃ q os', w' = Go.Sort.grow ((Go.Sort.grow (w4.drewN nq) os).drewN q) os' := fun nq os => (off_any _ d _ F s4 (d1.below (gro_below w4 nq os))).mono fun _ _ ⟨he, hw⟩ => ⟨he, 0, #[], by rw [hw, grow_empty]; rfl⟩
      have hb := hz.b
      rw [rel.off] at hb
      have z1 := fun nq os => gro_cell (show w4.cell? ⟨r, 1, none⟩ = some (.bool s4.off) from BxA.cell hb 1 _ rfl) nq os
      obtain ⟨so, hso⟩ : ∃ so, so = s4.off := ⟨_, rfl⟩
      rw [← hso] at zO z1
      have hbo : (so != so) = false := by simp
      clear kT d1 hz rel hb hso c0 c1 c2 c3
      go_upto_region 13 with fail
      refine wp_region_quiet_grown (by assumption) (by kernel_rfl) ?_
      repeat (go_big_quiet_step (first | (go_at_call 14; with_reducible refine Calls.grown_of (zO _ _))))
      refine wpQuiet_nil ?_
      intro T hw'
      obtain ⟨⟨nq, osq⟩, hw''⟩ := hw'
      have HPT : Hid (Qp w T p d r (i + 1) s4 t4) := by apply hide; rw [hw'']; exact HP4.out.below (gro_below w4 nq osq)
      clear hw'' zO z1 hbo
      go_wp2_with fail
      go_roundg (n - (i + 1))
      case measure => exact Nat.lt_of_lt_of_le (Nat.sub_lt_sub_left hin (Nat.lt_succ_self i)) hkx
      case rel => exact ⟨i + 1, s4, t4, by first | (rw [HW1.out]; rfl) | rfl, hin, hi1, Nat.le_refl _, HPT⟩
    · have hcas : ((i : Int) < (n : Int) ∧ ¬ (i : Int) < 100) ∨ ¬ (i : Int) < (n : Int) := by omega
      have kA := alike_any w wr p d r i s t HP.out hiL
      clear hlt HCS HOK HP
      rcases hcas with ⟨hA, hB'⟩ | hA
      all_goals
        go_wp2_with fail
        refine kA.mono ?_
        rintro e w5 ⟨rfl, b5⟩
        have HB5 : Hid (Below w.heap.size w w5) := b5
        clear kA b5
        go_wp2_with fail
        go_ret
        exact ⟨rfl, HB5.out⟩
end Go.Proofs.Ythegdhbmfojdaaa
