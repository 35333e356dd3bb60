/- An opening takes drafts away, and touches nothing else. -/
import Derived.Test.YthegdhbmfojdaaaClM
import Derived.Test.YthegdhbmfojdaaaOnc
namespace Go.Proofs.Ythegdhbmfojdaaa
open Go.RowKit Go.Maps Go.Sort
set_option linter.unusedVariables false

set_option maxRecDepth 100000 in
set_option maxHeartbeats 6400000 in
theorem blobClean_walk (w : World) (v : Value) (ts : List Str) (hr : Rds w v (sv ts)) (hbig : ts.length * 16 ≤ 140737488351232) (hmx : ∀ t ∈ ts, t.length ≤ maxLen) (v2 : Value) (l : Str) (h2r : Reads w v2 l) (hl : l.length ≤ 1048576) :
    Calls Try.prog 7 #[v, v2] w fun e w' => e = .returned (.bool true) ∧ Below w.heap.size w w' := by
  have mixed : Try.prog.follows .mixedOrders = true := by kernel_rfl
  obtain ⟨i0, hi0, hi1, hi2, hi3⟩ := info_parts Try.info_str
  obtain ⟨va, vc, rfl, hva1, hva2, hvcs⟩ := hr.len
  have HVC : Aside (0 < ts.length → ∃ b o, va = some ⟨b, o, none⟩ ∧ ∀ i (hi : i < ts.length), w.cell? ⟨b, o + i, none⟩ = some (.string ⟨ts[i].toArray⟩)) := hvcs
  have HMX : Hid (∀ t ∈ ts, t.length ≤ maxLen) := hmx
  have HR2 : Hid (Reads w v2 l) := h2r
  obtain ⟨va2, vc2, rfl⟩ : ∃ a c, v2 = .slice a l.length c := by obtain ⟨a, c, e, _⟩ := h2r; exact ⟨_, _, e⟩
  obtain ⟨n1, hn1⟩ : ∃ n, n = ts.length := ⟨_, rfl⟩
  have HN1 : Hid (n1 = ts.length) := hn1
  rw [← hn1] at hva1 hbig
  rw [← hn1]
  unfold maxLen at hva2
  clear h2r hn1 hr hvcs hmx
  go_enter Try.func7, Try.ntmps7
  go_wp2_with fail
  refine (awake_any w).mono ?_
  rintro e w1 ⟨rfl, b1⟩
  have HB1 : Hid (Below w.heap.size w w1) := b1
  clear b1
  go_wp2_with fail
  refine (new_fr w1).mono ?_
  rintro e w2 ⟨rfl, d2, b2⟩
  have H3 : Hid (Cl w w2 w1.heap.size (fun i => i = w1.heap.size) 0 (cS [] 0) [] [] (.slice none 0 0) (.slice none 0 0)) := ⟨d2, (fun i hi => by have h' : i = w1.heap.size := hi; have := HB1.out.size; omega), HB1.out.trans (b2.mono HB1.out.size), ⟨rfl, .inl ⟨rfl, rfl⟩⟩, ⟨rfl, .inl ⟨rfl, rfl⟩⟩, (fun r hr => by cases hr), (fun r hr => by cases hr), (fun r hr => by cases hr)⟩
  obtain ⟨d, hd⟩ : ∃ d, d = w1.heap.size := ⟨_, rfl⟩
  rw [← hd] at H3
  rw [← hd]
  clear d2 b2 hd HB1
  go_wp2_with fail
  go_loopg [7, 8, 9] 30 (fun kx v7 v8 _ wr => ∃ (i N n : Nat) (F : Nat → Prop) (E : List Fl) (x : Value), x = v7 ∧ v8 = .int .i64 (i : Int) ∧ i ≤ 30 ∧ 30 - i ≤ kx ∧ N ≤ 1048576 * i ∧ n ≤ i ∧ Hid (ClI E i) ∧ Hid (Cl w wr d F N (cS E n) (nonT E) [] x (.slice none 0 0)))
  case atStart => exact ⟨0, 0, 0, _, [], _, rfl, rfl, by omega, Nat.le_refl _, by omega, Nat.le_refl _, ⟨List.Pairwise.nil, (fun _ h => by cases h), Nat.le_refl _⟩, H3⟩
  case round =>
    obtain ⟨i, N, n, F, E, x, rfl, rfl, hi, hkx, hN, hnn, HI, HA⟩ := hrel
    clear H3
    by_cases hgo : i < n1 ∧ i < 30
    · obtain ⟨hin1, hi30⟩ := hgo
      have hz1 : (i : Int) < (n1 : Int) := by omega
      have hz3 : (i : Int) < 30 := by omega
      have hit : i < ts.length := by have := HN1.out; omega
      obtain ⟨bt, ot, rfl, hct⟩ := HVC.out (by omega)
      have htx := HMX.out _ (List.getElem_mem hit)
      obtain ⟨t, ht⟩ : ∃ t, t = ts[i] := ⟨_, rfl⟩
      rw [← ht] at htx
      have HC1 : Hid (w.cell? ⟨bt, ot + i, none⟩ = some (.string ⟨t.toArray⟩)) := by rw [ht]; exact hct i hit
      clear ht hct hit
      have c1 : wr.cell? ⟨bt, ot + i, none⟩ = some (.string ⟨t.toArray⟩) := by rw [HA.out.bel.cell (World.block_lt_of_cell? _ _ HC1.out), HC1.out]
      have kP := append_any wr d N F (cS E n) t (.slice va2 l.length vc2) l HA.out.dk htx (fun w' hf => (HR2.out.below HA.out.bel).fra HR2.out.blk HA.out.F0 hf) (by omega) (by show n < 1000000; omega)
      have HAS : Hid (ClS E n t l ((cS E n).append t l)) := cl_app E n t l (by have := HI.out.few; omega)
      obtain ⟨R, hR⟩ : ∃ R, R = (cS E n).append t l := ⟨_, rfl⟩
      rw [← hR] at kP HAS
      have HTX : Hid (t.length ≤ maxLen) := htx
      have HW1 : Hid (wrap64 ((i : Int) + 1) = (i : Int) + 1) := by apply hide; rw [← IntWalk.i64_left, IntKind.wrap_i64]; omega
      clear hR htx
      go_wp2_with fail
      refine kP.mono ?_
      rintro e w5 ⟨rfl, ⟨F5, d5, hF5⟩, fr5⟩
      have HA4 : Hid (Cl w w5 d F5 (N + l.length) R.2 (nonT E) [] x (.slice none 0 0)) := HA.out.mv d5 hF5 fr5
      have kI := is_any w5 x (nonT E) t HA4.out.rows.1 (by have := nonT_len HI.out; omega)
      have kB := refbegins_any w5 t [116, 46] HTX.out (by simp [maxLen])
      have c51 : w5.cell? ⟨bt, ot + i, none⟩ = some (.string ⟨t.toArray⟩) := by rw [HA4.out.bel.cell (World.block_lt_of_cell? _ _ HC1.out), HC1.out]
      have HNT : Hid (isT t = false → decide (t ∈ nonT E) = hasF E t) := nonT_has
      have hIT : Lib.hasPrefix t [116, 46] = isT t := rfl
      rw [hIT] at kB
      clear c1 kP d5 hF5 fr5 hIT
      cases HAS.out with
      | no =>
        clear kI kB
        go_wp2_with fail
        go_roundg (30 - (i + 1))
        case measure => exact Nat.lt_of_lt_of_le (Nat.sub_lt_sub_left hi30 (Nat.lt_succ_self i)) hkx
        case rel => exact ⟨i + 1, N + l.length, n, F5, E, x, rfl, by first | (rw [HW1.out]; rfl) | rfl, hi30, Nat.le_refl _, by omega, by omega, ⟨HI.out.nd, HI.out.nm, Nat.le_succ_of_le HI.out.few⟩, HA4⟩
      | old E' hh he =>
        have HI2 : Hid (ClI E' (i + 1)) := ⟨(HI.out.old he).nd, (HI.out.old he).nm, Nat.le_succ_of_le (HI.out.old he).few⟩
        have HA6 : Hid (Cl w w5 d F5 (N + l.length) (cS E' (n + 1)) (nonT E') [] x (.slice none 0 0)) := by rw [nonT_old he]; exact HA4
        clear he HA4
        cases hT : isT t with
        | true =>
          rw [hT] at kB
          clear kI hh
          go_wp2_with fail
          refine kB.mono ?_
          rintro e wq ⟨rfl, rfl⟩
          clear kB
          go_wp2_with fail
          go_roundg (30 - (i + 1))
          case measure => exact Nat.lt_of_lt_of_le (Nat.sub_lt_sub_left hi30 (Nat.lt_succ_self i)) hkx
          case rel => exact ⟨i + 1, N + l.length, n + 1, F5, E', x, rfl, by first | (rw [HW1.out]; rfl) | rfl, hi30, Nat.le_refl _, by omega, by omega, HI2, HA6⟩
        | false =>
          rw [hT] at kB
          rw [HNT.out hT, hh] at kI
          clear hh
          go_wp2_with fail
          refine kB.mono ?_
          rintro e wq ⟨rfl, rfl⟩
          clear kB
          go_wp2_with fail
          refine kI.mono ?_
          rintro e wq2 ⟨rfl, rfl⟩
          clear kI
          go_wp2_with fail
          go_roundg (30 - (i + 1))
          case measure => exact Nat.lt_of_lt_of_le (Nat.sub_lt_sub_left hi30 (Nat.lt_succ_self i)) hkx
          case rel => exact ⟨i + 1, N + l.length, n + 1, F5, E', x, rfl, by first | (rw [HW1.out]; rfl) | rfl, hi30, Nat.le_refl _, by omega, by omega, HI2, HA6⟩
      | new E' hh he hn =>
        have HI2 : Hid (ClI E' (i + 1)) := HI.out.new hh he hn
        have hnw := nonT_new he
        clear he hn
        cases hT : isT t with
        | true =>
          rw [hT] at kB
          rw [hT, if_pos rfl] at hnw
          have HA6 : Hid (Cl w w5 d F5 (N + l.length) (cS E' (n + 1)) (nonT E') [] x (.slice none 0 0)) := by rw [hnw]; exact HA4
          clear kI hh hnw
          go_wp2_with fail
          refine kB.mono ?_
          rintro e wq ⟨rfl, rfl⟩
          clear kB
          go_wp2_with fail
          go_roundg (30 - (i + 1))
          case measure => exact Nat.lt_of_lt_of_le (Nat.sub_lt_sub_left hi30 (Nat.lt_succ_self i)) hkx
          case rel => exact ⟨i + 1, N + l.length, n + 1, F5, E', x, rfl, by first | (rw [HW1.out]; rfl) | rfl, hi30, Nat.le_refl _, by omega, by omega, HI2, HA6⟩
        | false =>
          rw [hT] at kB
          rw [HNT.out hT, hh] at kI
          rw [hT, if_neg (by simp)] at hnw
          have HNW : Hid (nonT E' = nonT E ++ [t]) := hnw
          have HL1 : Hid (RdsK 1 (w5.alloc (.cells #[Value.string ⟨t.toArray⟩] 9)) (.slice (some ⟨w5.heap.size, 0, none⟩) 1 1) 1 [Value.string ⟨t.toArray⟩]) := RdsK.of_own (lit_own w5 [Value.string ⟨t.toArray⟩] 9 (by simp [maxLen]))
          have HA5 : Hid (Cl w (w5.alloc (.cells #[Value.string ⟨t.toArray⟩] 9)) d F5 (N + l.length) (cS E' (n + 1)) (nonT E) [] x (.slice none 0 0)) := HA4.out.below ((Below.refl _ _).alloc (Nat.le_refl _) _)
          have hsz5 : w.heap.size ≤ (w5.alloc (.cells #[Value.string ⟨t.toArray⟩] 9)).heap.size := HA5.out.bel.size
          have HQ1 : Hid (((nonT E).length + 1 + ((nonT E).length + 1) / 4 + 192) * 16 ≤ 281474976710656 ∧ (nonT E).length + 1 ≤ maxLen) := by apply hide; have := nonT_len HI.out; unfold maxLen; omega
          clear hh hnw HA4
          go_wp2_with fail
          refine kB.mono ?_
          rintro e wq ⟨rfl, rfl⟩
          clear kB
          go_wp2_with fail
          refine kI.mono ?_
          rintro e wq2 ⟨rfl, rfl⟩
          clear kI
          go_wp2_with (first | (at_builtin; refine wpList_appF rfl _ _ 42 rfl w.heap.size 9 i0 (.string ⟨#[]⟩) 1 16 Try.underlying42 hi0 hi1 hi2 hi3 rfl (by decide) x (nonT E).length (sv (nonT E)) rfl HA5.out.a (.slice (some ⟨wq2.heap.size, 0, none⟩) 1 1) 1 [Value.string ⟨t.toArray⟩] rfl HL1.out (fun u hu => by simp at hu; subst hu; rfl) HQ1.out.2 HQ1.out.1 hsz5 ?_; intro v6 w6 o6 g6 p6; have HA6 : Hid (Cl w w6 d F5 (N + l.length) (cS E' (n + 1)) (nonT E ++ [t]) [] v6 (.slice none 0 0)) := HA5.out.appa o6 g6 p6; clear o6 g6 p6))
          go_wp2_with fail
          go_roundg (30 - (i + 1))
          case measure => exact Nat.lt_of_lt_of_le (Nat.sub_lt_sub_left hi30 (Nat.lt_succ_self i)) hkx
          case rel => exact ⟨i + 1, N + l.length, n + 1, F5, E', v6, rfl, by first | (rw [HW1.out]; rfl) | rfl, hi30, Nat.le_refl _, by omega, by omega, HI2, by rw [HNW.out]; exact HA6⟩
    · by_cases hq1 : i < n1
      · have hz1 : (i : Int) < (n1 : Int) := by omega
        have hz3 : ¬ (i : Int) < 30 := by omega
        rename World => wo
        obtain ⟨A, hA⟩ : ∃ A, A = nonT E := ⟨_, rfl⟩
        have hAl : A.length ≤ 30 := by rw [hA]; exact Nat.le_trans (nonT_len HI.out) hi
        rw [← hA] at HA
        have HAE : Hid (A = nonT E) := hA
        obtain ⟨xa, xc, hxv, hx1, hx2, -⟩ := HA.out.rows.1.len
        subst hxv
        unfold maxLen at hx2
        obtain ⟨L, hL⟩ : ∃ L, L = A.length := ⟨_, rfl⟩
        have HL : Hid (L = A.length) := hL
        rw [← hL] at hAl hx1 HA ⊢
        have HAIN : Hid (∀ j (hj : j < A.length), hasF E A[j] = true ∧ isT A[j] = false ∧ A[j] ∈ nonT E) := fun j hj => by
          have hm : A[j] ∈ nonT E := by rw [← HAE.out]; exact List.getElem_mem hj
          exact ⟨(nonT_in hm).1, (nonT_in hm).2, hm⟩
        have HANL : Hid (∀ t ∈ nonT E, t.length ≤ maxLen) := fun t ht => by
          obtain ⟨h1, _⟩ := nonT_in ht
          rw [hasF_mem] at h1
          obtain ⟨f, hf, e⟩ := List.mem_map.1 (of_decide_eq_true h1)
          have := HI.out.nm f hf
          rw [e] at this
          unfold isNm at this
          rw [Bool.and_eq_true] at this
          have h2 : ¬ t.length < 1 ∧ ¬ 64 < t.length := by simpa using this.1
          unfold maxLen
          omega
        clear hgo hA hL
        go_wp2_with fail
        go_loopg [10, 11, 12, 13] L (fun kx v10 v11 _ _ wr => ∃ (j : Nat) (B : List Str) (y : Value), y = v10 ∧ v11 = .int .i64 (j : Int) ∧ j ≤ L ∧ L - j ≤ kx ∧ B.length = j ∧ Hid (B = (A.take j).map (bytF E)) ∧ Hid (Cl w wr d F N (cS E n) A B (.slice xa L xc) y))
        case atStart => exact ⟨0, [], _, rfl, rfl, by omega, Nat.le_refl _, rfl, rfl, HA⟩
        case round =>
          obtain ⟨j, B, y, rfl, rfl, hj, hjx, hBl, HBE, HC⟩ := hrel
          by_cases hjL : j < L
          · have hjz : (j : Int) < (L : Int) := by omega
            have hjA : j < A.length := by rw [← HL.out]; exact hjL
            obtain ⟨xa', xc', hxv, -, -, hxs⟩ := HC.out.rows.1.len
            rw [← HL.out] at hxv
            simp only [Value.slice.injEq, true_and] at hxv
            obtain ⟨rfl, rfl⟩ := hxv
            obtain ⟨xb, xo, rfl, hxc⟩ := hxs (by omega)
            have cj := hxc j hjA
            obtain ⟨q1, q2, q3⟩ := HAIN.out j hjA
            have kR := read_any wr d N F (cS E n) A[j] HC.out.dk (HANL.out _ q3) (by omega)
            rw [(cl_read (n := n) HI.out q1).1, (cl_read (n := n) HI.out q1).2] at kR
            have HTK : Hid ((A.take (j + 1)).map (bytF E) = (A.take j).map (bytF E) ++ [bytF E A[j]]) := by
              apply hide
              rw [List.take_succ_eq_append_getElem hjA, List.map_append]
              rfl
            obtain ⟨tj, htj⟩ : ∃ t, t = A[j] := ⟨_, rfl⟩
            obtain ⟨mj, hmj⟩ : ∃ t, t = bytF E A[j] := ⟨_, rfl⟩
            rw [← hmj] at kR HTK
            rw [← htj] at cj kR
            have HW1 : Hid (wrap64 ((j : Int) + 1) = (j : Int) + 1) := by apply hide; rw [← IntWalk.i64_left, IntKind.wrap_i64]; omega
            clear htj hmj hxc hxs q1 q2 q3 hjA
            go_wp2_with fail
            refine kR.mono ?_
            rintro e w5 ⟨v5, rfl, o5, b5⟩
            have cv5 := conv_string w5 v5 _ o5.reads
            obtain ⟨za, zc, hz5, -⟩ := o5.reads
            subst hz5
            have HL1 : Hid (RdsK 1 (w5.alloc (.cells #[Value.string ⟨mj.toArray⟩] 9)) (.slice (some ⟨w5.heap.size, 0, none⟩) 1 1) 1 [Value.string ⟨mj.toArray⟩]) := RdsK.of_own (lit_own w5 [Value.string ⟨mj.toArray⟩] 9 (by simp [maxLen]))
            have HA5 : Hid (Cl w (w5.alloc (.cells #[Value.string ⟨mj.toArray⟩] 9)) d F N (cS E n) A B (.slice (some ⟨xb, xo, none⟩) L xc) y) := (HC.out.below b5).below ((Below.refl _ _).alloc (Nat.le_refl _) _)
            have hsz5 : w.heap.size ≤ (w5.alloc (.cells #[Value.string ⟨mj.toArray⟩] 9)).heap.size := HA5.out.bel.size
            have HQ1 : Hid ((B.length + 1 + (B.length + 1) / 4 + 192) * 16 ≤ 281474976710656 ∧ B.length + 1 ≤ maxLen) := by apply hide; unfold maxLen; omega
            clear kR o5 b5 cj
            go_wp2_with (first | (at_builtin; refine wpList_appF rfl _ _ 42 rfl w.heap.size 9 i0 (.string ⟨#[]⟩) 1 16 Try.underlying42 hi0 hi1 hi2 hi3 rfl (by decide) y B.length (sv B) rfl HA5.out.b (.slice (some ⟨w5.heap.size, 0, none⟩) 1 1) 1 [Value.string ⟨mj.toArray⟩] rfl HL1.out (fun u hu => by simp at hu; subst hu; rfl) HQ1.out.2 HQ1.out.1 hsz5 ?_; intro v6 w6 o6 g6 p6; have HA6 : Hid (Cl w w6 d F N (cS E n) A (B ++ [mj]) (.slice (some ⟨xb, xo, none⟩) L xc) v6) := HA5.out.appb o6 g6 p6; clear o6 g6 p6))
            go_wp2_with fail
            go_roundg (L - (j + 1))
            case measure => exact Nat.lt_of_lt_of_le (Nat.sub_lt_sub_left hjL (Nat.lt_succ_self j)) hjx
            case rel => exact ⟨j + 1, B ++ [mj], v6, rfl, by first | (rw [HW1.out]; rfl) | rfl, hjL, Nat.le_refl _, by rw [List.length_append, hBl]; rfl, by apply hide; rw [HTK.out, HBE.out], HA6⟩
          · have hjz : ¬ (j : Int) < (L : Int) := by omega
            have hjL' : j = L := by omega
            rename World => w4
            have HBA : Hid (B = A.map (bytF E)) := by apply hide; rw [HBE.out, hjL', HL.out, List.take_length]
            obtain ⟨k, hk, hop⟩ := cl_open (n := n) HI.out
            have kO := openB_any w4 d N F (cS E n) HC.out.dk (by show n < 990000; omega)
            obtain ⟨ya, yc, hyv, hy1, hy2, -⟩ := HC.out.rows.2.len
            have hBL : B.length = L := by rw [hBl, hjL']
            rw [hBL] at hyv hy1
            unfold maxLen at hy2
            subst hyv
            have HOP : Hid (bopen (cS E n) = (0, cS (lefF E) (n + k))) := hop
            have HBL : Hid (B.length = L) := hBL
            clear hop hBL hBl hjL' hjL
            go_wp2_with fail
            refine kO.mono ?_
            rintro e w5 ⟨d5, f5, ok5, -⟩
            rw [HOP.out] at d5 ok5
            obtain ⟨p, rfl, -, -⟩ := ok5 rfl
            have HC5 : Hid (Cl w w5 d F N (cS (lefF E) (n + k)) A B (.slice xa L xc) (.slice ya L yc)) := HC.out.mv d5 (fun _ h => .inl h) f5
            have kL1 := list_any w5 d N F (cS (lefF E) (n + k)) [116, 46] d5
            rw [(cl_lists (E := E) (n := n + k)).1] at kL1
            clear kO d5 f5 ok5
            go_wp2_with fail
            refine kL1.mono ?_
            rintro e w6 ⟨v6, rfl, o6, -, b6⟩
            have HC6 : Hid (Cl w w6 d F N (cS (lefF E) (n + k)) A B (.slice xa L xc) (.slice ya L yc)) := HC5.out.below b6
            obtain ⟨la, lc, hlv, -⟩ := o6.rds
            replace hlv : v6 = .slice la 0 lc := hlv
            subst hlv
            have kL2 := list_any w6 d N F (cS (lefF E) (n + k)) [] HC6.out.dk
            clear kL1 o6 b6 HC5
            go_wp2_with fail
            refine kL2.mono ?_
            rintro e w7 ⟨v7, rfl, o7, -, b7⟩
            have HC7 : Hid (Cl w w7 d F N (cS (lefF E) (n + k)) A B (.slice xa L xc) (.slice ya L yc)) := HC6.out.below b7
            obtain ⟨la2, lc2, hlv2, -⟩ := o7.rds.len
            rw [(cl_lists (E := E) (n := n + k)).2, ← HAE.out, ← HL.out] at hlv2
            subst hlv2
            clear kL2 o7 b7 HC6
            go_wp2_with fail
            go_loopg [16, 17, 18] L (fun kx v16 _ _ wr => ∃ j : Nat, v16 = .int .i64 (j : Int) ∧ j ≤ L ∧ L - j ≤ kx ∧ Hid (Below w7.heap.size w7 wr))
            case atStart => exact ⟨0, rfl, by omega, Nat.le_refl _, Below.refl _ _⟩
            case round =>
              obtain ⟨j, rfl, hj, hjx, HBj⟩ := hrel
              by_cases hjL : j < L
              · have hjz : (j : Int) < (L : Int) := by omega
                have h8 := HC7.out.below HBj.out
                obtain ⟨xa', xc', hxv, -, -, hxs⟩ := h8.rows.1.len
                obtain ⟨ya', yc', hyv, -, -, hys⟩ := h8.rows.2.len
                rw [← HL.out] at hxv
                rw [HBL.out] at hyv
                simp only [Value.slice.injEq, true_and] at hxv hyv
                obtain ⟨rfl, rfl⟩ := hxv
                obtain ⟨rfl, rfl⟩ := hyv
                have hjA : j < A.length := by rw [← HL.out]; exact hjL
                have hjB : j < B.length := by rw [HBL.out]; exact hjL
                obtain ⟨xb, xo, rfl, hxc⟩ := hxs (by omega)
                obtain ⟨yb, yo, rfl, hyc⟩ := hys (by omega)
                have cj := hxc j hjA
                have cy := hyc j hjB
                have hBj : B[j] = bytF E A[j] := by
                  have : B[j]? = (A.map (bytF E))[j]? := by rw [← HBA.out]
                  rw [List.getElem?_eq_getElem hjB, List.getElem?_map, List.getElem?_eq_getElem hjA] at this
                  simpa using this
                rw [hBj] at cy
                obtain ⟨q1, q2, q3⟩ := HAIN.out j hjA
                have kR := read_any wr d N F (cS (lefF E) (n + k)) A[j] h8.dk (HANL.out _ q3) (by omega)
                rw [(cl_read (n := n + k) (lefF_I HI.out) (lefF_has q3)).1, (cl_read (n := n + k) (lefF_I HI.out) (lefF_has q3)).2, lefF_byt q2] at kR
                obtain ⟨tj, htj⟩ : ∃ t, t = A[j] := ⟨_, rfl⟩
                obtain ⟨mj, hmj⟩ : ∃ t, t = bytF E A[j] := ⟨_, rfl⟩
                rw [← hmj] at kR cy
                rw [← htj] at cj kR
                have HBO : Hid (∀ w', Below wr.heap.size wr w' → w'.cell? ⟨yb, yo + j, none⟩ = some (.string ⟨mj.toArray⟩)) := fun w' hb => by rw [hb.cell (World.block_lt_of_cell? _ _ cy), cy]
                have HW1 : Hid (wrap64 ((j : Int) + 1) = (j : Int) + 1) := by apply hide; rw [← IntWalk.i64_left, IntKind.wrap_i64]; omega
                clear htj hmj hxc hyc hxs hys q1 q2 q3 hjA hjB hBj h8 cy
                go_wp2_with fail
                refine kR.mono ?_
                rintro e w8 ⟨v8, rfl, o8, b8⟩
                have HB8 : Hid (Below w7.heap.size w7 w8) := HBj.out.trans (b8.mono HBj.out.size)
                have zy := fun nq os => cell_gro (HBO.out w8 b8) nq os
                obtain ⟨za, zc, hz8, -⟩ := o8.reads
                have zcv := fun nq os => conv_string (Go.Sort.grow (w8.drewN nq) os) v8 _ (o8.reads.below (below_gr w8 nq os))
                subst hz8
                clear kR o8 b8 cj
                go_wp2_with fail
                refine wp_region_quiet_grown (by assumption) (by kernel_rfl) ?_
                repeat (go_big_quiet_step (fail))
                refine wpQuiet_nil ?_
                intro T hw'
                obtain ⟨⟨nq, osq⟩, hw''⟩ := hw'
                have HBT : Hid (Below w7.heap.size w7 T) := by apply hide; rw [hw'']; exact HB8.out.trans ((below_gr w8 nq osq).mono HB8.out.size)
                clear hw'' zy zcv
                go_wp2_with fail
                go_roundg (L - (j + 1))
                case measure => exact Nat.lt_of_lt_of_le (Nat.sub_lt_sub_left hjL (Nat.lt_succ_self j)) hjx
                case rel => exact ⟨j + 1, by first | (rw [HW1.out]; rfl) | rfl, hjL, Nat.le_refl _, HBT⟩
              · have hjz : ¬ (j : Int) < (L : Int) := by omega
                go_wp2_with fail
                refine (open_nil wr).mono ?_
                rintro e wq ⟨rfl, rfl⟩
                go_wp2_with fail
                go_ret
                exact ⟨rfl, HC7.out.bel.trans (HBj.out.mono HC7.out.bel.size)⟩
      · have hz1 : ¬ (i : Int) < (n1 : Int) := by omega
        rename World => wo
        obtain ⟨A, hA⟩ : ∃ A, A = nonT E := ⟨_, rfl⟩
        have hAl : A.length ≤ 30 := by rw [hA]; exact Nat.le_trans (nonT_len HI.out) hi
        rw [← hA] at HA
        have HAE : Hid (A = nonT E) := hA
        obtain ⟨xa, xc, hxv, hx1, hx2, -⟩ := HA.out.rows.1.len
        subst hxv
        unfold maxLen at hx2
        obtain ⟨L, hL⟩ : ∃ L, L = A.length := ⟨_, rfl⟩
        have HL : Hid (L = A.length) := hL
        rw [← hL] at hAl hx1 HA ⊢
        have HAIN : Hid (∀ j (hj : j < A.length), hasF E A[j] = true ∧ isT A[j] = false ∧ A[j] ∈ nonT E) := fun j hj => by
          have hm : A[j] ∈ nonT E := by rw [← HAE.out]; exact List.getElem_mem hj
          exact ⟨(nonT_in hm).1, (nonT_in hm).2, hm⟩
        have HANL : Hid (∀ t ∈ nonT E, t.length ≤ maxLen) := fun t ht => by
          obtain ⟨h1, _⟩ := nonT_in ht
          rw [hasF_mem] at h1
          obtain ⟨f, hf, e⟩ := List.mem_map.1 (of_decide_eq_true h1)
          have := HI.out.nm f hf
          rw [e] at this
          unfold isNm at this
          rw [Bool.and_eq_true] at this
          have h2 : ¬ t.length < 1 ∧ ¬ 64 < t.length := by simpa using this.1
          unfold maxLen
          omega
        clear hgo hA hL
        go_wp2_with fail
        go_loopg [10, 11, 12, 13] L (fun kx v10 v11 _ _ wr => ∃ (j : Nat) (B : List Str) (y : Value), y = v10 ∧ v11 = .int .i64 (j : Int) ∧ j ≤ L ∧ L - j ≤ kx ∧ B.length = j ∧ Hid (B = (A.take j).map (bytF E)) ∧ Hid (Cl w wr d F N (cS E n) A B (.slice xa L xc) y))
        case atStart => exact ⟨0, [], _, rfl, rfl, by omega, Nat.le_refl _, rfl, rfl, HA⟩
        case round =>
          obtain ⟨j, B, y, rfl, rfl, hj, hjx, hBl, HBE, HC⟩ := hrel
          by_cases hjL : j < L
          · have hjz : (j : Int) < (L : Int) := by omega
            have hjA : j < A.length := by rw [← HL.out]; exact hjL
            obtain ⟨xa', xc', hxv, -, -, hxs⟩ := HC.out.rows.1.len
            rw [← HL.out] at hxv
            simp only [Value.slice.injEq, true_and] at hxv
            obtain ⟨rfl, rfl⟩ := hxv
            obtain ⟨xb, xo, rfl, hxc⟩ := hxs (by omega)
            have cj := hxc j hjA
            obtain ⟨q1, q2, q3⟩ := HAIN.out j hjA
            have kR := read_any wr d N F (cS E n) A[j] HC.out.dk (HANL.out _ q3) (by omega)
            rw [(cl_read (n := n) HI.out q1).1, (cl_read (n := n) HI.out q1).2] at kR
            have HTK : Hid ((A.take (j + 1)).map (bytF E) = (A.take j).map (bytF E) ++ [bytF E A[j]]) := by
              apply hide
              rw [List.take_succ_eq_append_getElem hjA, List.map_append]
              rfl
            obtain ⟨tj, htj⟩ : ∃ t, t = A[j] := ⟨_, rfl⟩
            obtain ⟨mj, hmj⟩ : ∃ t, t = bytF E A[j] := ⟨_, rfl⟩
            rw [← hmj] at kR HTK
            rw [← htj] at cj kR
            have HW1 : Hid (wrap64 ((j : Int) + 1) = (j : Int) + 1) := by apply hide; rw [← IntWalk.i64_left, IntKind.wrap_i64]; omega
            clear htj hmj hxc hxs q1 q2 q3 hjA
            go_wp2_with fail
            refine kR.mono ?_
            rintro e w5 ⟨v5, rfl, o5, b5⟩
            have cv5 := conv_string w5 v5 _ o5.reads
            obtain ⟨za, zc, hz5, -⟩ := o5.reads
            subst hz5
            have HL1 : Hid (RdsK 1 (w5.alloc (.cells #[Value.string ⟨mj.toArray⟩] 9)) (.slice (some ⟨w5.heap.size, 0, none⟩) 1 1) 1 [Value.string ⟨mj.toArray⟩]) := RdsK.of_own (lit_own w5 [Value.string ⟨mj.toArray⟩] 9 (by simp [maxLen]))
            have HA5 : Hid (Cl w (w5.alloc (.cells #[Value.string ⟨mj.toArray⟩] 9)) d F N (cS E n) A B (.slice (some ⟨xb, xo, none⟩) L xc) y) := (HC.out.below b5).below ((Below.refl _ _).alloc (Nat.le_refl _) _)
            have hsz5 : w.heap.size ≤ (w5.alloc (.cells #[Value.string ⟨mj.toArray⟩] 9)).heap.size := HA5.out.bel.size
            have HQ1 : Hid ((B.length + 1 + (B.length + 1) / 4 + 192) * 16 ≤ 281474976710656 ∧ B.length + 1 ≤ maxLen) := by apply hide; unfold maxLen; omega
            clear kR o5 b5 cj
            go_wp2_with (first | (at_builtin; refine wpList_appF rfl _ _ 42 rfl w.heap.size 9 i0 (.string ⟨#[]⟩) 1 16 Try.underlying42 hi0 hi1 hi2 hi3 rfl (by decide) y B.length (sv B) rfl HA5.out.b (.slice (some ⟨w5.heap.size, 0, none⟩) 1 1) 1 [Value.string ⟨mj.toArray⟩] rfl HL1.out (fun u hu => by simp at hu; subst hu; rfl) HQ1.out.2 HQ1.out.1 hsz5 ?_; intro v6 w6 o6 g6 p6; have HA6 : Hid (Cl w w6 d F N (cS E n) A (B ++ [mj]) (.slice (some ⟨xb, xo, none⟩) L xc) v6) := HA5.out.appb o6 g6 p6; clear o6 g6 p6))
            go_wp2_with fail
            go_roundg (L - (j + 1))
            case measure => exact Nat.lt_of_lt_of_le (Nat.sub_lt_sub_left hjL (Nat.lt_succ_self j)) hjx
            case rel => exact ⟨j + 1, B ++ [mj], v6, rfl, by first | (rw [HW1.out]; rfl) | rfl, hjL, Nat.le_refl _, by rw [List.length_append, hBl]; rfl, by apply hide; rw [HTK.out, HBE.out], HA6⟩
          · have hjz : ¬ (j : Int) < (L : Int) := by omega
            have hjL' : j = L := by omega
            rename World => w4
            have HBA : Hid (B = A.map (bytF E)) := by apply hide; rw [HBE.out, hjL', HL.out, List.take_length]
            obtain ⟨k, hk, hop⟩ := cl_open (n := n) HI.out
            have kO := openB_any w4 d N F (cS E n) HC.out.dk (by show n < 990000; omega)
            obtain ⟨ya, yc, hyv, hy1, hy2, -⟩ := HC.out.rows.2.len
            have hBL : B.length = L := by rw [hBl, hjL']
            rw [hBL] at hyv hy1
            unfold maxLen at hy2
            subst hyv
            have HOP : Hid (bopen (cS E n) = (0, cS (lefF E) (n + k))) := hop
            have HBL : Hid (B.length = L) := hBL
            clear hop hBL hBl hjL' hjL
            go_wp2_with fail
            refine kO.mono ?_
            rintro e w5 ⟨d5, f5, ok5, -⟩
            rw [HOP.out] at d5 ok5
            obtain ⟨p, rfl, -, -⟩ := ok5 rfl
            have HC5 : Hid (Cl w w5 d F N (cS (lefF E) (n + k)) A B (.slice xa L xc) (.slice ya L yc)) := HC.out.mv d5 (fun _ h => .inl h) f5
            have kL1 := list_any w5 d N F (cS (lefF E) (n + k)) [116, 46] d5
            rw [(cl_lists (E := E) (n := n + k)).1] at kL1
            clear kO d5 f5 ok5
            go_wp2_with fail
            refine kL1.mono ?_
            rintro e w6 ⟨v6, rfl, o6, -, b6⟩
            have HC6 : Hid (Cl w w6 d F N (cS (lefF E) (n + k)) A B (.slice xa L xc) (.slice ya L yc)) := HC5.out.below b6
            obtain ⟨la, lc, hlv, -⟩ := o6.rds
            replace hlv : v6 = .slice la 0 lc := hlv
            subst hlv
            have kL2 := list_any w6 d N F (cS (lefF E) (n + k)) [] HC6.out.dk
            clear kL1 o6 b6 HC5
            go_wp2_with fail
            refine kL2.mono ?_
            rintro e w7 ⟨v7, rfl, o7, -, b7⟩
            have HC7 : Hid (Cl w w7 d F N (cS (lefF E) (n + k)) A B (.slice xa L xc) (.slice ya L yc)) := HC6.out.below b7
            obtain ⟨la2, lc2, hlv2, -⟩ := o7.rds.len
            rw [(cl_lists (E := E) (n := n + k)).2, ← HAE.out, ← HL.out] at hlv2
            subst hlv2
            clear kL2 o7 b7 HC6
            go_wp2_with fail
            go_loopg [16, 17, 18] L (fun kx v16 _ _ wr => ∃ j : Nat, v16 = .int .i64 (j : Int) ∧ j ≤ L ∧ L - j ≤ kx ∧ Hid (Below w7.heap.size w7 wr))
            case atStart => exact ⟨0, rfl, by omega, Nat.le_refl _, Below.refl _ _⟩
            case round =>
              obtain ⟨j, rfl, hj, hjx, HBj⟩ := hrel
              by_cases hjL : j < L
              · have hjz : (j : Int) < (L : Int) := by omega
                have h8 := HC7.out.below HBj.out
                obtain ⟨xa', xc', hxv, -, -, hxs⟩ := h8.rows.1.len
                obtain ⟨ya', yc', hyv, -, -, hys⟩ := h8.rows.2.len
                rw [← HL.out] at hxv
                rw [HBL.out] at hyv
                simp only [Value.slice.injEq, true_and] at hxv hyv
                obtain ⟨rfl, rfl⟩ := hxv
                obtain ⟨rfl, rfl⟩ := hyv
                have hjA : j < A.length := by rw [← HL.out]; exact hjL
                have hjB : j < B.length := by rw [HBL.out]; exact hjL
                obtain ⟨xb, xo, rfl, hxc⟩ := hxs (by omega)
                obtain ⟨yb, yo, rfl, hyc⟩ := hys (by omega)
                have cj := hxc j hjA
                have cy := hyc j hjB
                have hBj : B[j] = bytF E A[j] := by
                  have : B[j]? = (A.map (bytF E))[j]? := by rw [← HBA.out]
                  rw [List.getElem?_eq_getElem hjB, List.getElem?_map, List.getElem?_eq_getElem hjA] at this
                  simpa using this
                rw [hBj] at cy
                obtain ⟨q1, q2, q3⟩ := HAIN.out j hjA
                have kR := read_any wr d N F (cS (lefF E) (n + k)) A[j] h8.dk (HANL.out _ q3) (by omega)
                rw [(cl_read (n := n + k) (lefF_I HI.out) (lefF_has q3)).1, (cl_read (n := n + k) (lefF_I HI.out) (lefF_has q3)).2, lefF_byt q2] at kR
                obtain ⟨tj, htj⟩ : ∃ t, t = A[j] := ⟨_, rfl⟩
                obtain ⟨mj, hmj⟩ : ∃ t, t = bytF E A[j] := ⟨_, rfl⟩
                rw [← hmj] at kR cy
                rw [← htj] at cj kR
                have HBO : Hid (∀ w', Below wr.heap.size wr w' → w'.cell? ⟨yb, yo + j, none⟩ = some (.string ⟨mj.toArray⟩)) := fun w' hb => by rw [hb.cell (World.block_lt_of_cell? _ _ cy), cy]
                have HW1 : Hid (wrap64 ((j : Int) + 1) = (j : Int) + 1) := by apply hide; rw [← IntWalk.i64_left, IntKind.wrap_i64]; omega
                clear htj hmj hxc hyc hxs hys q1 q2 q3 hjA hjB hBj h8 cy
                go_wp2_with fail
                refine kR.mono ?_
                rintro e w8 ⟨v8, rfl, o8, b8⟩
                have HB8 : Hid (Below w7.heap.size w7 w8) := HBj.out.trans (b8.mono HBj.out.size)
                have zy := fun nq os => cell_gro (HBO.out w8 b8) nq os
                obtain ⟨za, zc, hz8, -⟩ := o8.reads
                have zcv := fun nq os => conv_string (Go.Sort.grow (w8.drewN nq) os) v8 _ (o8.reads.below (below_gr w8 nq os))
                subst hz8
                clear kR o8 b8 cj
                go_wp2_with fail
                refine wp_region_quiet_grown (by assumption) (by kernel_rfl) ?_
                repeat (go_big_quiet_step (fail))
                refine wpQuiet_nil ?_
                intro T hw'
                obtain ⟨⟨nq, osq⟩, hw''⟩ := hw'
                have HBT : Hid (Below w7.heap.size w7 T) := by apply hide; rw [hw'']; exact HB8.out.trans ((below_gr w8 nq osq).mono HB8.out.size)
                clear hw'' zy zcv
                go_wp2_with fail
                go_roundg (L - (j + 1))
                case measure => exact Nat.lt_of_lt_of_le (Nat.sub_lt_sub_left hjL (Nat.lt_succ_self j)) hjx
                case rel => exact ⟨j + 1, by first | (rw [HW1.out]; rfl) | rfl, hjL, Nat.le_refl _, HBT⟩
              · have hjz : ¬ (j : Int) < (L : Int) := by omega
                go_wp2_with fail
                refine (open_nil wr).mono ?_
                rintro e wq ⟨rfl, rfl⟩
                go_wp2_with fail
                go_ret
                exact ⟨rfl, HC7.out.bel.trans (HBj.out.mono HC7.out.bel.size)⟩
end Go.Proofs.Ythegdhbmfojdaaa
