/- The contract of the reference's Build. -/
import Derived.Test.YtfhldldcfdimhaaRef3
import Derived.Test.YtfhldldcfdimhaaBuild1
namespace Go.Proofs.Ytfhldldcfdimhaa
open Go.RowKit Go.Shelf Go.Sort

/-- 'append(x, y...)' where x is an owned row of texts or nil and y reads as texts, nil or not. -/
theorem wp_apps {w : World} {ops : Array Oper} {rest : List Oper} {o : Oper} {a : Act} {Q : Exit → Act → World → Prop} (hgd : o.guard = none) (s x : Operand)
    (ho : o.op = .call { callee := .builtin .append, args := #[s, x], argTypes := #[22, 22] }) (base : Nat) (v : Value) (l m : List Str) (hs : a.eval s = v) (hown : Own w base 9 v (sv l))
    (ao : Option Addr) (n cap : Nat) (hx : a.eval x = .slice ao n cap) (hn : n = m.length) (hnone : ao = none → m.length = 0 ∧ cap = 0)
    (hsrc : ∀ ad, ao = some ad → ∀ j u, (sv m)[j]? = some u → w.cell? (ad.add j) = some u) (hb : (l.length + m.length) * 16 ≤ 140737488355328) (hbase : base ≤ w.heap.size)
    (h : ∀ v' w', Own w' base 9 v' (sv (l ++ m)) → w.grownBy w' v.ownBlock → wpList Try.prog ops Q rest (a.put o.dst v') w') : wpList Try.prog ops Q (o :: rest) a w := by
  subst hn
  obtain ⟨i0, hi, hz0, hz1, hz2⟩ := info_parts Try.info_str
  cases ao with
  | none =>
    obtain ⟨h0, rfl⟩ := hnone rfl
    obtain rfl : m = [] := List.eq_nil_of_length_eq_zero h0
    refine wpList_append_own_none hgd s x 22 ho base 9 i0 1 Try.underlying22 hi v _ _ hs hown hx ?_
    refine h v w ?_ (World.grownBy.refl _ _)
    rw [List.append_nil]; exact hown
  | some ad =>
    refine wpList_append_own _ hgd s x 22 ho base 9 i0 (.string ⟨#[]⟩) 1 16 Try.underlying22 hi hz0 hz1 hz2 rfl (by decide) v _ _ hs hown ad m.length cap (sv m) hx (by simp [sv_length]) (hsrc ad rfl) (sv_one m) (by rw [sv_length]; unfold maxLen; omega) (by rw [sv_length]; omega) hbase ?_
    intro v' w' ho' hg' _
    refine h v' w' ?_ hg'
    unfold Own
    rw [sv_append, List.length_append, sv_length, sv_length]
    rw [sv_length] at ho'
    exact ho'
theorem grown_belows {base : Nat} {w wr w1 : World} {u : Value} {xs : List Value} {e : Nat} (hbel : Below base w wr) (hb : base ≤ wr.heap.size) (hown : Own wr base e u xs) (hg : wr.grownBy w1 u.ownBlock) : Below base w w1 :=
  hbel.grown hg hb (fun k hk => (World.ownsRow.lt hown k hk).1)

theorem inss_take (ts : List Str) (i : Nat) (h : i < ts.length) : inss (ts.take (i + 1)) = ins (inss (ts.take i)) (ts.getD i []) := by
  rw [getD_at h, List.take_succ_eq_append_getElem h]
  unfold inss
  rw [List.foldl_append]
  rfl
theorem inss_length_le : ∀ (ts : List Str), (inss ts).length ≤ ts.length := by
  intro ts
  rw [inss_uniq]
  exact uniq_length_le ts
theorem part_src {w : World} {b off : Nat} {l : List Str} (h : ∀ i u, (sv l)[i]? = some u → w.cell? ⟨b, off + i, none⟩ = some u) (k : Nat) : ∀ ad, some (⟨b, off, none⟩ : Addr) = some ad → ∀ j u, (sv (l.take k))[j]? = some u → w.cell? (ad.add j) = some u := by
  rintro ad ⟨rfl⟩ j u hj
  rw [Addr.add_lit]
  refine h j u ?_
  simp only [sv, List.getElem?_map, List.getElem?_take] at hj ⊢
  split at hj
  · exact hj
  · simp at hj
theorem rest_src {w : World} {b off : Nat} {l : List Str} (h : ∀ i u, (sv l)[i]? = some u → w.cell? ⟨b, off + i, none⟩ = some u) (k : Nat) : ∀ ad, some (⟨b, off + k, none⟩ : Addr) = some ad → ∀ j u, (sv (l.drop k))[j]? = some u → w.cell? (ad.add j) = some u := by
  rintro ad ⟨rfl⟩ j u hj
  rw [Addr.add_lit, Nat.add_assoc]
  refine h (k + j) u ?_
  simp only [sv, List.getElem?_map, List.getElem?_drop] at hj ⊢
  exact hj
theorem one_src (w : World) (t : Str) : ∀ ad, some (⟨w.heap.size, 0, none⟩ : Addr) = some ad → ∀ j u, (sv [t])[j]? = some u → (w.alloc (.cells #[.string ⟨t.toArray⟩] 9)).cell? (ad.add j) = some u := by
  rintro ad ⟨rfl⟩ j u hj
  obtain rfl : j = 0 := by
    have := (List.getElem?_eq_some_iff.1 hj).1
    simp [sv] at this
    omega
  simp [sv] at hj
  subst hj
  rw [Addr.add_lit]
  exact cell_new_sl w _ _
set_option maxRecDepth 100000 in
set_option maxHeartbeats 3200000 in
theorem refbuild_any (w : World) (v : Value) (ts : List Str) (h : Rds w v (sv ts)) (hbig : ts.length * 16 ≤ 140737488351232) :
    Calls Try.prog 11 #[v] w fun e w' => (okT ts → ∃ v', e = .returned (.tuple #[v', .int .i64 0]) ∧ Own w' w.heap.size 9 v' (sv (uniq ts))) ∧ (¬ okT ts → e = .returned (.tuple #[.slice none 0 0, .int .i64 1])) ∧ Below w.heap.size w w' := by
  obtain ⟨ao, n, cap, rfl⟩ : ∃ ao n cap, v = .slice ao n cap := by obtain ⟨ao, cap, rfl, _⟩ := h; exact ⟨_, _, _, rfl⟩
  obtain ⟨rfl, h1, h2, h3⟩ := h.cells
  simp only [sv_length] at *
  have h2' : cap ≤ 9223372036854775807 := by unfold maxLen at h2; omega
  obtain ⟨n, hn⟩ : ∃ n, n = ts.length := ⟨_, rfl⟩
  rw [← hn] at h1 h3 hbig ⊢
  have HN := hide hn
  clear hn h
  obtain ⟨i0, hin, hz0, hz1, hz2⟩ := info_parts Try.info_str
  go_enter Try.func11, Try.ntmps11
  go_wp2_with fail
  go_loopw [5] (fun vi wq => ∃ i : Nat, vi = .int .i64 i ∧ Hid (i ≤ n ∧ ∀ j, j < i → (ts.getD j []).length ≤ 64) ∧ Hid (wq = w)) (fun vi _ => n - (intOf vi).toNat)
  case atStart => exact ⟨0, rfl, hide ⟨by omega, fun j hj => by omega⟩, hide rfl⟩
  case round =>
    obtain ⟨i, rfl, HI, hwq⟩ := hrel
    obtain rfl := unhide hwq
    have hi := (unhide HI).1
    by_cases hlt : i < n
    · have hlt' : (i : Int) < (n : Int) := by omega
      have hltn : i < ts.length := by rw [← unhide HN]; exact hlt
      obtain ⟨b, off, rfl, hc⟩ := h3 (by omega)
      have hck := hc i _ (sv_get ts i hltn)
      obtain ⟨t, ht⟩ : ∃ t, t = ts.getD i [] := ⟨_, rfl⟩
      rw [← ht] at hck
      have HT := hide ht
      clear ht hc h3
      have hsz := str_size t
      by_cases hl : 64 < t.length
      · have hl' : (64 : Int) < (t.length : Int) := by omega
        go_wp2_with fail
        go_ret2
        refine ⟨fun hok => ?_, fun _ => rfl, Below.refl _ _⟩
        exfalso
        have := hok.1 t (by rw [unhide HT, getD_at hltn]; exact List.getElem_mem hltn)
        omega
      · have hl' : ¬ (64 : Int) < (t.length : Int) := by omega
        go_wp2_with fail
        go_roundw
        case rel =>
          refine ⟨i + 1, by go_num, hide ⟨by omega, fun j hj => ?_⟩, hide trivial⟩
          by_cases hji : j = i
          · subst hji; rw [← unhide HT]; omega
          · exact (unhide HI).2 j (by omega)
        case measure => simp [intOf]; omega
    · have hlt' : ¬ (i : Int) < (n : Int) := by omega
      have e : i = n := by omega
      subst e
      have hall : ∀ t ∈ ts, t.length ≤ 64 := fun t ht => by
        obtain ⟨j, hj, rfl⟩ := List.getElem_of_mem ht
        rw [← getD_at hj]
        exact (unhide HI).2 j (by rw [unhide HN]; exact hj)
      have HALL := hide hall
      clear hall HI hwq
      obtain ⟨w, rfl⟩ : ∃ w2, w2 = wr := ⟨_, rfl⟩
      go_wp2_with fail
      go_loopw [4, 6] (fun vo vi wq => ∃ j : Nat, vi = .int .i64 j ∧ Hid (j ≤ i) ∧ Own wq w.heap.size 9 vo (sv (inss (ts.take j))) ∧ Below w.heap.size w wq ∧ Hid (inss (ts.take j) = [] → vo = .slice none 0 0)) (fun _ vi _ => i - (intOf vi).toNat)
      case atStart => exact ⟨0, rfl, hide (by omega), ⟨rfl, .inl ⟨rfl, rfl⟩⟩, Below.refl _ _, hide fun _ => rfl⟩
      case round =>
        obtain ⟨j, rfl, hj, own, bel, HNIL⟩ := hrel
        have hj := unhide hj
        by_cases hjl : j < i
        · have hjl' : (j : Int) < (i : Int) := by omega
          have hjn : j < ts.length := by rw [← unhide HN]; exact hjl
          obtain ⟨b, off, rfl, hc⟩ := h3 (by omega)
          have hck := hc j _ (sv_get ts j hjn)
          have hckB : ∀ w', Below w.heap.size w w' → w'.cell? ⟨b, off + j, none⟩ = some (.string ⟨(ts.getD j []).toArray⟩) := fun w' hb => (hb.cell (World.block_lt_of_cell? _ _ hck)).trans hck
          have hins := inss_take ts j hjn
          have hri := (inss_facts (ts.take j)).1
          have hle := inss_length_le (ts.take j)
          have hle : (inss (ts.take j)).length ≤ j := by simp at hle; omega
          generalize inss (ts.take j) = l at *
          generalize ts.getD j [] = t at *
          have HINS := hide hins
          have HCK := hide hckB
          have hc0 := hckB _ bel
          clear hins hckB hck hc h3
          obtain ⟨ao, n, cp, rfl⟩ : ∃ ao n cap, u4 = .slice ao n cap := by obtain ⟨ao, cap, hv, _⟩ := own.rds; exact ⟨_, _, _, hv⟩
          have hn := own.rds.cells.1
          rw [sv_length] at hn
          subst hn
          have kF := reffrom_any wr _ l t own.rds hri
          have hfr := frm_le l t
          have hif : ins l t = if frm l t < l.length ∧ l.getD (frm l t) [] = t then l else l.take (frm l t) ++ t :: l.drop (frm l t) := rfl
          generalize frm l t = k at *
          have HIF := hide hif
          clear hif
          go_wp2_with fail
          refine kF.mono ?_
          rintro e w3 ⟨rfl, rfl⟩
          by_cases h0 : 0 < l.length
          · obtain ⟨g, oo, rfl, hcl⟩ := own.rds.cells.2.2.2 (by rw [sv_length]; exact h0)
            have hcp := own.rds.cells.2.1
            rw [sv_length] at hcp
            have hcm := own.rds.cells.2.2.1
            unfold maxLen at hcm
            have hgl := World.block_lt_of_cell? _ _ (hcl 0 _ (sv_get l 0 h0))
            have hclB : ∀ w', Below w3.heap.size w3 w' → ∀ i u, (sv l)[i]? = some u → w'.cell? ⟨g, oo + i, none⟩ = some u := fun w' hb i u hi => by
              have := hcl i u hi
              rw [hb.cell (World.block_lt_of_cell? _ _ this)]; exact this
            have HCL := hide hclB
            have hki : (k : Int) ≤ (l.length : Int) := by omega
            have hkc : (k : Int) ≤ (cp : Int) := by omega
            have s1 := part_src hcl k
            have htk : (l.take k).length = k := by simp; omega
            have hdk : (l.drop k).length = l.length - k := by simp
            have hbn1 : (([] : List Str).length + (l.take k).length) * 16 ≤ 140737488355328 := by rw [htk]; simp; omega
            have hbn2 : (([] ++ l.take k).length + ([t] : List Str).length) * 16 ≤ 140737488355328 := by simp; omega
            have hbn3 : (([] ++ l.take k ++ [t]).length + (l.drop k).length) * 16 ≤ 140737488355328 := by simp; omega
            by_cases hk : k < l.length
            · have hk' : (k : Int) < (l.length : Int) := by omega
              have hck := hcl k _ (sv_get l k hk)
              generalize l.getD k [] = t' at *
              by_cases he : t' = t
              · subst he
                have e1 : ins l t' = l := by rw [unhide HIF, if_pos ⟨hk, rfl⟩]
                have E1 := hide e1
                clear e1 s1 hcl hclB
                go_wp2_with fail
                go_quiet (fail)
                go_wp2_with fail
                go_roundw
                case rel => exact ⟨j + 1, by go_num, hide (by omega), by rw [unhide HINS, unhide E1]; exact own, below_dN bel _, hide fun x => by rw [unhide HINS, unhide E1] at x; rw [x] at h0; simp at h0⟩
                case measure => simp [intOf]; omega
              · have e1 : ins l t = l.take k ++ t :: l.drop k := by rw [unhide HIF, if_neg (fun x => he x.2)]
                have E1 := hide e1
                have hbe := beq_str he
                clear e1 hcl hclB
                go_wp2_with fail
                go_quiet (fail)
                obtain ⟨V, hV⟩ : ∃ V, V = w3.drewN nq := ⟨_, rfl⟩
                rw [← hV]
                have bV : Below w3.heap.size w3 V := by rw [hV]; exact below_dN (Below.refl _ _) _
                have hcV := unhide HCK V (bel.trans (bV.mono bel.size))
                have s1 := part_src (unhide HCL V bV) k
                have hVs := bV.size
                have ow : Own V w3.heap.size 9 (.slice none 0 0) (sv []) := ⟨rfl, .inl ⟨rfl, rfl⟩⟩
                clear hV kF hc0 hck
                go_wp2_with (first
                  | (at_builtin; refine wp_apps rfl (.tmp 48) (.tmp 51) rfl w3.heap.size _ [] (l.take k) rfl ow (some ⟨g, oo, none⟩) k cp rfl htk.symm (fun h => by cases h) s1 hbn1 hVs ?_; intro v4 w4 o4 g4; have b4 : Below w3.heap.size w3 w4 := bV.grown g4 hVs (fun k hk => by cases hk); have hc4 := unhide HCK w4 (bel.trans (b4.mono bel.size)); have hs4 := b4.size; have o4' : Own (w4.alloc (.cells #[.string ⟨t.toArray⟩] 9)) w3.heap.size 9 v4 (sv ([] ++ l.take k)) := o4.below ((Below.refl _ _).alloc (Nat.le_refl _) _))
                  | (at_builtin; refine wp_apps rfl (.tmp 53) (.tmp 58) rfl w3.heap.size _ ([] ++ l.take k) [t] rfl o4' (some ⟨w4.heap.size, 0, none⟩) 1 1 rfl rfl (fun h => by cases h) (one_src w4 t) hbn2 (by simp; omega) ?_; intro v5 w5 o5 g5; have b5 : Below w3.heap.size w3 w5 := grown_belows (b4.alloc hs4 _) (by simp; omega) o4' g5; have hs5 := b5.size; have s3 := rest_src (unhide HCL w5 b5) k)
                  | (at_builtin; refine wp_apps rfl (.tmp 60) (.tmp 63) rfl w3.heap.size _ ([] ++ l.take k ++ [t]) (l.drop k) rfl o5 (some ⟨g, oo + k, none⟩) (l.length - k) (cp - k) rfl hdk.symm (fun h => by cases h) s3 hbn3 hs5 ?_; intro v6 w6 o6 g6; have b6 : Below w3.heap.size w3 w6 := grown_belows b5 hs5 o5 g6))
                go_roundw
                case rel =>
                  have e : inss (ts.take (j + 1)) = [] ++ l.take k ++ [t] ++ l.drop k := by rw [unhide HINS, unhide E1]; simp
                  exact ⟨j + 1, by go_num, hide (by omega), by rw [e]; exact o6.mono bel.size, bel.trans (b6.mono bel.size), hide fun x => by rw [e] at x; simp at x⟩
                case measure => simp [intOf]; omega
            · have hk' : ¬ (k : Int) < (l.length : Int) := by omega
              have e1 : ins l t = l.take k ++ t :: l.drop k := by rw [unhide HIF, if_neg (fun x => hk x.1)]
              have E1 := hide e1
              have hd0 : ∀ (w' : World) (x : Option Addr) ad, x = some ad → ∀ j u, (sv (l.drop k))[j]? = some u → w'.cell? (ad.add j) = some u := fun w' _ ad _ j u hj => by
                rw [show l.drop k = [] from List.drop_of_length_le (by omega)] at hj
                simp [sv] at hj
              have HD0 := hide hd0
              clear hd0
              clear e1 hcl hclB
              by_cases hkcp : k = cp
              · subst hkcp
                go_wp2_with fail
                go_quiet (fail)
                obtain ⟨V, hV⟩ : ∃ V, V = w3.drewN nq := ⟨_, rfl⟩
                rw [← hV]
                have bV : Below w3.heap.size w3 V := by rw [hV]; exact below_dN (Below.refl _ _) _
                have hcV := unhide HCK V (bel.trans (bV.mono bel.size))
                have s1 := part_src (unhide HCL V bV) k
                have hVs := bV.size
                have ow : Own V w3.heap.size 9 (.slice none 0 0) (sv []) := ⟨rfl, .inl ⟨rfl, rfl⟩⟩
                clear hV kF hc0
                go_wp2_with (first
                  | (at_builtin; refine wp_apps rfl (.tmp 48) (.tmp 51) rfl w3.heap.size _ [] (l.take k) rfl ow (some ⟨g, oo, none⟩) k k rfl htk.symm (fun h => by cases h) s1 hbn1 hVs ?_; intro v4 w4 o4 g4; have b4 : Below w3.heap.size w3 w4 := bV.grown g4 hVs (fun k hk => by cases hk); have hc4 := unhide HCK w4 (bel.trans (b4.mono bel.size)); have hs4 := b4.size; have o4' : Own (w4.alloc (.cells #[.string ⟨t.toArray⟩] 9)) w3.heap.size 9 v4 (sv ([] ++ l.take k)) := o4.below ((Below.refl _ _).alloc (Nat.le_refl _) _))
                  | (at_builtin; refine wp_apps rfl (.tmp 53) (.tmp 58) rfl w3.heap.size _ ([] ++ l.take k) [t] rfl o4' (some ⟨w4.heap.size, 0, none⟩) 1 1 rfl rfl (fun h => by cases h) (one_src w4 t) hbn2 (by simp; omega) ?_; intro v5 w5 o5 g5; have b5 : Below w3.heap.size w3 w5 := grown_belows (b4.alloc hs4 _) (by simp; omega) o4' g5; have hs5 := b5.size; have s3 := rest_src (unhide HCL w5 b5) k)
                  | (at_builtin; refine wp_apps rfl (.tmp 60) (.tmp 63) rfl w3.heap.size _ ([] ++ l.take k ++ [t]) (l.drop k) rfl o5 _ _ _ rfl (by first | exact hdk.symm | omega | (simp; done)) (by first | (intro h; cases h; done) | (intro _; exact ⟨by omega, rfl⟩)) (fun ad h j u => unhide HD0 w5 _ ad h j u) hbn3 hs5 ?_; intro v6 w6 o6 g6; have b6 : Below w3.heap.size w3 w6 := grown_belows b5 hs5 o5 g6))
                go_roundw
                case rel =>
                  have e : inss (ts.take (j + 1)) = [] ++ l.take k ++ [t] ++ l.drop k := by rw [unhide HINS, unhide E1]; simp
                  exact ⟨j + 1, by go_num, hide (by omega), by rw [e]; exact o6.mono bel.size, bel.trans (b6.mono bel.size), hide fun x => by rw [e] at x; simp at x⟩
                case measure => simp [intOf]; omega
              · go_wp2_with fail
                go_quiet (fail)
                obtain ⟨V, hV⟩ : ∃ V, V = w3.drewN nq := ⟨_, rfl⟩
                rw [← hV]
                have bV : Below w3.heap.size w3 V := by rw [hV]; exact below_dN (Below.refl _ _) _
                have hcV := unhide HCK V (bel.trans (bV.mono bel.size))
                have s1 := part_src (unhide HCL V bV) k
                have hVs := bV.size
                have ow : Own V w3.heap.size 9 (.slice none 0 0) (sv []) := ⟨rfl, .inl ⟨rfl, rfl⟩⟩
                clear hV kF hc0
                go_wp2_with (first
                  | (at_builtin; refine wp_apps rfl (.tmp 48) (.tmp 51) rfl w3.heap.size _ [] (l.take k) rfl ow (some ⟨g, oo, none⟩) k cp rfl htk.symm (fun h => by cases h) s1 hbn1 hVs ?_; intro v4 w4 o4 g4; have b4 : Below w3.heap.size w3 w4 := bV.grown g4 hVs (fun k hk => by cases hk); have hc4 := unhide HCK w4 (bel.trans (b4.mono bel.size)); have hs4 := b4.size; have o4' : Own (w4.alloc (.cells #[.string ⟨t.toArray⟩] 9)) w3.heap.size 9 v4 (sv ([] ++ l.take k)) := o4.below ((Below.refl _ _).alloc (Nat.le_refl _) _))
                  | (at_builtin; refine wp_apps rfl (.tmp 53) (.tmp 58) rfl w3.heap.size _ ([] ++ l.take k) [t] rfl o4' (some ⟨w4.heap.size, 0, none⟩) 1 1 rfl rfl (fun h => by cases h) (one_src w4 t) hbn2 (by simp; omega) ?_; intro v5 w5 o5 g5; have b5 : Below w3.heap.size w3 w5 := grown_belows (b4.alloc hs4 _) (by simp; omega) o4' g5; have hs5 := b5.size; have s3 := rest_src (unhide HCL w5 b5) k)
                  | (at_builtin; refine wp_apps rfl (.tmp 60) (.tmp 63) rfl w3.heap.size _ ([] ++ l.take k ++ [t]) (l.drop k) rfl o5 (some ⟨g, oo + k, none⟩) (l.length - k) (cp - k) rfl hdk.symm (fun h => by cases h) s3 hbn3 hs5 ?_; intro v6 w6 o6 g6; have b6 : Below w3.heap.size w3 w6 := grown_belows b5 hs5 o5 g6))
                go_roundw
                case rel =>
                  have e : inss (ts.take (j + 1)) = [] ++ l.take k ++ [t] ++ l.drop k := by rw [unhide HINS, unhide E1]; simp
                  exact ⟨j + 1, by go_num, hide (by omega), by rw [e]; exact o6.mono bel.size, bel.trans (b6.mono bel.size), hide fun x => by rw [e] at x; simp at x⟩
                case measure => simp [intOf]; omega
          · obtain rfl : l = [] := List.eq_nil_of_length_eq_zero (by omega)
            have hv := unhide HNIL rfl
            simp only [List.length_nil, Value.slice.injEq, true_and] at hv
            obtain ⟨rfl, rfl⟩ := hv
            obtain rfl : k = 0 := by simpa using hfr
            have e1 : ins [] t = [t] := by rw [unhide HIF, if_neg (fun x => by have := x.1; simp at this)]; simp
            have E1 := hide e1
            simp only [List.length_nil] at own
            have hbn1 : (([] : List Str).length + ([] : List Str).length) * 16 ≤ 140737488355328 := by simp
            have hbn2 : (([] ++ [] : List Str).length + ([t] : List Str).length) * 16 ≤ 140737488355328 := by simp
            have hbn3 : (([] ++ [] ++ [t] : List Str).length + ([] : List Str).length) * 16 ≤ 140737488355328 := by simp
            clear e1 hfr hle kF h0
            go_wp2_with fail
            go_quiet (fail)
            obtain ⟨V, hV⟩ : ∃ V, V = w3.drewN nq := ⟨_, rfl⟩
            rw [← hV]
            have bV : Below w3.heap.size w3 V := by rw [hV]; exact below_dN (Below.refl _ _) _
            have hcV := unhide HCK V (bel.trans (bV.mono bel.size))
            have hVs := bV.size
            have ow : Own V w3.heap.size 9 (.slice none 0 0) (sv []) := ⟨rfl, .inl ⟨rfl, rfl⟩⟩
            clear hV hc0
            go_wp2_with (first
              | (at_builtin; refine wp_apps rfl (.tmp 48) (.tmp 51) rfl w3.heap.size _ [] [] rfl ow none 0 0 rfl rfl (fun _ => ⟨rfl, rfl⟩) (fun _ h => by cases h) hbn1 hVs ?_; intro v4 w4 o4 g4; have b4 : Below w3.heap.size w3 w4 := bV.grown g4 hVs (fun k hk => by cases hk); have hc4 := unhide HCK w4 (bel.trans (b4.mono bel.size)); have hs4 := b4.size; have o4' : Own (w4.alloc (.cells #[.string ⟨t.toArray⟩] 9)) w3.heap.size 9 v4 (sv ([] ++ [])) := o4.below ((Below.refl _ _).alloc (Nat.le_refl _) _))
              | (at_builtin; refine wp_apps rfl (.tmp 53) (.tmp 58) rfl w3.heap.size _ ([] ++ []) [t] rfl o4' (some ⟨w4.heap.size, 0, none⟩) 1 1 rfl rfl (fun h => by cases h) (one_src w4 t) hbn2 (by simp; omega) ?_; intro v5 w5 o5 g5; have b5 : Below w3.heap.size w3 w5 := grown_belows (b4.alloc hs4 _) (by simp; omega) o4' g5; have hs5 := b5.size)
              | (at_builtin; refine wp_apps rfl (.tmp 60) (.tmp 63) rfl w3.heap.size _ ([] ++ [] ++ [t]) [] rfl o5 none 0 0 rfl rfl (fun _ => ⟨rfl, rfl⟩) (fun _ h => by cases h) hbn3 hs5 ?_; intro v6 w6 o6 g6; have b6 : Below w3.heap.size w3 w6 := grown_belows b5 hs5 o5 g6))
            go_roundw
            case rel =>
              have e : inss (ts.take (j + 1)) = [] ++ [] ++ [t] ++ [] := by rw [unhide HINS, unhide E1]; simp
              exact ⟨j + 1, by go_num, hide (by omega), by rw [e]; exact o6.mono bel.size, bel.trans (b6.mono bel.size), hide fun x => by rw [e] at x; simp at x⟩
            case measure => simp [intOf]; omega
        · have hjl' : ¬ (j : Int) < (i : Int) := by omega
          have e : j = i := by omega
          subst e
          rw [unhide HN, List.take_length, inss_uniq] at own
          obtain ⟨ao', n', cp, rfl⟩ : ∃ ao n cap, u4 = .slice ao n cap := by obtain ⟨ao, cap, hv, _⟩ := own.rds; exact ⟨_, _, _, hv⟩
          have hn := own.rds.cells.1
          rw [sv_length] at hn
          subst hn
          by_cases hm : 4096 < (uniq ts).length
          · have hm' : (4096 : Int) < ((uniq ts).length : Int) := by omega
            go_wp2_with fail
            go_ret2
            exact ⟨fun hok => absurd hok.2 (by omega), fun _ => rfl, bel⟩
          · have hm' : ¬ (4096 : Int) < ((uniq ts).length : Int) := by omega
            go_wp2_with fail
            go_ret2
            exact ⟨fun _ => ⟨_, rfl, own⟩, fun hn => absurd ⟨unhide HALL, by omega⟩ hn, bel⟩
end Go.Proofs.Ytfhldldcfdimhaa
