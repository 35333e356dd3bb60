/- Without power each call is refused, and nothing changes. -/
import Derived.Test.YtdcoeebpknipdaaKeM
import Derived.Shelf.SlSortCmp.QuietGrown
import Derived.BigQuiet
namespace Go.Proofs.Ytdcoeebpknipdaa
open Go.RowKit Go.Maps Go.Sort
set_option linter.unusedVariables false

theorem bk_new (w : World) : Bk (w.alloc (.cells #[.slice none 0 0, .slice none 0 0, .slice none 0 0] 41)) w.heap.size (fun i => i = w.heap.size) [] := ⟨_, _, _, BxA.new _ _ _, RowL.nil _ _ _, RowL.nil _ _ _, RowL.nil _ _ _, (fun r hr => by cases hr), rfl, (fun r hr => by cases hr), (fun r hr => by cases hr), (fun r hr => by cases hr), by simp, fun i hi => by rw [hi]; simp⟩
theorem below_gr (w : World) (q : Nat) (os : Array Obj) : Below w.heap.size w (Go.Sort.grow (w.drewN q) os) :=
  ⟨rfl, rfl, rfl, by show _ ≤ ((w.drewN q).heap ++ os).size; rw [Array.size_append]; exact Nat.le_add_right _ _, fun i hi => by
    show ((w.drewN q).heap ++ os)[i]? = _
    rw [Array.getElem?_append_left (by exact hi)]
    rfl⟩
theorem cell_gro {w : World} {a : Addr} {v : Value} (h : w.cell? a = some v) (nq : Nat) (os : Array Obj) : (Go.Sort.grow (w.drewN nq) os).cell? a = some v := by
  rw [(below_gr w nq os).cell (World.block_lt_of_cell? _ _ h), h]
theorem ext_take (l : Str) (m : Nat) : (⟨l.toArray⟩ : ByteArray).extract 0 m = ⟨(l.take m).toArray⟩ := by
  apply ByteArray.ext
  simp [ByteArray.data_extract]
theorem cut_all {w : World} {d N : Nat} {F : Nat → Prop} {s : St} (h : Dk w d F N s) (hN : N ≤ 4611686018427387904) : (s.fs.map (cutF 4611686018427387904)).map (fun f => (f.nm, f.bs)) = s.fs.map fun f => (f.nm, f.bs) := by
  rw [List.map_map]
  refine List.map_congr_left fun f hf => ?_
  have h1 := h.len f hf
  have h2 := h.sync f hf
  simp only [Function.comp, cutF, Prod.mk.injEq, true_and]
  exact List.take_of_length_le (by unfold cutK; omega)
theorem off_codes {s : St} (h : s.off = true) (t u b : Str) : s.append t b = (122, s) ∧ s.sync t = (122, s) ∧ s.rename t u = (122, s) ∧ s.remove t = (122, s) ∧ rfF s t [] = 122 ∧ rdC s t = [] ∧ lstN s t = [] := by
  have hc : ∀ ns, rfC s ns = 122 := fun ns => by unfold rfC; rw [h]; rfl
  have hf : ∀ t ns, rfF s t ns = 122 := fun t ns => by unfold rfF; rw [hc]; rfl
  have hb : ∀ t ns, s.begins t ns = (122, s) := fun t ns => by unfold St.begins; rw [hf]; rfl
  refine ⟨?_, ?_, ?_, ?_, hf _ _, ?_, ?_⟩
  · unfold St.append; rw [hc]; rfl
  · unfold St.sync; rw [hb]; rfl
  · unfold St.rename; rw [hb]; rfl
  · unfold St.remove; rw [hb]; rfl
  · unfold rdC; rw [hf]; rfl
  · unfold lstN; rw [h]; rfl
/-- Behind the cut: the book and the disk, apart, of the law's own. -/
structure Po (w0 w : World) (b d : Nat) (N : Nat) (E : List Fl) (s : St) : Prop where
  ex : ∃ G F : Nat → Prop, Bk w b G E ∧ Dk w d F N s ∧ (∀ i, G i → ¬ F i) ∧ (∀ i, G i → w0.heap.size ≤ i) ∧ (∀ i, F i → w0.heap.size ≤ i)
  bel : Below w0.heap.size w0 w
theorem Po.below {w0 w w' : World} {b d N : Nat} {E : List Fl} {s : St} (h : Po w0 w b d N E s) (hb : Below w.heap.size w w') : Po w0 w' b d N E s := by
  obtain ⟨⟨G, F, h1, h2, h3, h4, h5⟩, h6⟩ := h
  exact ⟨⟨G, F, h1.below hb, h2.below hb, h3, h4, h5⟩, h6.trans (hb.mono h6.size)⟩
theorem Po.disk {w0 w w' : World} {b d N M : Nat} {E : List Fl} {s s' : St} {F F' G : Nat → Prop} (hB : Bk w b G E) (hap : ∀ i, G i → ¬ F i) (hG : ∀ i, G i → w0.heap.size ≤ i) (hF : ∀ i, F i → w0.heap.size ≤ i) (bel : Below w0.heap.size w0 w) (hd : Dk w' d F' M s') (hF' : ∀ i, F' i → F i ∨ w.heap.size ≤ i) (fr : Fr F w w') : Po w0 w' b d M E s' := by
  have hs := bel.size
  exact ⟨⟨G, F', hB.other fr hap, hd, fun i h1 h2 => (hF' i h2).elim (hap i h1) fun h => by have := hB.lt i h1; omega, hG, fun i hi => (hF' i hi).elim (hF i) fun h => by omega⟩, bel.trans (fr.below hs hF)⟩
/-- And a box besides. -/
structure Pb (w0 w : World) (b d : Nat) (N : Nat) (E : List Fl) (s : St) (x : Nat) (cs : Array Value) : Prop where
  ex : ∃ G F : Nat → Prop, Bk w b G E ∧ Dk w d F N s ∧ (∀ i, G i → ¬ F i) ∧ (∀ i, G i → w0.heap.size ≤ i) ∧ (∀ i, F i → w0.heap.size ≤ i) ∧ ¬ F x
  bel : Below w0.heap.size w0 w
  box : BxA w x 31 cs
theorem Pb.below {w0 w w' : World} {b d N x : Nat} {E : List Fl} {s : St} {cs : Array Value} (h : Pb w0 w b d N E s x cs) (hb : Below w.heap.size w w') : Pb w0 w' b d N E s x cs := by
  obtain ⟨⟨G, F, h1, h2, h3, h4, h5, hx⟩, h6, h7⟩ := h
  refine ⟨⟨G, F, h1.below hb, h2.below hb, h3, h4, h5, hx⟩, h6.trans (hb.mono h6.size), ?_⟩
  have := h7
  unfold BxA at this ⊢
  rw [hb.block _ h7.lt]
  exact this
theorem Pb.disk {w0 w w' : World} {b d N M x : Nat} {E : List Fl} {s s' : St} {F F' G : Nat → Prop} {cs : Array Value} (hB : Bk w b G E) (hap : ∀ i, G i → ¬ F i) (hG : ∀ i, G i → w0.heap.size ≤ i) (hF : ∀ i, F i → w0.heap.size ≤ i) (hx : ¬ F x) (bel : Below w0.heap.size w0 w) (hbx : BxA w x 31 cs) (hd : Dk w' d F' M s') (hF' : ∀ i, F' i → F i ∨ w.heap.size ≤ i) (fr : Fr F w w') : Pb w0 w' b d M E s' x cs := by
  obtain ⟨⟨G', F'', h1⟩, h2⟩ := Po.disk (N := N) (s := s) hB hap hG hF bel hd hF' fr
  have hs := bel.size
  refine ⟨⟨G, F', hB.other fr hap, hd, fun i h1 h2 => (hF' i h2).elim (hap i h1) fun h => by have := hB.lt i h1; omega, hG, fun i hi => (hF' i hi).elim (hF i) fun h => by omega, fun h => (hF' x h).elim hx fun h => by have := hbx.lt; omega⟩, h2, ?_⟩
  have := hbx
  unfold BxA at this ⊢
  rw [fr.block _ hbx.lt hx]
  exact this
theorem Pb.po {w0 w : World} {b d N x : Nat} {E : List Fl} {s : St} {cs : Array Value} (h : Pb w0 w b d N E s x cs) : Po w0 w b d N E s := by
  obtain ⟨⟨G, F, h1, h2, h3, h4, h5, hx⟩, h6, h7⟩ := h
  exact ⟨⟨G, F, h1, h2, h3, h4, h5⟩, h6⟩
theorem Po.box {w0 w : World} {b d N : Nat} {E : List Fl} {s : St} (h : Po w0 w b d N E s) (cs : Array Value) : Pb w0 (w.alloc (.cells cs 31)) b d N E s w.heap.size cs := by
  have hb : Below w.heap.size w (w.alloc (.cells cs 31)) := (Below.refl _ _).alloc (Nat.le_refl _) _
  obtain ⟨⟨G, F, h1, h2, h3, h4, h5⟩, h6⟩ := h
  exact ⟨⟨G, F, h1.below hb, h2.below hb, h3, h4, h5, fun h => by have := h2.lt _ h; omega⟩, h6.trans (hb.mono h6.size), BxA.new _ _ _⟩
theorem Po.more {w0 w : World} {b d N M : Nat} {E : List Fl} {s : St} (h : Po w0 w b d N E s) (hm : N ≤ M) : Po w0 w b d M E s := by
  obtain ⟨⟨G, F, h1, h2, h3, h4, h5⟩, h6⟩ := h
  exact ⟨⟨G, F, h1, h2.more hm, h3, h4, h5⟩, h6⟩
theorem po_append (w0 w : World) (b d N : Nat) (E : List Fl) (s : St) (t : Str) (u : Value) (bs : Str) (x : Nat) (cs : Array Value) (h : Pb w0 w b d N E s x cs) (ho : s.off = true) (ht : t.length ≤ maxLen) (hr : Reads w0 u bs) (hl : N + bs.length ≤ 140737488355328) (hop : s.ops < 1000000) :
    Calls Try.prog 23 #[.pointer (some ⟨d, 0, none⟩), .string ⟨t.toArray⟩, u] w fun ev w' => ev = .returned (.int .i64 122) ∧ Pb w0 w' b d (N + bs.length) E s x cs := by
  obtain ⟨⟨G, F, h1, h2, h3, h4, h5, hx⟩, h6, hbx⟩ := h
  refine (append_any w d N F s t u bs h2 ht (fun w' hf => (hr.below h6).fra hr.blk h5 hf) hl hop).mono ?_
  rintro ev w' ⟨rfl, ⟨F', d', hF'⟩, fr⟩
  rw [(off_codes ho t [] bs).1] at d' ⊢
  exact ⟨rfl, Pb.disk (N := N) (s := s) h1 h3 h4 h5 hx h6 hbx d' hF' fr⟩
theorem po_sync (w0 w : World) (b d N : Nat) (E : List Fl) (s : St) (t : Str) (x : Nat) (cs : Array Value) (h : Pb w0 w b d N E s x cs) (ho : s.off = true) (ht : t.length ≤ maxLen) (hop : s.ops < 1000000) :
    Calls Try.prog 24 #[.pointer (some ⟨d, 0, none⟩), .string ⟨t.toArray⟩] w fun ev w' => ev = .returned (.int .i64 122) ∧ Pb w0 w' b d N E s x cs := by
  obtain ⟨⟨G, F, h1, h2, h3, h4, h5, hx⟩, h6, hbx⟩ := h
  refine (sync_any w d N F s t h2 ht hop).mono ?_
  rintro ev w' ⟨rfl, d', fr⟩
  rw [(off_codes ho t [] []).2.1] at d' ⊢
  exact ⟨rfl, Pb.disk (N := N) (s := s) h1 h3 h4 h5 hx h6 hbx d' (fun _ h => .inl h) fr⟩
theorem po_rename (w0 w : World) (b d N : Nat) (E : List Fl) (s : St) (t u : Str) (x : Nat) (cs : Array Value) (h : Pb w0 w b d N E s x cs) (ho : s.off = true) (ht : t.length ≤ maxLen) (hu : u.length ≤ maxLen) (hop : s.ops < 1000000) :
    Calls Try.prog 25 #[.pointer (some ⟨d, 0, none⟩), .string ⟨t.toArray⟩, .string ⟨u.toArray⟩] w fun ev w' => ev = .returned (.int .i64 122) ∧ Pb w0 w' b d N E s x cs := by
  obtain ⟨⟨G, F, h1, h2, h3, h4, h5, hx⟩, h6, hbx⟩ := h
  refine (rename_any w d N F s t u h2 ht hu hop).mono ?_
  rintro ev w' ⟨rfl, d', fr⟩
  rw [(off_codes ho t u []).2.2.1] at d' ⊢
  exact ⟨rfl, Pb.disk (N := N) (s := s) h1 h3 h4 h5 hx h6 hbx d' (fun _ h => .inl h) fr⟩
theorem po_remove (w0 w : World) (b d N : Nat) (E : List Fl) (s : St) (t : Str) (x : Nat) (cs : Array Value) (h : Pb w0 w b d N E s x cs) (ho : s.off = true) (ht : t.length ≤ maxLen) (hop : s.ops < 1000000) :
    Calls Try.prog 26 #[.pointer (some ⟨d, 0, none⟩), .string ⟨t.toArray⟩] w fun ev w' => ev = .returned (.int .i64 122) ∧ Pb w0 w' b d N E s x cs := by
  obtain ⟨⟨G, F, h1, h2, h3, h4, h5, hx⟩, h6, hbx⟩ := h
  refine (remove_any w d N F s t h2 ht hop).mono ?_
  rintro ev w' ⟨rfl, d', fr⟩
  rw [(off_codes ho t [] []).2.2.2.1] at d' ⊢
  exact ⟨rfl, Pb.disk (N := N) (s := s) h1 h3 h4 h5 hx h6 hbx d' (fun _ h => .inl h) fr⟩
theorem po_read (w0 w : World) (b d N : Nat) (E : List Fl) (s : St) (t : Str) (x : Nat) (cs : Array Value) (h : Pb w0 w b d N E s x cs) (ho : s.off = true) (ht : t.length ≤ maxLen) (hN : N ≤ 140737488355328) :
    Calls Try.prog 20 #[.pointer (some ⟨d, 0, none⟩), .string ⟨t.toArray⟩] w fun ev w' => ∃ a c, ev = .returned (.tuple #[.slice a 0 c, .int .i64 122]) ∧ Pb w0 w' b d N E s x cs := by
  obtain ⟨⟨G, F, h1, h2, h3, h4, h5, hx⟩, h6, hbx⟩ := h
  refine (read_any w d N F s t h2 ht hN).mono ?_
  rintro ev w' ⟨v, rfl, o, bw⟩
  rw [(off_codes ho t [] []).2.2.2.2.1]
  rw [(off_codes ho t [] []).2.2.2.2.2.1] at o
  obtain ⟨a, c, rfl, -⟩ := o.reads
  exact ⟨a, c, rfl, Pb.below ⟨⟨G, F, h1, h2, h3, h4, h5, hx⟩, h6, hbx⟩ bw⟩
theorem po_list (w0 w : World) (b d N : Nat) (E : List Fl) (s : St) (t : Str) (x : Nat) (cs : Array Value) (h : Pb w0 w b d N E s x cs) (ho : s.off = true) :
    Calls Try.prog 19 #[.pointer (some ⟨d, 0, none⟩), .string ⟨t.toArray⟩] w fun ev w' => ∃ a c, ev = .returned (.slice a 0 c) ∧ Pb w0 w' b d N E s x cs := by
  obtain ⟨⟨G, F, h1, h2, h3, h4, h5, hx⟩, h6, hbx⟩ := h
  refine (list_any w d N F s t h2).mono ?_
  rintro ev w' ⟨v, rfl, o, -, bw⟩
  rw [(off_codes ho t [] []).2.2.2.2.2.2] at o
  obtain ⟨a, c, rfl, -⟩ := o.rds
  exact ⟨a, c, rfl, Pb.below ⟨⟨G, F, h1, h2, h3, h4, h5, hx⟩, h6, hbx⟩ bw⟩
set_option maxRecDepth 100000 in
set_option maxHeartbeats 6400000 in
theorem diskOff_walk (w : World) (v : Value) (ol : List OpM) (h : OpR w v ol) (v2 : Value) (ol2 : List OpM) (h2r : OpR w v2 ol2) : Calls Try.prog 6 #[v, v2] w fun e w' => e = .returned (.bool true) ∧ Below w.heap.size w w' := by
  have mixed : Try.prog.follows .mixedOrders = true := by kernel_rfl
  have HOK2 : Hid (∀ o ∈ ol2, o.Ok w) := h2r.ok
  obtain ⟨va2, vc2, rfl, hvd1, hvd2, hcs2⟩ := h2r.ex
  obtain ⟨n2, hn2⟩ : ∃ n, n = ol2.length := ⟨_, rfl⟩
  rw [← hn2] at hvd1
  rw [← hn2]
  have HCS2 : Hid (0 < ol2.length → ∃ b off, va2 = some ⟨b, off, none⟩ ∧ ∀ i (hi : i < ol2.length) c u, (ol2[i]).cs[c]? = some u → w.cell? ⟨b, off + (i * 5 + c), none⟩ = some u) := hcs2
  have HN2 : Hid (n2 = ol2.length) := hn2
  unfold maxLen at hvd2
  clear h2r hn2 hcs2
  have HOK : Hid (∀ o ∈ ol, o.Ok w) := h.ok
  obtain ⟨va, vc, rfl, hvc1, hvc2, hcs⟩ := h.ex
  obtain ⟨n, hn⟩ : ∃ n, n = ol.length := ⟨_, rfl⟩
  rw [← hn] at hvc1
  rw [← hn]
  have HCS : Hid (0 < ol.length → ∃ b off, va = some ⟨b, off, none⟩ ∧ ∀ i (hi : i < ol.length) c u, (ol[i]).cs[c]? = some u → w.cell? ⟨b, off + (i * 5 + c), none⟩ = some u) := hcs
  have HN : Hid (n = ol.length) := hn
  unfold maxLen at hvc2
  clear h hn hcs
  go_enter Try.func6, Try.ntmps6
  go_wp2_with fail
  refine (awake_any w).mono ?_
  rintro e w1 ⟨rfl, b1⟩
  have kN := new_ld w w1 b1
  clear b1
  go_wp2_with fail
  refine kN.mono ?_
  rintro e w2 ⟨rfl, h2⟩
  obtain ⟨d, hd⟩ : ∃ d, d = w1.heap.size := ⟨_, rfl⟩
  rw [← hd] at h2
  rw [← hd]
  have H2 : Hid (LD w w2 d (fun i => i = d) 0 st0) := h2
  clear h2 hd kN
  go_wp2_with fail
  have HP0 : Hid (Pl w (w2.alloc (.cells #[.slice none 0 0, .slice none 0 0, .slice none 0 0] 41)) w2.heap.size d 0 [] st0) := Pl.start H2.out (bk_new w2) ((Below.refl _ _).alloc (Nat.le_refl _) _) (fun i hi => by rw [hi]; exact Nat.le_refl _)
  obtain ⟨bk, hbk⟩ : ∃ b, b = w2.heap.size := ⟨_, rfl⟩
  rw [← hbk] at HP0
  rw [← hbk]
  clear hbk H2
  go_loopg [8, 9] n (fun kx v8 _ wr => ∃ (i : Nat) (E : List Fl) (s : St), v8 = .int .i64 (i : Int) ∧ i ≤ n ∧ i ≤ 40 ∧ n - i ≤ kx ∧ Hid (Pl w wr bk d i E s))
  case atStart => exact ⟨0, _, _, rfl, Nat.zero_le _, Nat.zero_le _, Nat.le_refl _, HP0⟩
  case round =>
    obtain ⟨i, E, s, rfl, hi, hiL, hkx, HP⟩ := hrel
    clear HP0
    by_cases hlt : i < n ∧ i < 40
    · have hltz : (i : Int) < (n : Int) := by omega
      have hLz : (i : Int) < 40 := by omega
      have hil : i < ol.length := by have := HN.out; omega
      obtain ⟨vb, vo, rfl, hcs⟩ := HCS.out (by omega)
      have hbel := HP.out.bel
      have hcell : ∀ c u, (ol[i]).cs[c]? = some u → wr.cell? ⟨vb, vo + i * 5 + c, none⟩ = some u := fun c u hu => by
        have h0 := hcs i hil c u hu
        rw [Nat.add_assoc]
        exact (hbel.cell (World.block_lt_of_cell? _ _ h0)).trans h0
      have hok := HOK.out _ (List.getElem_mem hil)
      obtain ⟨o, ho⟩ : ∃ o, o = ol[i] := ⟨_, rfl⟩
      rw [← ho] at hok hcell
      have kT := note_pl w wr bk d i E s o HP.out (by omega) hok
      have c0 := hcell 0 _ rfl
      have c1 := hcell 1 _ rfl
      have c2 := hcell 2 _ rfl
      have c3 := hcell 3 _ rfl
      have c4 := hcell 4 _ rfl
      simp only [Nat.add_zero] at c0
      have hw1 : wrap64 ((i : Int) + 1) = (i : Int) + 1 := by rw [← IntWalk.i64_left, IntKind.wrap_i64]; omega
      clear hcs hbel hcell ho hok hil
      go_wp2_with fail
      refine kT.mono ?_
      rintro e w3 ⟨rfl, E3, s3, p3⟩
      have HP3 : Hid _ := p3
      clear kT p3
      go_wp2_with fail
      go_roundg (n - (i + 1))
      case measure => omega
      case rel => exact ⟨i + 1, E3, s3, by go_num, by omega, by omega, Nat.le_refl _, HP3⟩
    · have hcas : ((i : Int) < (n : Int) ∧ ¬ (i : Int) < 40) ∨ ¬ (i : Int) < (n : Int) := by omega
      clear hlt HCS HOK
      obtain ⟨⟨G, F, hB, hD, hap, hG, hF⟩, bel, pm, nms, off, set, ops⟩ := HP.out
      have kC := cut_any wr d (i * 1048576) F s 4611686018427387904 hD
      have kOps := fun w4 d4 => ops_any w4 d (i * 1048576) F (s.cut 4611686018427387904) d4
      have hops : (s.cut 4611686018427387904).ops = s.ops := (cut_fs off _).2.2
      have HPO : Hid (∀ w', Dk w' d F (i * 1048576) (s.cut 4611686018427387904) → Fr F wr w' → Po w w' bk d (i * 1048576) E (s.cut 4611686018427387904)) := fun w' d' fr => Po.disk (N := i * 1048576) (s := s) hB hap hG hF bel d' (fun _ h => .inl h) fr
      have hrd : ∀ f ∈ E, rfF (s.cut 4611686018427387904).on f.nm [] = 0 ∧ rdC (s.cut 4611686018427387904).on f.nm = f.bs ∧ f.nm.length ≤ maxLen := fun f hf => by
        have hfs := pm.mem_iff.1 hf
        have h1 := cut_read off nms 4611686018427387904 hfs
        refine ⟨h1.1, ?_, (nm_ok nms hfs).2⟩
        rw [h1.2]
        have h2 := hD.len f hfs
        have h3 := hD.sync f hfs
        exact List.take_of_length_le (by unfold cutK; omega)
      have hlen : (lstN (s.cut 4611686018427387904).on []).length = E.length := by
        rw [lst_len rfl]
        show (s.cut 4611686018427387904).fs.length = _
        rw [(cut_fs off _).1, List.length_map]
        exact pm.length_eq.symm
      obtain ⟨sc, hsc⟩ : ∃ sc, sc = s.cut 4611686018427387904 := ⟨_, rfl⟩
      have hoffc : sc.off = true := by rw [hsc]; exact (cut_fs off _).2.1
      rw [← hsc] at kC kOps hops HPO hrd hlen
      have HRD : Hid _ := hrd
      have HLEN : Hid _ := hlen
      have HOFF : Hid (sc.off = true) := hoffc
      have hop1 : sc.ops < 1000000 := by rw [hops]; omega
      have HOP : Hid _ := hop1
      clear hB hD hap hG hF bel pm nms off set ops HP hrd hlen hops hsc hoffc hop1
      obtain ⟨N, hN⟩ : ∃ N, N = i * 1048576 := ⟨_, rfl⟩
      have hNb : N ≤ 41943040 := by omega
      rw [← hN] at kC kOps HPO
      clear hN
      rcases hcas with ⟨hA, hB'⟩ | hA
      all_goals
        go_wp2_with fail
        refine kC.mono ?_
        rintro e w4 ⟨rfl, d4, f4⟩
        have kO := kOps w4 d4
        have HP4 : Hid (Po w w4 bk d N E sc) := HPO.out w4 d4 f4
        clear kC kOps d4 f4 HPO
        go_wp2_with fail
        refine kO.mono ?_
        rintro e w4' ⟨rfl, rfl⟩
        clear kO
        obtain ⟨op, hop⟩ : ∃ op, op = sc.ops := ⟨_, rfl⟩
        rw [← hop]
        have HOPE : Hid (op = sc.ops) := hop
        clear hop
        go_wp2_with fail
        go_loopg [11, 12, 13, 14] n2 (fun kx v11 _ _ _ wq => ∃ (j : Nat), v11 = .int .i64 (j : Int) ∧ j ≤ n2 ∧ j ≤ 40 ∧ n2 - j ≤ kx ∧ Hid (Po w wq bk d (N + j * 1048576) E sc))
        case atStart => exact ⟨0, rfl, Nat.zero_le _, Nat.zero_le _, Nat.le_refl _, by apply hide; simpa using HP4.out⟩
        case round =>
          rename World => wq
          obtain ⟨j, rfl, hj, hj40, hjx, HQ⟩ := hrel
          clear HP4
          by_cases hjl : j < n2 ∧ j < 40
          · have hjlz : (j : Int) < (n2 : Int) := by omega
            have hj40z : (j : Int) < 40 := by omega
            have hil : j < ol2.length := by have := HN2.out; omega
            obtain ⟨vb, vo, rfl, hcs⟩ := HCS2.out (by omega)
            have hbel := HQ.out.bel
            have hcell : ∀ c u, (ol2[j]).cs[c]? = some u → wq.cell? ⟨vb, vo + j * 5 + c, none⟩ = some u := fun c u hu => by
              have h0 := hcs j hil c u hu
              rw [Nat.add_assoc]
              exact (hbel.cell (World.block_lt_of_cell? _ _ h0)).trans h0
            have hok := HOK2.out _ (List.getElem_mem hil)
            obtain ⟨o, ho⟩ : ∃ o, o = ol2[j] := ⟨_, rfl⟩
            rw [← ho] at hok hcell
            have c0 := hcell 0 _ rfl
            have c1 := hcell 1 _ rfl
            have c2 := hcell 2 _ rfl
            have c3 := hcell 3 _ rfl
            have c4 := hcell 4 _ rfl
            simp only [Nat.add_zero] at c0
            have HOKo : Hid (o.Ok w) := hok
            have HW1 : Hid (wrap64 ((j : Int) + 1) = (j : Int) + 1) := by apply hide; rw [← IntWalk.i64_left, IntKind.wrap_i64]; omega
            clear hcs hbel hcell ho hok hil
            obtain ⟨oK, oA, oB, ou, obs, oM⟩ := o
            simp only at c0 c1 c2 c3 c4
            obtain ⟨ua, uc, hue, -⟩ := HOKo.out.r
            simp only at hue
            subst hue
            have HA : Hid (oA.length ≤ maxLen ∧ oB.length ≤ maxLen) := ⟨Nat.le_trans HOKo.out.a (by decide), Nat.le_trans HOKo.out.b (by decide)⟩
            go_wp2_with (first | (refine wpList_store_new rfl 31 (.tmp 12) (.tmp 61) rfl wq #[.int .i64 0, .string ⟨#[]⟩, .string ⟨#[]⟩, .slice none 0 0, .int .i64 0] #[.int .i64 oK, .string ⟨oA.toArray⟩, .string ⟨oB.toArray⟩, .slice ua obs.length uc, .int .i64 oM] rfl rfl rfl (by kernel_rfl) rfl rfl ?_))
            have hQ := HQ.out.box #[.int .i64 oK, .string ⟨oA.toArray⟩, .string ⟨oB.toArray⟩, .slice ua obs.length uc, .int .i64 oM]
            obtain ⟨X, hX⟩ : ∃ X, X = wq.alloc (.cells #[.int .i64 oK, .string ⟨oA.toArray⟩, .string ⟨oB.toArray⟩, .slice ua obs.length uc, .int .i64 oM] 31) := ⟨_, rfl⟩
            obtain ⟨xb, hxb⟩ : ∃ xb, xb = wq.heap.size := ⟨_, rfl⟩
            rw [← hX, ← hxb] at hQ
            rw [← hX, ← hxb]
            have HQX : Hid (Pb w X bk d (N + j * 1048576) E sc xb #[.int .i64 oK, .string ⟨oA.toArray⟩, .string ⟨oB.toArray⟩, .slice ua obs.length uc, .int .i64 oM]) := hQ
            clear hQ hX hxb c0 c1 c2 c3 c4
            obtain ⟨M, hM⟩ : ∃ M, M = N + j * 1048576 := ⟨_, rfl⟩
            rw [← hM] at HQX
            have HM : Hid (M = N + j * 1048576) := hM
            have hMb : M + obs.length ≤ 140737488355328 := by have := HOKo.out.rl; simp only at this; omega
            have HMb : Hid _ := hMb
            have HMb2 : Hid (M ≤ 140737488355328) := by apply hide; omega
            clear hM hMb
            have kR := po_read w X bk d M E sc oA xb _ HQX.out HOFF.out HA.out.1 HMb2.out
            refine kR.mono ?_
            rintro e w5 ⟨ra, rc, rfl, p5⟩
            have H5 : Hid _ := p5
            have a1 := p5.box.cell 1 _ rfl
            have a3 := p5.box.cell 3 _ rfl
            have kA := po_append w w5 bk d M E sc oA _ obs xb _ p5 HOFF.out HA.out.1 HOKo.out.r HMb.out HOP.out
            clear kR p5 HQX
            go_wp2_with fail
            refine kA.mono ?_
            rintro e w6 ⟨rfl, p6⟩
            have b2 := p6.box.cell 2 _ rfl
            have kS := po_sync w w6 bk d _ E sc oB xb _ p6 HOFF.out HA.out.2 HOP.out
            clear kA H5 a1 a3 p6
            go_wp2_with fail
            refine kS.mono ?_
            rintro e w7 ⟨rfl, p7⟩
            have a1 := p7.box.cell 1 _ rfl
            have a2 := p7.box.cell 2 _ rfl
            have kN := po_rename w w7 bk d _ E sc oA oB xb _ p7 HOFF.out HA.out.1 HA.out.2 HOP.out
            clear kS b2 p7
            go_wp2_with fail
            refine kN.mono ?_
            rintro e w8 ⟨rfl, p8⟩
            have b1 := p8.box.cell 1 _ rfl
            have kV := po_remove w w8 bk d _ E sc oA xb _ p8 HOFF.out HA.out.1 HOP.out
            clear kN a1 a2 p8
            go_wp2_with fail
            refine kV.mono ?_
            rintro e w9 ⟨rfl, p9⟩
            have kL := po_list w w9 bk d _ E sc [] xb _ p9 HOFF.out
            clear kV b1 p9
            go_wp2_with fail
            refine kL.mono ?_
            rintro e wa ⟨qa, qc, rfl, pa⟩
            have HPa : Hid (Po w wa bk d (N + (j + 1) * 1048576) E sc) := by
              apply hide
              refine pa.po.more ?_
              have h1 := HOKo.out.rl
              have h2 := HM.out
              simp only at h1
              omega
            clear kL pa
            go_wp2_with fail
            go_roundg (n2 - (j + 1))
            case measure => exact Nat.lt_of_lt_of_le (Nat.sub_lt_sub_left hjl.1 (Nat.lt_succ_self j)) hjx
            case rel => exact ⟨j + 1, by first | (rw [HW1.out]; rfl) | rfl, hjl.1, hjl.2, Nat.le_refl _, HPa⟩
          · have hcas2 : ((j : Int) < (n2 : Int) ∧ ¬ (j : Int) < 40) ∨ ¬ (j : Int) < (n2 : Int) := by omega
            obtain ⟨⟨G2, F2, hB2, hD2, hap2, hG2, hF2⟩, bel2⟩ := HQ.out
            obtain ⟨M, hM⟩ : ∃ M, M = N + j * 1048576 := ⟨_, rfl⟩
            have hMb : M ≤ 140737488355328 := by omega
            rw [← hM] at hD2
            have kn := on_any wq d M F2 sc hD2
            have HBQ : Hid (Bk wq bk G2 E) := hB2
            have HAP2 : Hid (∀ i, G2 i → ¬ F2 i) := hap2
            have HFF : Hid (∀ i, F2 i → w.heap.size ≤ i) := hF2
            have HBEL : Hid (Below w.heap.size w wq) := bel2
            have HMb : Hid _ := hMb
            clear hB2 hD2 hap2 hG2 hF2 bel2 hM hMb HQ HCS2 HOK2
            rcases hcas2 with ⟨hA2, hB2⟩ | hA2
            all_goals
              go_wp2_with fail
              refine kn.mono ?_
              rintro e w5 ⟨rfl, d5, f5⟩
              have kL := list_any w5 d M F2 sc.on [] d5
              have HD5 : Hid (Dk w5 d F2 M sc.on) := d5
              have HF5 : Hid (Fr F2 wq w5) := f5
              clear kn d5 f5
              go_wp2_with fail
              refine kL.mono ?_
              rintro e w6 ⟨lv, rfl, o6, -, b6⟩
              have HBE6 : Hid (Below w.heap.size w w6) := HBEL.out.trans (((HF5.out.below HBEL.out.size HFF.out).trans (b6.mono (Nat.le_trans HBEL.out.size HF5.out.size))))
              have d6 : Dk w6 d F2 M sc.on := HD5.out.below b6
              have HD6 : Hid (Dk w6 d F2 M sc.on) := d6
              have kO := ops_any w6 d M F2 sc.on d6
              have kF := off_any w6 d M F2 sc.on d6
              have eo : sc.on.ops = op := HOPE.out.symm
              rw [eo] at kO
              have ef : sc.on.off = false := rfl
              rw [ef] at kF
              have hB6 : Bk w6 bk G2 E := (HBQ.out.other HF5.out HAP2.out).below b6
              have hln : (sv (lstN sc.on [])).length = E.length := by rw [sv_length]; exact HLEN.out
              obtain ⟨la, lc, hlv, -⟩ := o6.rds
              rw [hln] at hlv
              subst hlv
              obtain ⟨nv, bv', yv, hv⟩ := hB6
              obtain ⟨na, nc, hnv⟩ := hv.n.sl
              obtain ⟨ba, bc, hbv⟩ := hv.bb.sl
              simp only [sv_length, List.length_map] at hnv hbv
              subst hnv hbv
              have HV : Hid _ := hv
              have cb0 := hv.x.cell 0 _ rfl
              have hfew := hv.few
              clear kL o6 b6 hln hv HBQ HD5 d6 eo ef HF5
              go_wp2_with fail
              refine kO.mono ?_
              rintro e w6a ⟨rfl, rfl⟩
              clear kO
              go_wp2_with fail
              refine kF.mono ?_
              rintro e w6b ⟨rfl, rfl⟩
              clear kF
              go_wp2_with fail
              clear cb0
              go_loopg [16, 17, 18] E.length (fun kx v16 _ _ wz => ∃ (k : Nat), v16 = .int .i64 (k : Int) ∧ k ≤ E.length ∧ E.length - k ≤ kx ∧ Hid (Below w6b.heap.size w6b wz))
              case atStart => exact ⟨0, rfl, Nat.zero_le _, Nat.le_refl _, Below.refl _ _⟩
              case round =>
                rename World => wz
                obtain ⟨k, rfl, hk, hkx, HBZ⟩ := hrel
                have hvq := BkV.frame HV.out HBZ.out.size fun i hi => HBZ.out.block i (HV.out.lt i hi)
                have cb0 := hvq.x.cell 0 _ rfl
                by_cases hkl : k < E.length
                · have hklz : (k : Int) < (E.length : Int) := by omega
                  obtain ⟨f, hf⟩ : ∃ f, E[k]? = some f := ⟨E[k], List.getElem?_eq_getElem hkl⟩
                  obtain ⟨g1, c1, hv1, r1, -, k1, m1⟩ := hvq.n.get (i := k) (u := .string ⟨f.nm.toArray⟩) (by simp [sv, hf])
                  obtain ⟨g2, c2, hv2, r2, -, k2, m2⟩ := hvq.bb.get (i := k) (u := .string ⟨f.bs.toArray⟩) (by simp [sv, hf])
                  simp only [Value.slice.injEq] at hv1 hv2
                  obtain ⟨rfl, -, rfl⟩ := hv1
                  obtain ⟨rfl, -, rfl⟩ := hv2
                  have cb1 := hvq.x.cell 1 _ rfl
                  obtain ⟨q1, q2, q3⟩ := HRD.out f (List.mem_of_getElem? hf)
                  have kR := read_any wz d M F2 sc.on f.nm (HD6.out.below HBZ.out) q3 HMb.out
                  rw [q1, q2] at kR
                  obtain ⟨fn, fb, fs⟩ := f
                  simp only at r1 r2 kR
                  have HW1 : Hid (wrap64 ((k : Int) + 1) = (k : Int) + 1) := by apply hide; rw [← IntWalk.i64_left, IntKind.wrap_i64]; omega
                  clear hvq hf q1 q2 q3
                  go_wp2_with fail
                  refine kR.mono ?_
                  rintro e w7 ⟨v7, rfl, o7, b7⟩
                  have HB7 : Hid (Below w6b.heap.size w6b w7) := HBZ.out.trans (b7.mono HBZ.out.size)
                  have zcv := fun nq os => conv_string (Go.Sort.grow (w7.drewN nq) os) v7 _ (o7.reads.below (below_gr w7 nq os))
                  have hcb1 : w7.cell? _ = _ := (b7.cell (World.block_lt_of_cell? _ _ cb1)).trans cb1
                  have hr2 : w7.cell? _ = _ := (b7.cell (World.block_lt_of_cell? _ _ r2)).trans r2
                  have zb := fun nq os => cell_gro hcb1 nq os
                  have zr := fun nq os => cell_gro hr2 nq os
                  obtain ⟨ra, rc, hrv, -⟩ := o7.reads
                  subst hrv
                  clear kR o7 b7 cb0 cb1 r1 r2 hcb1 hr2
                  go_wp2_with fail
                  refine wp_region_quiet_grown (by assumption) (by kernel_rfl) ?_
                  repeat (go_big_quiet_step (fail))
                  refine wpQuiet_nil ?_
                  intro T hw'
                  obtain ⟨⟨nq, osq⟩, hw''⟩ := hw'
                  have HBT : Hid (Below w6b.heap.size w6b T) := by apply hide; rw [hw'']; exact HB7.out.trans ((below_gr w7 nq osq).mono HB7.out.size)
                  clear hw'' zb zr zcv
                  go_wp2_with fail
                  go_roundg (E.length - (k + 1))
                  case measure => exact Nat.lt_of_lt_of_le (Nat.sub_lt_sub_left hkl (Nat.lt_succ_self k)) hkx
                  case rel => exact ⟨k + 1, by first | (rw [HW1.out]; rfl) | rfl, hkl, Nat.le_refl _, HBT⟩
                · have hklz : ¬ (k : Int) < (E.length : Int) := by omega
                  clear hvq
                  go_wp2_with fail
                  go_ret
                  exact ⟨rfl, HBE6.out.trans (HBZ.out.mono HBE6.out.size)⟩
end Go.Proofs.Ytdcoeebpknipdaa
