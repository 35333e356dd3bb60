/- The law's book: where a name stands; a name is taken out. -/
import Derived.Test.YtdcoeebpknipdaaRegW
namespace Go.Proofs.Ytdcoeebpknipdaa
open Go.RowKit Go.Maps Go.Sort

theorem wp_appL {P : Program} {w : World} {o : Oper} {a : Act} {K : Act → World → Prop} {Q : Exit → Act → World → Prop} (s x : Operand) (t : TypeId)
    (ho : o.op = .call { callee := .builtin .append, args := #[s, x], argTypes := #[t, t] })
    (base : Nat) (e : TypeId) (i : TypeInfo) (z : Value) (bytes : Nat) (ht : P.underlying t = some (.slice e)) (hi : P.info? e = some i) (hz : i.zero = some z)
    (hsize : i.size = 1) (hby : i.bytes = bytes) (hzs : z.cells.size = 1)
    (v : Value) (xs : List Value) (hs : a.eval s = v) (hown : RowL w base e v xs)
    (ad : Addr) (m c : Nat) (news : List Value) (hx : a.eval x = .slice (some ad) m c) (hl : news.length = m) (hnews : ∀ j u, news[j]? = some u → w.cell? (ad.add j) = some u) (h1 : ∀ u ∈ news, u.oneCell' = true)
    (h63 : xs.length + m ≤ maxLen) (hbytes : ((xs.length + m) + (xs.length + m) / 4 + 192) * bytes ≤ 281474976710656) (hbase : base ≤ w.heap.size)
    (h : ∀ v' w', RowL w' base e v' (xs ++ news) → w.grownBy w' v.ownBlock → (v'.ownBlock = v.ownBlock ∨ ∃ g, v'.ownBlock = some g ∧ w.heap.size ≤ g) → K (a.put o.dst v') w') : o.wp P a w K Q := by
  obtain ⟨v', w', hrun, k1, k2, k3⟩ := run_appL (P := P) w base t o.type e i z bytes ht hi hz hsize hby hzs v xs hown ad m c news hl hnews h1 h63 hbytes hbase
  unfold Oper.wp execOp
  simp only [ho, resolve, invoke, builtin, Sem.run_bind, Sem.run_pure, Result.andThen_ok, List.map_toArray, List.map_cons, List.map_nil, hs, hx, hrun]
  exact h v' w' k1 k2 k3
structure BkV (w : World) (b : Nat) (G : Nat → Prop) (E : List Fl) (nv bv yv : Value) : Prop where
  x : BxA w b 41 #[nv, bv, yv]
  n : RowL w 0 9 nv (sv (E.map Fl.nm))
  bb : RowL w 0 9 bv (sv (E.map Fl.bs))
  y : RowL w 0 3 yv (iv (E.map fun f => (f.sy : Int)))
  ap : ∀ r, nv.ownBlock = some r → bv.ownBlock ≠ some r
  gb : G b
  gn : ∀ r, nv.ownBlock = some r → G r
  gv : ∀ r, bv.ownBlock = some r → G r
  gy : ∀ r, yv.ownBlock = some r → G r
  few : E.length ≤ 1000
  lt : ∀ i, G i → i < w.heap.size
/-- The book behind a pointer to the block b: its entries, as they stand. -/
structure Bk (w : World) (b : Nat) (G : Nat → Prop) (E : List Fl) : Prop where
  ex : ∃ nv bv yv, BkV w b G E nv bv yv
theorem BkV.frame {w w' : World} {b : Nat} {G : Nat → Prop} {E : List Fl} {nv bv yv : Value} (h : BkV w b G E nv bv yv) (hs : w.heap.size ≤ w'.heap.size) (hb : ∀ i, G i → w'.heap[i]? = w.heap[i]?) : BkV w' b G E nv bv yv :=
  ⟨by have := h.x; unfold BxA at this ⊢; rw [hb _ h.gb]; exact this, h.n.keep fun r hr => hb r (h.gn r hr), h.bb.keep fun r hr => hb r (h.gv r hr), h.y.keep fun r hr => hb r (h.gy r hr), h.ap, h.gb, h.gn, h.gv, h.gy, h.few, fun i hi => Nat.lt_of_lt_of_le (h.lt i hi) hs⟩
theorem Bk.other {w w' : World} {b : Nat} {G F : Nat → Prop} {E : List Fl} (h : Bk w b G E) (hf : Fr F w w') (ha : ∀ i, G i → ¬ F i) : Bk w' b G E := by
  obtain ⟨nv, bv, yv, h⟩ := h
  exact ⟨nv, bv, yv, h.frame hf.size fun i hi => hf.block i (h.lt i hi) (ha i hi)⟩
theorem Bk.below {w w' : World} {b : Nat} {G : Nat → Prop} {E : List Fl} (h : Bk w b G E) (hb : Below w.heap.size w w') : Bk w' b G E := by
  obtain ⟨nv, bv, yv, h⟩ := h
  exact ⟨nv, bv, yv, h.frame hb.size fun i hi => hb.block i (h.lt i hi)⟩
theorem Bk.lt {w : World} {b : Nat} {G : Nat → Prop} {E : List Fl} (h : Bk w b G E) : ∀ i, G i → i < w.heap.size := by
  obtain ⟨nv, bv, yv, h⟩ := h
  exact h.lt
theorem Bk.few {w : World} {b : Nat} {G : Nat → Prop} {E : List Fl} (h : Bk w b G E) : E.length ≤ 1000 := by
  obtain ⟨nv, bv, yv, h⟩ := h
  exact h.few
/-- Where a name stands. -/
def At1 (E : List Fl) (t : Str) (z : Int) : Prop := (∃ (i : Nat) (f : Fl), E[i]? = some f ∧ f.nm = t ∧ z = (i : Int)) ∨ ((∀ f ∈ E, f.nm ≠ t) ∧ z = -1)
set_option maxHeartbeats 800000 in
theorem at_any (w : World) (b : Nat) (G : Nat → Prop) (E : List Fl) (t : Str) (h : Bk w b G E) : Calls Try.prog 39 #[.pointer (some ⟨b, 0, none⟩), .string ⟨t.toArray⟩] w fun e w' => ∃ z : Int, e = .returned (.int .i64 z) ∧ At1 E t z ∧ w' = w := by
  obtain ⟨nv, bv, yv, h⟩ := h
  have c0 := h.x.cell 0 _ rfl
  obtain ⟨na, nc, hnv⟩ := h.n.sl
  simp only [sv_length, List.length_map] at hnv
  have c0' : w.cell? ⟨b, 0, none⟩ = some (.slice na E.length nc) := by rw [← hnv]; exact c0
  have HN : Hid (RowL w 0 9 (.slice na E.length nc) (sv (E.map Fl.nm))) := by apply hide; rw [← hnv]; exact h.n
  have hfew := h.few
  clear h c0 hnv
  go_enter Try.func39, Try.ntmps39
  go_wp2_with fail
  go_loop [5] (fun i => ∃ k : Nat, k ≤ E.length ∧ i = .int .i64 k ∧ Hid (∀ j f, j < k → E[j]? = some f → f.nm ≠ t)) (fun i => E.length - (intOf i).toNat)
  case atStart => exact ⟨0, by omega, rfl, fun j f hj => by omega⟩
  case round =>
    obtain ⟨k, hk, rfl, HA⟩ := hrel
    by_cases hlt : k < E.length
    · have hltz : (k : Int) < (E.length : Int) := by omega
      obtain ⟨f, hf⟩ : ∃ f, E[k]? = some f := ⟨E[k], List.getElem?_eq_getElem hlt⟩
      obtain ⟨g, c, hv, hc, -, hc1, hc2⟩ := HN.out.get (i := k) (u := .string ⟨f.nm.toArray⟩) (by simp [sv, hf])
      simp only [Value.slice.injEq] at hv
      obtain ⟨rfl, -, rfl⟩ := hv
      simp only [sv_length, List.length_map] at hc1
      unfold maxLen at hc2
      have HF : Hid _ := hf
      obtain ⟨q, hq⟩ : ∃ q, q = f.nm := ⟨_, rfl⟩
      rw [← hq] at hc
      have HQ : Hid (q = f.nm) := hq
      clear hf hq
      by_cases he : q = t
      · have he2 : (q == t) = true := by simpa using he
        have HEQ : Hid (q = t) := he
        clear he
        go_wp2_with fail
        go_ret
        exact ⟨_, rfl, .inl ⟨k, f, HF.out, by rw [← HQ.out]; exact HEQ.out, rfl⟩, rfl⟩
      · have he2 : (q == t) = false := by simpa using he
        have HEQ : Hid (¬ q = t) := he
        clear he
        go_wp2_with fail
        go_round
        case rel =>
          refine ⟨k + 1, by omega, by go_num, fun j f' hj hf' => ?_⟩
          by_cases hjk : j = k
          · subst hjk
            rw [HF.out] at hf'
            cases hf'
            rw [← HQ.out]
            exact HEQ.out
          · exact HA.out j f' (by omega) hf'
        case measure => simp [intOf]; omega
    · have hltz : ¬ (k : Int) < (E.length : Int) := by omega
      obtain rfl : k = E.length := by omega
      go_wp2_with fail
      go_ret
      refine ⟨_, rfl, .inr ⟨fun f hf => ?_, rfl⟩, rfl⟩
      obtain ⟨j, hj, rfl⟩ := List.getElem_of_mem hf
      exact HA.out j _ hj (List.getElem?_eq_getElem hj)
end Go.Proofs.Ytdcoeebpknipdaa
