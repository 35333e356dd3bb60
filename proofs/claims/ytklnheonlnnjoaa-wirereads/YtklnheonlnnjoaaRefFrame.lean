/- Contracts of the reference's four, Frame and Unframe. -/
import Derived.Test.YtklnheonlnnjoaaAwake
import Derived.Laws.AppendOwnNone
import Derived.Outline
namespace Go.Proofs.Ytklnheonlnnjoaa
open Go.RowKit

theorem Owns.mono {w : World} {base base' : Nat} {v : Value} {l : List UInt8} (h : Owns w base v l) (hb : base' ≤ base) : Owns w base' v l := by
  refine ⟨h.1, ?_⟩
  rcases h.2 with h2 | ⟨g, cap, cur, h1, h2, h3⟩
  · exact .inl h2
  · exact .inr ⟨g, cap, cur, h1, by omega, h3⟩
theorem Owns.below {w w' : World} {base : Nat} {v : Value} {l : List UInt8} (h : Owns w base v l) (hb : Below w.heap.size w w') : Owns w' base v l := by
  refine ⟨h.1, ?_⟩
  rcases h.2 with h2 | ⟨g, cap, cur, h1, h2, h3, h4⟩
  · exact .inl h2
  · refine .inr ⟨g, cap, cur, h1, h2, ?_, h4⟩
    rw [hb.block g (Array.getElem?_eq_some_iff.1 h3).1]
    exact h3
theorem Owns.some {w : World} {base : Nat} {v : Value} {l : List UInt8} (h : Owns w base v l) (hl : 0 < l.length) :
    ∃ g cap, v = .slice (.some ⟨g, 0, none⟩) l.length cap ∧ base ≤ g ∧ ∀ j u, (bv l)[j]? = .some u → w.cell? ((⟨g, 0, none⟩ : Addr).add j) = .some u := by
  rcases h.2 with ⟨_, hn⟩ | ⟨g, cap, cur, rfl, h2, h3, h4⟩
  · omega
  · exact ⟨g, cap, rfl, h2, fun j u hj => World.ownsRow.cells h rfl j u hj⟩

theorem le4_cells (n : Nat) (hn : n < 4294967296) : #[Value.int .u8 ((n : Int) % 256), .int .u8 ((n : Int) / 256 % 256), .int .u8 ((n : Int) / 65536 % 256), .int .u8 ((n : Int) / 16777216)] = (bv (Four.le4 n)).toArray := by
  simp [bv, Four.le4, Four.at_nat]
  omega

set_option maxHeartbeats 400000 in
theorem reffour_any (w : World) (n : Nat) (hn : n < 4294967296) :
    Calls Try.prog 40 #[.int .u32 n] w fun e w' => ∃ v', e = .returned v' ∧ Owns w' w.heap.size v' (Four.le4 n) ∧ Below w.heap.size w w' := by
  have h0 : (0 : Int) ≤ (n : Int) := by omega
  have h1 : (n : Int) < 4294967296 := by omega
  go_enter Try.func40, Try.ntmps40
  go_wp2
  go_ret
  rw [le4_cells n hn]
  exact ⟨_, rfl, World.ownsRow_lit (base := w.heap.size) (e := 5) (size := 1) w (bv (Four.le4 n)).toArray 4 (Nat.le_refl _) (by unfold maxLen; omega) (by simp [bv_length, Four.le4_length]), (Below.refl _ _).alloc (Nat.le_refl _) _⟩

set_option maxHeartbeats 400000 in
theorem refframe_long (w : World) (v : Value) (l : List UInt8) (h : Reads w v l) (hl : 1048576 < l.length) :
    Calls Try.prog 31 #[v] w fun e w' => e = .returned (.tuple #[.slice none 0 0, .int .i64 1]) ∧ w' = w := by
  obtain ⟨ao, cap, rfl, h1, h2, h3, h4⟩ := h
  have hl' : (1048576 : Int) < (l.length : Int) := by omega
  go_enter Try.func31, Try.ntmps31
  go_wp2
  go_ret2
  exact ⟨rfl, rfl⟩

theorem app_owns {w1 : World} {base : Nat} {v1 : Value} {a b : List UInt8} (h : w1.ownsRow base 5 1 v1 (a.length + b.length) (bv a ++ bv b)) : Owns w1 base v1 (a ++ b) := by
  unfold Owns
  rw [bv_append, List.length_append]; exact h

/-- 'append(x, y...)' where x is an owned row of bytes or nil and y reads as bytes, nil or not. -/
theorem wp_app {w : World} {ops : Array Oper} {rest : List Oper} {o : Oper} {a : Act} {Q : Exit → Act → World → Prop} (hgd : o.guard = none) (s x : Operand)
    (ho : o.op = .call { callee := .builtin .append, args := #[s, x], argTypes := #[22, 22] }) (base : Nat) (v : Value) (l m : List UInt8) (hs : a.eval s = v) (hown : Owns w base v l)
    (ao : Option Addr) (n cap : Nat) (hx : a.eval x = .slice ao n cap) (hn : n = m.length) (hnone : ao = none → m.length = 0 ∧ cap = 0)
    (hsrc : ∀ ad, ao = .some ad → ∀ j u, (bv m)[j]? = .some u → w.cell? (ad.add j) = .some u) (hb : l.length + m.length ≤ 140737488355328) (hbase : base ≤ w.heap.size)
    (h : ∀ v' w', Owns w' base v' (l ++ m) → w.grownBy w' v.ownBlock → wpList Try.prog ops Q rest (a.put o.dst v') w') : wpList Try.prog ops Q (o :: rest) a w := by
  subst hn
  obtain ⟨i0, hi, hz0, hz1, hz2⟩ := info_parts Try.info5
  cases ao with
  | none =>
    obtain ⟨h0, rfl⟩ := hnone rfl
    obtain rfl : m = [] := List.eq_nil_of_length_eq_zero h0
    refine wpList_append_own_none hgd s x 22 ho base 5 i0 1 Try.underlying22 hi v _ _ hs hown hx ?_
    refine h v w ?_ (World.grownBy.refl _ _)
    rw [List.append_nil]; exact hown
  | some ad =>
    refine wpList_append_own _ hgd s x 22 ho base 5 i0 (.int .u8 0) 1 1 Try.underlying22 hi hz0 hz1 hz2 rfl (by decide) v _ _ hs hown ad m.length cap (bv m) hx (by simp [bv_length]) (hsrc ad rfl) (bv_one m) (by unfold maxLen; omega) (by omega) hbase ?_
    intro v' w' ho' hg' _
    exact h v' w' (app_owns ho') hg'

theorem Reads.src {w w' : World} {ao : Option Addr} {n cap : Nat} {l : List UInt8} (h : Reads w (.slice ao n cap) l) (hb : Below w.heap.size w w') :
    n = l.length ∧ (ao = none → l.length = 0 ∧ cap = 0) ∧ ∀ ad, ao = .some ad → ∀ j u, (bv l)[j]? = .some u → w'.cell? (ad.add j) = .some u := by
  obtain ⟨ao', cap', he, h1, h2, h3, h4⟩ := h.below hb
  simp only [Value.slice.injEq] at he
  obtain ⟨rfl, rfl, rfl⟩ := he
  exact ⟨rfl, h3, h4⟩

theorem grown_below {base : Nat} {w wr w1 : World} {u : Value} {l : List UInt8} (hbel : Below base w wr) (hb : base ≤ wr.heap.size) (hown : Owns wr base u l) (hg : wr.grownBy w1 u.ownBlock) : Below base w w1 :=
  hbel.grown hg hb (fun k hk => (World.ownsRow.lt hown k hk).1)

set_option maxHeartbeats 800000 in
theorem refframe_any (w : World) (v : Value) (l : List UInt8) (h : Reads w v l) (hl : l.length ≤ 1048576) :
    Calls Try.prog 31 #[v] w fun e w' => ∃ v', e = .returned (.tuple #[v', .int .i64 0]) ∧ Owns w' w.heap.size v' (framed l) ∧ Below w.heap.size w w' := by
  have hr := h
  obtain ⟨ao, cap, rfl, h1, h2, h3, h4⟩ := h
  have hl' : ¬ (1048576 : Int) < (l.length : Int) := by omega
  go_enter Try.func31, Try.ntmps31
  go_wp2_with fail
  refine (reffour_any w l.length (by omega)).mono ?_
  rintro e w1 ⟨v1, rfl, hown1, hbel1⟩
  obtain ⟨_, _, hsrc⟩ := hr.src hbel1
  clear h4 hr
  have hsz1 := hbel1.size
  go_wp2_with (first
    | (at_builtin; refine wp_app rfl (.tmp 13) (.tmp 14) rfl w.heap.size v1 _ l rfl hown1 ao l.length cap rfl rfl h3 hsrc (by rw [Four.le4_length]; omega) hsz1 ?_; intro v2 w2 hown2 hg2))
  have hbel2 := grown_below hbel1 hsz1 hown1 hg2
  have hsz2 := hbel2.size
  clear hg2 hsrc hown1 hbel1 hsz1
  refine (refsum_any _ _ (Four.le4 l.length ++ l) hown2.reads).mono ?_
  rintro e w3 ⟨rfl, hw3⟩
  subst hw3
  go_wp2_with fail
  refine (reffour_any _ _ (Crc.sum_lt _)).mono ?_
  rintro e w4 ⟨v4, rfl, hown4, hbel4⟩
  obtain ⟨a2, c2, hv2⟩ := hown2.shape (4 + l.length) (by simp [Four.le4_length])
  rw [hv2]
  rw [hv2] at hown2
  clear hv2 v2
  obtain ⟨hn2, h2n, h2s⟩ := hown2.reads.src hbel4
  have hown4' := hown4.mono hsz2
  have hsz4 := hbel4.size
  clear hown4 hown2
  go_wp2_with (first
    | (at_builtin; refine wp_app rfl (.tmp 19) (.tmp 20) rfl w.heap.size v4 _ (Four.le4 l.length ++ l) rfl hown4' a2 (4 + l.length) c2 rfl hn2 h2n h2s (by simp [Four.le4_length]; omega) (by omega) ?_; intro v5 w5 hown5 hg5))
  go_ret2
  exact ⟨_, rfl, hown5, grown_below (hbel2.trans (hbel4.mono hsz2)) (by omega) hown4' hg5⟩
end Go.Proofs.Ytklnheonlnnjoaa
