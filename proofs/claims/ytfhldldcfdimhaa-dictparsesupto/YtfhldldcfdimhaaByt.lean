/- The bytes of a dictionary, and the contract of Bytes. -/
import Derived.Test.YtfhldldcfdimhaaBuild0
namespace Go.Proofs.Ytfhldldcfdimhaa
open Go.RowKit Go.Shelf Go.Sort

/-- The text ahead of the one at a place. -/
def prv (ts : List Str) : Nat → Str
  | 0 => []
  | j + 1 => ts.getD j []
def piece (a t : Str) : List UInt8 := Num.uv (cpl a t) ++ (Num.uv (t.length - cpl a t) ++ t.drop (cpl a t))
def pcs (ts : List Str) (i : Nat) : List UInt8 := (List.range i).flatMap fun j => piece (prv ts j) (ts.getD j [])
/-- The bytes. -/
def byts (ts : List Str) : List UInt8 := Num.uv ts.length ++ pcs ts ts.length
theorem pcs_succ (ts : List Str) (i : Nat) : pcs ts (i + 1) = pcs ts i ++ piece (prv ts i) (ts.getD i []) := by simp [pcs, List.range_succ]
theorem piece_length (a t : Str) (h : t.length ≤ 64) : (piece a t).length ≤ 84 := by
  have h1 := Num.uv_length (cpl a t)
  have h2 := Num.uv_length (t.length - cpl a t)
  simp [piece]
  omega
theorem pcs_length (ts : List Str) (h : ∀ i, (ts.getD i []).length ≤ 64) : ∀ i, (pcs ts i).length ≤ 84 * i
  | 0 => by simp [pcs]
  | i + 1 => by
    rw [pcs_succ, List.length_append]
    have := pcs_length ts h i
    have := piece_length (prv ts i) (ts.getD i []) (h i)
    omega
theorem prv_len (ts : List Str) (h : ∀ i, (ts.getD i []).length ≤ 64) (i : Nat) : (prv ts i).length ≤ 64 := by
  cases i with
  | zero => simp [prv]
  | succ j => exact h j
theorem uint_nil (w : World) (n : Nat) (z : Int) (hz : z = (n : Int)) (hn : n < 18446744073709551616) :
    Calls Try.prog 41 #[.slice none 0 0, .int .u64 z] w fun e w' => ∃ v', e = .returned v' ∧ Owns w' w.heap.size v' (Num.uv n) ∧ Below w.heap.size w w' := by
  subst hz
  exact uint_cap w (.slice none 0 0) [] n (Reads.nil w) (by simp) hn
theorem text_nil (w : World) (t : Str) (ht : t.length ≤ 64) :
    Calls Try.prog 43 #[.slice none 0 0, .string ⟨t.toArray⟩] w fun e w' => ∃ v', e = .returned v' ∧ Owns w' w.heap.size v' (Num.uv t.length ++ t) ∧ Below w.heap.size w w' := by
  have := text_cap w (.slice none 0 0) [] ⟨t.toArray⟩ (Reads.nil w) (by simp) (by rw [str_size]; omega)
  rw [str_size] at this
  exact this

theorem str_drop (t : Str) (k : Nat) : (⟨t.toArray⟩ : ByteArray).extract k t.length = ⟨(t.drop k).toArray⟩ := by
  apply ByteArray.ext
  apply Array.ext'
  rw [Lib.extract_data]
  simp only [List.take_of_length_le (l := t.drop k) (i := t.length - k) (by simp)]
set_option maxHeartbeats 400000 in
theorem bytes_nil (w : World) : Calls Try.prog 15 #[.pointer none] w fun e w' => e = .returned (.slice none 0 0) ∧ w' = w := by
  go_enter Try.func15, Try.ntmps15
  go_wp2
  go_ret
  exact ⟨rfl, rfl⟩

set_option maxRecDepth 100000 in
set_option maxHeartbeats 3200000 in
theorem bytes_any (w : World) (p : Value) (ts : List Str) (h : IDict w p ts) :
    Calls Try.prog 15 #[p] w fun e w' => ∃ v', e = .returned v' ∧ Owns w' w.heap.size v' (byts ts) ∧ Below w.heap.size w w' := by
  have hlen := h.len
  have hle := h.le
  have hpl := pcs_length ts hlen
  have hpr := prv_len ts hlen
  obtain ⟨B, v, rfl, hv, hr⟩ := h.ex
  obtain ⟨ao, n, cap, rfl⟩ : ∃ ao n cap, v = .slice ao n cap := by obtain ⟨ao, cap, rfl, _⟩ := hr; exact ⟨_, _, _, rfl⟩
  obtain ⟨rfl, h1, h2, h3⟩ := hr.cells
  simp only [sv_length] at *
  have hbB := World.block_lt_of_cell? _ _ hv
  obtain ⟨n, hn⟩ : ∃ n, n = ts.length := ⟨_, rfl⟩
  unfold byts
  rw [← hn] at hle h1 h3 hv ⊢
  have HN := hide hn
  clear hn h hr
  go_enter Try.func15, Try.ntmps15
  go_wp2_with fail
  refine (uint_nil w n _ (by first | rfl | omega) (by omega)).mono ?_
  rintro e w1 ⟨v1, rfl, o1, b1⟩
  have hv1 : w1.cell? ⟨B, 0, none⟩ = some (.slice ao n cap) := (b1.cell hbB).trans hv
  have hu := Num.uv_length n
  obtain ⟨U, hU⟩ : ∃ U, Num.uv n = U := ⟨_, rfl⟩
  rw [hU] at hu o1
  have HU := hide hU
  clear hU
  go_wp2_with fail
  go_loopw [3, 4, 22] (fun vo va vi wr => ∃ i : Nat, vi = .int .i64 i ∧ i ≤ n ∧ va = .string ⟨(prv ts i).toArray⟩ ∧ Owns wr w.heap.size vo (U ++ pcs ts i) ∧ Below w.heap.size w wr) (fun _ _ vi _ => n - (intOf vi).toNat)
  case atStart => exact ⟨0, rfl, by omega, rfl, by simpa [pcs] using o1, b1⟩
  case round =>
    obtain ⟨i, rfl, hi, rfl, own, bel⟩ := hrel
    by_cases hlt : i < n
    · have hlt' : (i : Int) < (n : Int) := by omega
      obtain ⟨b, off, rfl, hc⟩ := h3 (by omega)
      have hck := hc i _ (sv_get ts i (by rw [← unhide HN]; exact hlt))
      rw [← bel.cell (World.block_lt_of_cell? _ _ hck)] at hck
      have htl := hlen i
      have hal := hpr i
      have hpi := hpl i
      have hps := pcs_succ ts i
      have hcl := (cpl_le (prv ts i) (ts.getD i [])).2
      have hpv : prv ts (i + 1) = ts.getD i [] := rfl
      have HPV := hide hpv
      have hpc : piece (prv ts i) (ts.getD i []) = Num.uv (cpl (prv ts i) (ts.getD i [])) ++ (Num.uv ((ts.getD i []).length - cpl (prv ts i) (ts.getD i [])) ++ (ts.getD i []).drop (cpl (prv ts i) (ts.getD i []))) := rfl
      rw [hpc] at hps
      have HPS := hide hps
      clear hpv hpc hps hc hlen hpr hpl h3
      generalize prv ts i = a at *
      generalize ts.getD i [] = t at *
      have hsz := str_size t
      go_wp2_with fail
      refine (same_any wr a t (by omega) (by omega)).mono ?_
      rintro e w2 ⟨rfl, q, rfl⟩
      generalize cpl a t = k at *
      have b2 := below_dN bel q
      have own2 : Owns (wr.drewN q) w.heap.size _ _ := own
      have hkt : (k : Int) ≤ (t.length : Int) := by omega
      go_wp2_with fail
      refine (uint_nil (wr.drewN q) k _ (by first | rfl | omega) (by omega)).mono ?_
      rintro e w3 ⟨v3, rfl, o3, b3⟩
      have hb3 := b2.size
      have own3 := own2.below b3
      have hu3 := Num.uv_length k
      generalize hK : Num.uv k = U3 at *
      have HK := hide hK
      clear hK
      obtain ⟨a3, c3, rfl⟩ := o3.shape _ rfl
      obtain ⟨_, h3n, h3s⟩ := o3.reads.src (Below.refl _ _)
      have b3' : Below w.heap.size w w3 := b2.trans (b3.mono hb3)
      have hsz3 := b3'.size
      clear o3 own own2 bel
      generalize hP : U ++ pcs ts i = P at *
      have hPl : P.length ≤ 10 + 84 * i := by rw [← hP]; simp; omega
      have HP := hide hP
      clear hP
      go_wp2_with (first
        | (at_builtin; refine wp_app rfl (.tmp 29) (.tmp 32) rfl w.heap.size _ P U3 rfl own3 a3 U3.length c3 rfl rfl h3n h3s (by omega) hsz3 ?_; intro v4 w4 o4 g4))
      have b4 := grown_below b3' hsz3 own3 g4
      have hsz4 := b4.size
      clear own3 g4 h3s h3n
      have hdl : (t.drop k).length ≤ 64 := by simp; omega
      have hdl' : (t.drop k).length = t.length - k := List.length_drop
      go_wp2_with fail
      rw [str_drop]
      refine (text_nil w4 (t.drop k) hdl).mono ?_
      rintro e w5 ⟨v5, rfl, o5, b5⟩
      have own5 := o4.below b5
      have hu5 := Num.uv_length (t.drop k).length
      generalize hT : Num.uv (t.drop k).length ++ t.drop k = T5 at *
      have hTl : T5.length ≤ 74 := by rw [← hT, List.length_append]; omega
      have HT := hide hT
      clear hT
      obtain ⟨a5, c5, rfl⟩ := o5.shape _ rfl
      obtain ⟨_, h5n, h5s⟩ := o5.reads.src (Below.refl _ _)
      have b5' : Below w.heap.size w w5 := b4.trans (b5.mono hsz4)
      have hsz5 := b5'.size
      clear o5 o4
      have hPl2 : (P ++ U3).length ≤ 20 + 84 * i := by simp; omega
      generalize hQ : P ++ U3 = Q at *
      have HQ := hide hQ
      clear hQ
      go_wp2_with (first
        | (at_builtin; refine wp_app rfl (.tmp 34) (.tmp 38) rfl w.heap.size _ Q T5 rfl own5 a5 T5.length c5 rfl rfl h5n h5s (by omega) hsz5 ?_; intro v6 w6 o6 g6))
      have b6 := grown_below b5' hsz5 own5 g6
      clear own5 g6 h5s h5n
      go_wp2_with fail
      go_roundw
      case rel =>
        refine ⟨i + 1, by go_num, by omega, by rw [unhide HPV], ?_, b6⟩
        have e : U ++ pcs ts (i + 1) = Q ++ T5 := by
          rw [← unhide HQ, ← unhide HP, ← unhide HT, ← unhide HK, unhide HPS, hdl']
          simp [List.append_assoc]
          exact (unhide HK).symm
        rw [e]
        exact o6
      case measure => simp [intOf]; omega
    · have hlt' : ¬ (i : Int) < (n : Int) := by omega
      have e : i = n := by omega
      subst e
      go_wp2
      go_ret
      rw [unhide HU]
      exact ⟨_, rfl, own, bel⟩
end Go.Proofs.Ytfhldldcfdimhaa
