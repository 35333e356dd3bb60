/- writeList, for each type of its items. -/
import Derived.Test.YtpdlioidiobbbaaWrt
import Derived.Test.YtpdlioidiobbbaaFm1
namespace Go.Proofs.Ytpdlioidiobbbaa
open Go.RowKit

def encAll {α : Type} (f : α → Option Bs) : List α → Option Bs
  | [] => some []
  | x :: r => cat (f x) (encAll f r)
theorem cat_assoc (a b c : Option Bs) : cat (cat a b) c = cat a (cat b c) := by
  cases a <;> cases b <;> cases c <;> simp [cat]
theorem cat_nil (a : Option Bs) : cat a (some []) = a := by cases a <;> simp [cat]
theorem nil_cat (a : Option Bs) : cat (some []) a = a := by cases a <;> simp [cat]
theorem encAll_append {α : Type} (f : α → Option Bs) (l m : List α) : encAll f (l ++ m) = cat (encAll f l) (encAll f m) := by
  induction l with
  | nil => exact (nil_cat _).symm
  | cons x r ih => simp only [List.cons_append, encAll, ih, cat_assoc]
theorem encAll_take {α : Type} (f : α → Option Bs) (l : List α) (i : Nat) (hi : i < l.length) : encAll f (l.take (i + 1)) = cat (encAll f (l.take i)) (f l[i]) := by
  rw [List.take_succ_eq_append_getElem hi, encAll_append]
  simp only [encAll, cat_nil]
/-- What a list is written as. -/
def el {α : Type} (f : α → Option Bs) (l : List α) : Option Bs := cat (some (Num.uv l.length)) (encAll f l)
theorem el_step {α : Type} {f : α → Option Bs} {l : List α} {s : Option Bs} {n i : Nat} (hi : i < l.length) :
    put (put s (cat (some (Num.uv n)) (encAll f (l.take i)))) (f l[i]) = put s (cat (some (Num.uv n)) (encAll f (l.take (i + 1)))) := by
  rw [put_put, encAll_take f l i hi, cat_assoc]
theorem el_over {α : Type} {f : α → Option Bs} {l : List α} {s : Option Bs} {n i : Nat} (hn : n = l.length) (h : put s (cat (some (Num.uv n)) (encAll f (l.take i))) = none) : put s (el f l) = none := by
  unfold el
  rw [← hn]
  conv => lhs; rw [← List.take_append_drop i l, encAll_append, ← cat_assoc, ← put_put, h]
  rfl
theorem el_end {α : Type} {f : α → Option Bs} {l : List α} {s : Option Bs} {n i : Nat} (hn : n = l.length) (hi : ¬ i < n) : put s (cat (some (Num.uv n)) (encAll f (l.take i))) = put s (el f l) := by
  unfold el
  rw [List.take_of_length_le (by omega), hn]
theorem flat_get {α : Type} {f : α → List Value} {k : Nat} (hk : ∀ x, (f x).length = k) : ∀ (l : List α) (i c : Nat) (hi : i < l.length), c < k → (l.flatMap f)[i * k + c]? = (f l[i])[c]?
  | a :: l, 0, c, _, hc => by
    simp only [List.flatMap_cons, List.getElem_cons_zero, Nat.zero_mul, Nat.zero_add]
    rw [List.getElem?_append_left (by rw [hk]; exact hc)]
  | a :: l, i + 1, c, hi, hc => by
    have ih := flat_get hk l i c (by simpa using hi) hc
    simp only [List.flatMap_cons, List.getElem_cons_succ]
    rw [List.getElem?_append_right (by rw [hk, Nat.add_mul]; omega), hk, show (i + 1) * k + c - k = i * k + c by rw [Nat.add_mul]; omega]
    exact ih
/-- Items one behind the other, of k cells each. -/
def Lst {α : Type} (k : Nat) (f : α → List Value) (w : World) (v : Value) (l : List α) : Prop := Fi.RdsK k w v l.length (l.flatMap f)
theorem Lst.below {α : Type} {k : Nat} {f : α → List Value} {w w' : World} {v : Value} {l : List α} (h : Lst k f w v l) (b : Below w.heap.size w w') : Lst k f w' v l := Fi.RdsK.below h b
theorem Lst.sl {α : Type} {k : Nat} {f : α → List Value} {w : World} {v : Value} {l : List α} (h : Lst k f w v l) : ∃ a c, v = .slice a l.length c ∧ l.length ≤ c ∧ c ≤ maxLen := by
  obtain ⟨ao, cap, rfl, h0, h1, h2, h3⟩ := h
  exact ⟨ao, cap, rfl, h1, h2⟩
theorem Lst.at {α : Type} {k : Nat} {f : α → List Value} {w : World} {ao : Option Addr} {n cap : Nat} {l : List α} (hk0 : 0 < k) (hk : ∀ x, (f x).length = k) (h : Lst k f w (.slice ao n cap) l) (h0 : 0 < l.length) :
    ∃ b off, ao = some ⟨b, off, none⟩ ∧ ∀ i (hi : i < l.length) c u, c < k → (f l[i])[c]? = some u → w.cell? ⟨b, off + (i * k + c), none⟩ = some u := by
  obtain ⟨hn, e0, e1, e2, e3, e4⟩ := Fi.RdsK.cells hk0 h
  obtain ⟨b, off, rfl, hc⟩ := e3 (by omega)
  exact ⟨b, off, rfl, fun i hi c u hck hu => hc (i * k + c) u (by rw [flat_get hk l i c hi hck]; exact hu)⟩
def cl_str (x : Fi.Str) : List Value := [.string ⟨x.toArray⟩]
set_option maxRecDepth 100000 in
set_option maxHeartbeats 1600000 in
theorem wl_str (W0 w : World) (p : Nat) (s : Option Bs) (v : Value) (l : List (Fi.Str)) (en : Fi.Str → Option Bs)  (h : Wr W0 p w s) (hr : Lst 1 cl_str W0 v l)
    (hone : ∀ x ∈ l, ∀ wr s, KP p w wr → Wr W0 p wr s → Calls Try.prog 78 #[.pointer (some ⟨p, 0, none⟩), .string ⟨x.toArray⟩] wr (Wrote W0 p wr (put s (en x)))) :
    Calls Try.prog 77 #[.pointer (some ⟨p, 0, none⟩), v, .func (.func 78) #[.pointer (some ⟨p, 0, none⟩)] #[]] w (Wrote W0 p w (put s (el en l))) := by
  obtain ⟨ao, cap, rfl, hc1, hc2⟩ := hr.sl
  unfold maxLen at hc2
  obtain ⟨n, hn⟩ : ∃ n, n = l.length := ⟨_, rfl⟩
  rw [← hn] at hr hc1 ⊢
  have kU := wuint W0 w p n s h (by omega)
  have HN : Hid (n = l.length) := hn
  have HR : Hid (Lst 1 cl_str W0 (.slice ao n cap) l) := hr
  have HO : Aside _ := hone
  clear hn hr hone h
  go_enter Try.func77, Try.ntmps77
  go_wp2_with fail
  refine kU.mono ?_
  rintro e w1 ⟨rfl, H1, K1⟩
  have K1' : Hid (KP p w w1) := K1
  have H1' : Hid (Wr W0 p w1 (put s (cat (some (Num.uv n)) (encAll en (l.take 0))))) := by show Wr _ _ _ _; simpa [encAll, cat] using H1
  clear H1 K1 kU
  go_wp2_with fail
  go_loopg [15] n (fun kx v15 wr => ∃ (i : Nat), v15 = .int .i64 i ∧ i ≤ n ∧ n - i ≤ kx ∧ Hid (Wr W0 p wr (put s (cat (some (Num.uv n)) (encAll en (l.take i))))) ∧ Hid (KP p w wr))
  case atStart => exact ⟨0, rfl, by omega, Nat.le_refl _, H1', K1'⟩
  case round =>
    obtain ⟨i, rfl, hi, hkx, HW, HK⟩ := hrel
    by_cases hlt : i < n
    · have hltz : (i : Int) < (n : Int) := by omega
      have hil : i < l.length := by have := HN.out; omega
      obtain ⟨b, off, rfl, hc⟩ := Lst.at (k := 1) (f := cl_str) (by decide) (fun _ => rfl) (HR.out.below HW.out.b) (by omega)
      obtain ⟨S, hS⟩ : ∃ S, S = put s (cat (some (Num.uv n)) (encAll en (l.take i))) := ⟨_, rfl⟩
      have HS : Hid (S = put s (cat (some (Num.uv n)) (encAll en (l.take i)))) := hS
      have HW2 : Hid (Wr W0 p wr S) := by show Wr _ _ _ _; rw [hS]; exact HW.out
      obtain ⟨hp, bb, z, vb, lb, c0, c1, f0, f1, ob, hx⟩ := HW2.out
      obtain ⟨x, hX⟩ : ∃ x, l[i] = x := ⟨_, rfl⟩
      have q0 : wr.cell? ⟨b, off + i, none⟩ = some (.string ⟨x.toArray⟩) := by have := hc i hil 0 (.string ⟨x.toArray⟩) (by omega) (by rw [hX]; rfl); simpa using this
      have hxm : x ∈ l := by rw [← hX]; exact List.getElem_mem hil
      have HST : Hid (put S (en x) = put s (cat (some (Num.uv n)) (encAll en (l.take (i + 1))))) := by show _ = _; rw [hS, ← hX]; exact el_step hil
      clear hp f0 f1 ob hx c0 hS hX hc bb
      cases S with
      | none =>
        change wr.cell? ⟨p, 1, none⟩ = some (.bool true) at c1
        go_wp2_with fail
        go_end0
        refine ⟨rfl, ?_, HK.out⟩
        rw [el_over HN.out HS.out.symm]
        exact HW2.out
      | some S =>
        change wr.cell? ⟨p, 1, none⟩ = some (.bool false) at c1
        have kO := HO.out x hxm wr (some S) HK.out HW2.out
        go_wp2_with fail
        refine kO.mono ?_
        rintro e w2 ⟨rfl, H2, K2⟩
        have K2' : Hid (KP p w w2) := HK.out.trans K2
        rw [HST.out] at H2
        have H2' : Hid _ := H2
        clear H2 K2 kO
        go_wp2_with fail
        go_roundg (n - (i + 1))
        case measure => omega
        case rel => exact ⟨i + 1, by go_num, by omega, Nat.le_refl _, H2', K2'⟩
    · have hltz : ¬ (i : Int) < (n : Int) := by omega
      go_wp2_with fail
      go_end0
      exact ⟨rfl, by rw [← el_end HN.out hlt]; exact HW.out, HK.out⟩
def cl_i64 (x : Int) : List Value := [.int .i64 x]
set_option maxRecDepth 100000 in
set_option maxHeartbeats 1600000 in
theorem wl_i64 (W0 w : World) (p : Nat) (s : Option Bs) (v : Value) (l : List (Int)) (en : Int → Option Bs)  (h : Wr W0 p w s) (hr : Lst 1 cl_i64 W0 v l)
    (hone : ∀ x ∈ l, ∀ wr s, KP p w wr → Wr W0 p wr s → Calls Try.prog 76 #[.pointer (some ⟨p, 0, none⟩), .int .i64 x] wr (Wrote W0 p wr (put s (en x)))) :
    Calls Try.prog 79 #[.pointer (some ⟨p, 0, none⟩), v, .func (.func 76) #[.pointer (some ⟨p, 0, none⟩)] #[]] w (Wrote W0 p w (put s (el en l))) := by
  obtain ⟨ao, cap, rfl, hc1, hc2⟩ := hr.sl
  unfold maxLen at hc2
  obtain ⟨n, hn⟩ : ∃ n, n = l.length := ⟨_, rfl⟩
  rw [← hn] at hr hc1 ⊢
  have kU := wuint W0 w p n s h (by omega)
  have HN : Hid (n = l.length) := hn
  have HR : Hid (Lst 1 cl_i64 W0 (.slice ao n cap) l) := hr
  have HO : Aside _ := hone
  clear hn hr hone h
  go_enter Try.func79, Try.ntmps79
  go_wp2_with fail
  refine kU.mono ?_
  rintro e w1 ⟨rfl, H1, K1⟩
  have K1' : Hid (KP p w w1) := K1
  have H1' : Hid (Wr W0 p w1 (put s (cat (some (Num.uv n)) (encAll en (l.take 0))))) := by show Wr _ _ _ _; simpa [encAll, cat] using H1
  clear H1 K1 kU
  go_wp2_with fail
  go_loopg [15] n (fun kx v15 wr => ∃ (i : Nat), v15 = .int .i64 i ∧ i ≤ n ∧ n - i ≤ kx ∧ Hid (Wr W0 p wr (put s (cat (some (Num.uv n)) (encAll en (l.take i))))) ∧ Hid (KP p w wr))
  case atStart => exact ⟨0, rfl, by omega, Nat.le_refl _, H1', K1'⟩
  case round =>
    obtain ⟨i, rfl, hi, hkx, HW, HK⟩ := hrel
    by_cases hlt : i < n
    · have hltz : (i : Int) < (n : Int) := by omega
      have hil : i < l.length := by have := HN.out; omega
      obtain ⟨b, off, rfl, hc⟩ := Lst.at (k := 1) (f := cl_i64) (by decide) (fun _ => rfl) (HR.out.below HW.out.b) (by omega)
      obtain ⟨S, hS⟩ : ∃ S, S = put s (cat (some (Num.uv n)) (encAll en (l.take i))) := ⟨_, rfl⟩
      have HS : Hid (S = put s (cat (some (Num.uv n)) (encAll en (l.take i)))) := hS
      have HW2 : Hid (Wr W0 p wr S) := by show Wr _ _ _ _; rw [hS]; exact HW.out
      obtain ⟨hp, bb, z, vb, lb, c0, c1, f0, f1, ob, hx⟩ := HW2.out
      obtain ⟨x, hX⟩ : ∃ x, l[i] = x := ⟨_, rfl⟩
      have q0 : wr.cell? ⟨b, off + i, none⟩ = some (.int .i64 x) := by have := hc i hil 0 (.int .i64 x) (by omega) (by rw [hX]; rfl); simpa using this
      have hxm : x ∈ l := by rw [← hX]; exact List.getElem_mem hil
      have HST : Hid (put S (en x) = put s (cat (some (Num.uv n)) (encAll en (l.take (i + 1))))) := by show _ = _; rw [hS, ← hX]; exact el_step hil
      clear hp f0 f1 ob hx c0 hS hX hc bb
      cases S with
      | none =>
        change wr.cell? ⟨p, 1, none⟩ = some (.bool true) at c1
        go_wp2_with fail
        go_end0
        refine ⟨rfl, ?_, HK.out⟩
        rw [el_over HN.out HS.out.symm]
        exact HW2.out
      | some S =>
        change wr.cell? ⟨p, 1, none⟩ = some (.bool false) at c1
        have kO := HO.out x hxm wr (some S) HK.out HW2.out
        go_wp2_with fail
        refine kO.mono ?_
        rintro e w2 ⟨rfl, H2, K2⟩
        have K2' : Hid (KP p w w2) := HK.out.trans K2
        rw [HST.out] at H2
        have H2' : Hid _ := H2
        clear H2 K2 kO
        go_wp2_with fail
        go_roundg (n - (i + 1))
        case measure => omega
        case rel => exact ⟨i + 1, by go_num, by omega, Nat.le_refl _, H2', K2'⟩
    · have hltz : ¬ (i : Int) < (n : Int) := by omega
      go_wp2_with fail
      go_end0
      exact ⟨rfl, by rw [← el_end HN.out hlt]; exact HW.out, HK.out⟩
def cl_int (x : Int) : List Value := [.int .i64 x]
set_option maxRecDepth 100000 in
set_option maxHeartbeats 1600000 in
theorem wl_int (W0 w : World) (p : Nat) (s : Option Bs) (v : Value) (l : List (Int)) (en : Int → Option Bs)  (h : Wr W0 p w s) (hr : Lst 1 cl_int W0 v l)
    (hone : ∀ x ∈ l, ∀ wr s, KP p w wr → Wr W0 p wr s → Calls Try.prog 74 #[.pointer (some ⟨p, 0, none⟩), .int .i64 x] wr (Wrote W0 p wr (put s (en x)))) :
    Calls Try.prog 84 #[.pointer (some ⟨p, 0, none⟩), v, .func (.func 74) #[.pointer (some ⟨p, 0, none⟩)] #[]] w (Wrote W0 p w (put s (el en l))) := by
  obtain ⟨ao, cap, rfl, hc1, hc2⟩ := hr.sl
  unfold maxLen at hc2
  obtain ⟨n, hn⟩ : ∃ n, n = l.length := ⟨_, rfl⟩
  rw [← hn] at hr hc1 ⊢
  have kU := wuint W0 w p n s h (by omega)
  have HN : Hid (n = l.length) := hn
  have HR : Hid (Lst 1 cl_int W0 (.slice ao n cap) l) := hr
  have HO : Aside _ := hone
  clear hn hr hone h
  go_enter Try.func84, Try.ntmps84
  go_wp2_with fail
  refine kU.mono ?_
  rintro e w1 ⟨rfl, H1, K1⟩
  have K1' : Hid (KP p w w1) := K1
  have H1' : Hid (Wr W0 p w1 (put s (cat (some (Num.uv n)) (encAll en (l.take 0))))) := by show Wr _ _ _ _; simpa [encAll, cat] using H1
  clear H1 K1 kU
  go_wp2_with fail
  go_loopg [15] n (fun kx v15 wr => ∃ (i : Nat), v15 = .int .i64 i ∧ i ≤ n ∧ n - i ≤ kx ∧ Hid (Wr W0 p wr (put s (cat (some (Num.uv n)) (encAll en (l.take i))))) ∧ Hid (KP p w wr))
  case atStart => exact ⟨0, rfl, by omega, Nat.le_refl _, H1', K1'⟩
  case round =>
    obtain ⟨i, rfl, hi, hkx, HW, HK⟩ := hrel
    by_cases hlt : i < n
    · have hltz : (i : Int) < (n : Int) := by omega
      have hil : i < l.length := by have := HN.out; omega
      obtain ⟨b, off, rfl, hc⟩ := Lst.at (k := 1) (f := cl_int) (by decide) (fun _ => rfl) (HR.out.below HW.out.b) (by omega)
      obtain ⟨S, hS⟩ : ∃ S, S = put s (cat (some (Num.uv n)) (encAll en (l.take i))) := ⟨_, rfl⟩
      have HS : Hid (S = put s (cat (some (Num.uv n)) (encAll en (l.take i)))) := hS
      have HW2 : Hid (Wr W0 p wr S) := by show Wr _ _ _ _; rw [hS]; exact HW.out
      obtain ⟨hp, bb, z, vb, lb, c0, c1, f0, f1, ob, hx⟩ := HW2.out
      obtain ⟨x, hX⟩ : ∃ x, l[i] = x := ⟨_, rfl⟩
      have q0 : wr.cell? ⟨b, off + i, none⟩ = some (.int .i64 x) := by have := hc i hil 0 (.int .i64 x) (by omega) (by rw [hX]; rfl); simpa using this
      have hxm : x ∈ l := by rw [← hX]; exact List.getElem_mem hil
      have HST : Hid (put S (en x) = put s (cat (some (Num.uv n)) (encAll en (l.take (i + 1))))) := by show _ = _; rw [hS, ← hX]; exact el_step hil
      clear hp f0 f1 ob hx c0 hS hX hc bb
      cases S with
      | none =>
        change wr.cell? ⟨p, 1, none⟩ = some (.bool true) at c1
        go_wp2_with fail
        go_end0
        refine ⟨rfl, ?_, HK.out⟩
        rw [el_over HN.out HS.out.symm]
        exact HW2.out
      | some S =>
        change wr.cell? ⟨p, 1, none⟩ = some (.bool false) at c1
        have kO := HO.out x hxm wr (some S) HK.out HW2.out
        go_wp2_with fail
        refine kO.mono ?_
        rintro e w2 ⟨rfl, H2, K2⟩
        have K2' : Hid (KP p w w2) := HK.out.trans K2
        rw [HST.out] at H2
        have H2' : Hid _ := H2
        clear H2 K2 kO
        go_wp2_with fail
        go_roundg (n - (i + 1))
        case measure => omega
        case rel => exact ⟨i + 1, by go_num, by omega, Nat.le_refl _, H2', K2'⟩
    · have hltz : ¬ (i : Int) < (n : Int) := by omega
      go_wp2_with fail
      go_end0
      exact ⟨rfl, by rw [← el_end HN.out hlt]; exact HW.out, HK.out⟩
def cl_set (x : Value × List Int) : List Value := [x.1]
set_option maxRecDepth 100000 in
set_option maxHeartbeats 1600000 in
theorem wl_set (W0 w : World) (p : Nat) (s : Option Bs) (v : Value) (l : List (Value × List Int)) (en : Value × List Int → Option Bs) (bx : Nat) (hsl : ∀ x ∈ l, (∃ a n c, x.1 = .slice a n c)) (h : Wr W0 p w s) (hr : Lst 1 cl_set W0 v l)
    (hone : ∀ x ∈ l, ∀ wr s, KP p w wr → Wr W0 p wr s → Calls Try.prog 83 #[x.1, .pointer (some ⟨bx, 0, none⟩)] wr (Wrote W0 p wr (put s (en x)))) :
    Calls Try.prog 82 #[.pointer (some ⟨p, 0, none⟩), v, .func (.func 83) #[] #[.pointer (some ⟨bx, 0, none⟩)]] w (Wrote W0 p w (put s (el en l))) := by
  obtain ⟨ao, cap, rfl, hc1, hc2⟩ := hr.sl
  unfold maxLen at hc2
  obtain ⟨n, hn⟩ : ∃ n, n = l.length := ⟨_, rfl⟩
  rw [← hn] at hr hc1 ⊢
  have kU := wuint W0 w p n s h (by omega)
  have HN : Hid (n = l.length) := hn
  have HR : Hid (Lst 1 cl_set W0 (.slice ao n cap) l) := hr
  have HO : Aside _ := hone
  clear hn hr hone h
  go_enter Try.func82, Try.ntmps82
  go_wp2_with fail
  refine kU.mono ?_
  rintro e w1 ⟨rfl, H1, K1⟩
  have K1' : Hid (KP p w w1) := K1
  have H1' : Hid (Wr W0 p w1 (put s (cat (some (Num.uv n)) (encAll en (l.take 0))))) := by show Wr _ _ _ _; simpa [encAll, cat] using H1
  clear H1 K1 kU
  go_wp2_with fail
  go_loopg [15] n (fun kx v15 wr => ∃ (i : Nat), v15 = .int .i64 i ∧ i ≤ n ∧ n - i ≤ kx ∧ Hid (Wr W0 p wr (put s (cat (some (Num.uv n)) (encAll en (l.take i))))) ∧ Hid (KP p w wr))
  case atStart => exact ⟨0, rfl, by omega, Nat.le_refl _, H1', K1'⟩
  case round =>
    obtain ⟨i, rfl, hi, hkx, HW, HK⟩ := hrel
    by_cases hlt : i < n
    · have hltz : (i : Int) < (n : Int) := by omega
      have hil : i < l.length := by have := HN.out; omega
      obtain ⟨b, off, rfl, hc⟩ := Lst.at (k := 1) (f := cl_set) (by decide) (fun _ => rfl) (HR.out.below HW.out.b) (by omega)
      obtain ⟨S, hS⟩ : ∃ S, S = put s (cat (some (Num.uv n)) (encAll en (l.take i))) := ⟨_, rfl⟩
      have HS : Hid (S = put s (cat (some (Num.uv n)) (encAll en (l.take i)))) := hS
      have HW2 : Hid (Wr W0 p wr S) := by show Wr _ _ _ _; rw [hS]; exact HW.out
      obtain ⟨hp, bb, z, vb, lb, c0, c1, f0, f1, ob, hx⟩ := HW2.out
      obtain ⟨x, hX⟩ : ∃ x, l[i] = x := ⟨_, rfl⟩
      have q0 : wr.cell? ⟨b, off + i, none⟩ = some (x.1) := by have := hc i hil 0 (x.1) (by omega) (by rw [hX]; rfl); simpa using this
      have hxm : x ∈ l := by rw [← hX]; exact List.getElem_mem hil
      have HST : Hid (put S (en x) = put s (cat (some (Num.uv n)) (encAll en (l.take (i + 1))))) := by show _ = _; rw [hS, ← hX]; exact el_step hil
      clear hp f0 f1 ob hx c0 hS hX hc bb
      obtain ⟨sa0, sn0, sc0, se0⟩ := (hsl x hxm)
      rw [se0] at q0
      have SE0 : Hid _ := se0
      clear se0
      cases S with
      | none =>
        change wr.cell? ⟨p, 1, none⟩ = some (.bool true) at c1
        go_wp2_with fail
        go_end0
        refine ⟨rfl, ?_, HK.out⟩
        rw [el_over HN.out HS.out.symm]
        exact HW2.out
      | some S =>
        change wr.cell? ⟨p, 1, none⟩ = some (.bool false) at c1
        have kO := HO.out x hxm wr (some S) HK.out HW2.out
        rw [SE0.out] at kO
        go_wp2_with fail
        refine kO.mono ?_
        rintro e w2 ⟨rfl, H2, K2⟩
        have K2' : Hid (KP p w w2) := HK.out.trans K2
        rw [HST.out] at H2
        have H2' : Hid _ := H2
        clear H2 K2 kO
        go_wp2_with fail
        go_roundg (n - (i + 1))
        case measure => omega
        case rel => exact ⟨i + 1, by go_num, by omega, Nat.le_refl _, H2', K2'⟩
    · have hltz : ¬ (i : Int) < (n : Int) := by omega
      go_wp2_with fail
      go_end0
      exact ⟨rfl, by rw [← el_end HN.out hlt]; exact HW.out, HK.out⟩
def cl_agg (x : Int × Int) : List Value := [.int .i64 x.1, .int .i64 x.2]
set_option maxRecDepth 100000 in
set_option maxHeartbeats 1600000 in
theorem wl_agg (W0 w : World) (p : Nat) (s : Option Bs) (v : Value) (l : List (Int × Int)) (en : Int × Int → Option Bs)  (h : Wr W0 p w s) (hr : Lst 2 cl_agg W0 v l)
    (hone : ∀ x ∈ l, ∀ wr s, KP p w wr → Wr W0 p wr s → Calls Try.prog 86 #[.pointer (some ⟨p, 0, none⟩), .agg #[.int .i64 x.1, .int .i64 x.2]] wr (Wrote W0 p wr (put s (en x)))) :
    Calls Try.prog 85 #[.pointer (some ⟨p, 0, none⟩), v, .func (.func 86) #[.pointer (some ⟨p, 0, none⟩)] #[]] w (Wrote W0 p w (put s (el en l))) := by
  obtain ⟨ao, cap, rfl, hc1, hc2⟩ := hr.sl
  unfold maxLen at hc2
  obtain ⟨n, hn⟩ : ∃ n, n = l.length := ⟨_, rfl⟩
  rw [← hn] at hr hc1 ⊢
  have kU := wuint W0 w p n s h (by omega)
  have HN : Hid (n = l.length) := hn
  have HR : Hid (Lst 2 cl_agg W0 (.slice ao n cap) l) := hr
  have HO : Aside _ := hone
  clear hn hr hone h
  go_enter Try.func85, Try.ntmps85
  go_wp2_with fail
  refine kU.mono ?_
  rintro e w1 ⟨rfl, H1, K1⟩
  have K1' : Hid (KP p w w1) := K1
  have H1' : Hid (Wr W0 p w1 (put s (cat (some (Num.uv n)) (encAll en (l.take 0))))) := by show Wr _ _ _ _; simpa [encAll, cat] using H1
  clear H1 K1 kU
  go_wp2_with fail
  go_loopg [15] n (fun kx v15 wr => ∃ (i : Nat), v15 = .int .i64 i ∧ i ≤ n ∧ n - i ≤ kx ∧ Hid (Wr W0 p wr (put s (cat (some (Num.uv n)) (encAll en (l.take i))))) ∧ Hid (KP p w wr))
  case atStart => exact ⟨0, rfl, by omega, Nat.le_refl _, H1', K1'⟩
  case round =>
    obtain ⟨i, rfl, hi, hkx, HW, HK⟩ := hrel
    by_cases hlt : i < n
    · have hltz : (i : Int) < (n : Int) := by omega
      have hil : i < l.length := by have := HN.out; omega
      obtain ⟨b, off, rfl, hc⟩ := Lst.at (k := 2) (f := cl_agg) (by decide) (fun _ => rfl) (HR.out.below HW.out.b) (by omega)
      obtain ⟨S, hS⟩ : ∃ S, S = put s (cat (some (Num.uv n)) (encAll en (l.take i))) := ⟨_, rfl⟩
      have HS : Hid (S = put s (cat (some (Num.uv n)) (encAll en (l.take i)))) := hS
      have HW2 : Hid (Wr W0 p wr S) := by show Wr _ _ _ _; rw [hS]; exact HW.out
      obtain ⟨hp, bb, z, vb, lb, c0, c1, f0, f1, ob, hx⟩ := HW2.out
      obtain ⟨x, hX⟩ : ∃ x, l[i] = x := ⟨_, rfl⟩
      have q0 : wr.cell? ⟨b, off + i * 2, none⟩ = some (.int .i64 x.1) := by have := hc i hil 0 (.int .i64 x.1) (by omega) (by rw [hX]; rfl); simpa [Nat.add_assoc] using this
      have q1 : wr.cell? ⟨b, off + i * 2 + 1, none⟩ = some (.int .i64 x.2) := by have := hc i hil 1 (.int .i64 x.2) (by omega) (by rw [hX]; rfl); simpa [Nat.add_assoc] using this
      have hxm : x ∈ l := by rw [← hX]; exact List.getElem_mem hil
      have HST : Hid (put S (en x) = put s (cat (some (Num.uv n)) (encAll en (l.take (i + 1))))) := by show _ = _; rw [hS, ← hX]; exact el_step hil
      clear hp f0 f1 ob hx c0 hS hX hc bb
      cases S with
      | none =>
        change wr.cell? ⟨p, 1, none⟩ = some (.bool true) at c1
        go_wp2_with fail
        go_end0
        refine ⟨rfl, ?_, HK.out.trans (KP.alloc _ _ _)⟩
        rw [el_over HN.out HS.out.symm]
        exact HW2.out.alloc _
      | some S =>
        change wr.cell? ⟨p, 1, none⟩ = some (.bool false) at c1
        have kO := HO.out x hxm (wr.alloc (.cells #[.int .i64 x.1, .int .i64 x.2] 128)) (some S) (HK.out.trans (KP.alloc _ _ _)) (HW2.out.alloc _)
        go_wp2_with fail
        refine kO.mono ?_
        rintro e w2 ⟨rfl, H2, K2⟩
        have K2' : Hid (KP p w w2) := (HK.out.trans (KP.alloc _ _ _)).trans K2
        rw [HST.out] at H2
        have H2' : Hid _ := H2
        clear H2 K2 kO
        go_wp2_with fail
        go_roundg (n - (i + 1))
        case measure => omega
        case rel => exact ⟨i + 1, by go_num, by omega, Nat.le_refl _, H2', K2'⟩
    · have hltz : ¬ (i : Int) < (n : Int) := by omega
      go_wp2_with fail
      go_end0
      exact ⟨rfl, by rw [← el_end HN.out hlt]; exact HW.out, HK.out⟩
/-- A segment's name. -/
structure Sg where
  F : Int
  T : Int
  V : Int
  P : Int
  C : Int
/-- What an aggregator has, as it lies in memory. -/
structure Pt where
  n : Nat
  v : Int
  tv : Value
  ts : List Fi.Str
/-- A group as it lies in memory. -/
structure Gp where
  s : Int
  b : Int
  dv : Value
  ds : List Fi.Str
  pv : Value
  ps : List Pt
def cl_seg (x : Sg) : List Value := [.int .i64 x.F, .int .i64 x.T, .int .i64 x.V, .int .i64 x.P, .int .i64 x.C]
set_option maxRecDepth 100000 in
set_option maxHeartbeats 1600000 in
theorem wl_seg (W0 w : World) (p : Nat) (s : Option Bs) (v : Value) (l : List (Sg)) (en : Sg → Option Bs)  (h : Wr W0 p w s) (hr : Lst 5 cl_seg W0 v l)
    (hone : ∀ x ∈ l, ∀ wr s, KP p w wr → Wr W0 p wr s → Calls Try.prog 25 #[.pointer (some ⟨p, 0, none⟩), .agg #[.int .i64 x.F, .int .i64 x.T, .int .i64 x.V, .int .i64 x.P, .int .i64 x.C]] wr (Wrote W0 p wr (put s (en x)))) :
    Calls Try.prog 24 #[.pointer (some ⟨p, 0, none⟩), v, .func (.func 25) #[.pointer (some ⟨p, 0, none⟩)] #[]] w (Wrote W0 p w (put s (el en l))) := by
  obtain ⟨ao, cap, rfl, hc1, hc2⟩ := hr.sl
  unfold maxLen at hc2
  obtain ⟨n, hn⟩ : ∃ n, n = l.length := ⟨_, rfl⟩
  rw [← hn] at hr hc1 ⊢
  have kU := wuint W0 w p n s h (by omega)
  have HN : Hid (n = l.length) := hn
  have HR : Hid (Lst 5 cl_seg W0 (.slice ao n cap) l) := hr
  have HO : Aside _ := hone
  clear hn hr hone h
  go_enter Try.func24, Try.ntmps24
  go_wp2_with fail
  refine kU.mono ?_
  rintro e w1 ⟨rfl, H1, K1⟩
  have K1' : Hid (KP p w w1) := K1
  have H1' : Hid (Wr W0 p w1 (put s (cat (some (Num.uv n)) (encAll en (l.take 0))))) := by show Wr _ _ _ _; simpa [encAll, cat] using H1
  clear H1 K1 kU
  go_wp2_with fail
  go_loopg [15] n (fun kx v15 wr => ∃ (i : Nat), v15 = .int .i64 i ∧ i ≤ n ∧ n - i ≤ kx ∧ Hid (Wr W0 p wr (put s (cat (some (Num.uv n)) (encAll en (l.take i))))) ∧ Hid (KP p w wr))
  case atStart => exact ⟨0, rfl, by omega, Nat.le_refl _, H1', K1'⟩
  case round =>
    obtain ⟨i, rfl, hi, hkx, HW, HK⟩ := hrel
    by_cases hlt : i < n
    · have hltz : (i : Int) < (n : Int) := by omega
      have hil : i < l.length := by have := HN.out; omega
      obtain ⟨b, off, rfl, hc⟩ := Lst.at (k := 5) (f := cl_seg) (by decide) (fun _ => rfl) (HR.out.below HW.out.b) (by omega)
      obtain ⟨S, hS⟩ : ∃ S, S = put s (cat (some (Num.uv n)) (encAll en (l.take i))) := ⟨_, rfl⟩
      have HS : Hid (S = put s (cat (some (Num.uv n)) (encAll en (l.take i)))) := hS
      have HW2 : Hid (Wr W0 p wr S) := by show Wr _ _ _ _; rw [hS]; exact HW.out
      obtain ⟨hp, bb, z, vb, lb, c0, c1, f0, f1, ob, hx⟩ := HW2.out
      obtain ⟨x, hX⟩ : ∃ x, l[i] = x := ⟨_, rfl⟩
      have q0 : wr.cell? ⟨b, off + i * 5, none⟩ = some (.int .i64 x.F) := by have := hc i hil 0 (.int .i64 x.F) (by omega) (by rw [hX]; rfl); simpa [Nat.add_assoc] using this
      have q1 : wr.cell? ⟨b, off + i * 5 + 1, none⟩ = some (.int .i64 x.T) := by have := hc i hil 1 (.int .i64 x.T) (by omega) (by rw [hX]; rfl); simpa [Nat.add_assoc] using this
      have q2 : wr.cell? ⟨b, off + i * 5 + 2, none⟩ = some (.int .i64 x.V) := by have := hc i hil 2 (.int .i64 x.V) (by omega) (by rw [hX]; rfl); simpa [Nat.add_assoc] using this
      have q3 : wr.cell? ⟨b, off + i * 5 + 3, none⟩ = some (.int .i64 x.P) := by have := hc i hil 3 (.int .i64 x.P) (by omega) (by rw [hX]; rfl); simpa [Nat.add_assoc] using this
      have q4 : wr.cell? ⟨b, off + i * 5 + 4, none⟩ = some (.int .i64 x.C) := by have := hc i hil 4 (.int .i64 x.C) (by omega) (by rw [hX]; rfl); simpa [Nat.add_assoc] using this
      have hxm : x ∈ l := by rw [← hX]; exact List.getElem_mem hil
      have HST : Hid (put S (en x) = put s (cat (some (Num.uv n)) (encAll en (l.take (i + 1))))) := by show _ = _; rw [hS, ← hX]; exact el_step hil
      clear hp f0 f1 ob hx c0 hS hX hc bb
      cases S with
      | none =>
        change wr.cell? ⟨p, 1, none⟩ = some (.bool true) at c1
        go_wp2_with fail
        go_end0
        refine ⟨rfl, ?_, HK.out.trans (KP.alloc _ _ _)⟩
        rw [el_over HN.out HS.out.symm]
        exact HW2.out.alloc _
      | some S =>
        change wr.cell? ⟨p, 1, none⟩ = some (.bool false) at c1
        have kO := HO.out x hxm (wr.alloc (.cells #[.int .i64 x.F, .int .i64 x.T, .int .i64 x.V, .int .i64 x.P, .int .i64 x.C] 38)) (some S) (HK.out.trans (KP.alloc _ _ _)) (HW2.out.alloc _)
        go_wp2_with fail
        refine kO.mono ?_
        rintro e w2 ⟨rfl, H2, K2⟩
        have K2' : Hid (KP p w w2) := (HK.out.trans (KP.alloc _ _ _)).trans K2
        rw [HST.out] at H2
        have H2' : Hid _ := H2
        clear H2 K2 kO
        go_wp2_with fail
        go_roundg (n - (i + 1))
        case measure => omega
        case rel => exact ⟨i + 1, by go_num, by omega, Nat.le_refl _, H2', K2'⟩
    · have hltz : ¬ (i : Int) < (n : Int) := by omega
      go_wp2_with fail
      go_end0
      exact ⟨rfl, by rw [← el_end HN.out hlt]; exact HW.out, HK.out⟩
def cl_prt (x : Pt) : List Value := [.int .u64 (x.n : Nat), .int .i64 x.v, x.tv]
set_option maxRecDepth 100000 in
set_option maxHeartbeats 1600000 in
theorem wl_prt (W0 w : World) (p : Nat) (s : Option Bs) (v : Value) (l : List (Pt)) (en : Pt → Option Bs)  (hsl : ∀ x ∈ l, (∃ a n c, x.tv = .slice a n c)) (h : Wr W0 p w s) (hr : Lst 3 cl_prt W0 v l)
    (hone : ∀ x ∈ l, ∀ wr s, KP p w wr → Wr W0 p wr s → Calls Try.prog 89 #[.pointer (some ⟨p, 0, none⟩), .agg #[.int .u64 (x.n : Nat), .int .i64 x.v, x.tv]] wr (Wrote W0 p wr (put s (en x)))) :
    Calls Try.prog 88 #[.pointer (some ⟨p, 0, none⟩), v, .func (.func 89) #[.pointer (some ⟨p, 0, none⟩)] #[]] w (Wrote W0 p w (put s (el en l))) := by
  obtain ⟨ao, cap, rfl, hc1, hc2⟩ := hr.sl
  unfold maxLen at hc2
  obtain ⟨n, hn⟩ : ∃ n, n = l.length := ⟨_, rfl⟩
  rw [← hn] at hr hc1 ⊢
  have kU := wuint W0 w p n s h (by omega)
  have HN : Hid (n = l.length) := hn
  have HR : Hid (Lst 3 cl_prt W0 (.slice ao n cap) l) := hr
  have HO : Aside _ := hone
  clear hn hr hone h
  go_enter Try.func88, Try.ntmps88
  go_wp2_with fail
  refine kU.mono ?_
  rintro e w1 ⟨rfl, H1, K1⟩
  have K1' : Hid (KP p w w1) := K1
  have H1' : Hid (Wr W0 p w1 (put s (cat (some (Num.uv n)) (encAll en (l.take 0))))) := by show Wr _ _ _ _; simpa [encAll, cat] using H1
  clear H1 K1 kU
  go_wp2_with fail
  go_loopg [15] n (fun kx v15 wr => ∃ (i : Nat), v15 = .int .i64 i ∧ i ≤ n ∧ n - i ≤ kx ∧ Hid (Wr W0 p wr (put s (cat (some (Num.uv n)) (encAll en (l.take i))))) ∧ Hid (KP p w wr))
  case atStart => exact ⟨0, rfl, by omega, Nat.le_refl _, H1', K1'⟩
  case round =>
    obtain ⟨i, rfl, hi, hkx, HW, HK⟩ := hrel
    by_cases hlt : i < n
    · have hltz : (i : Int) < (n : Int) := by omega
      have hil : i < l.length := by have := HN.out; omega
      obtain ⟨b, off, rfl, hc⟩ := Lst.at (k := 3) (f := cl_prt) (by decide) (fun _ => rfl) (HR.out.below HW.out.b) (by omega)
      obtain ⟨S, hS⟩ : ∃ S, S = put s (cat (some (Num.uv n)) (encAll en (l.take i))) := ⟨_, rfl⟩
      have HS : Hid (S = put s (cat (some (Num.uv n)) (encAll en (l.take i)))) := hS
      have HW2 : Hid (Wr W0 p wr S) := by show Wr _ _ _ _; rw [hS]; exact HW.out
      obtain ⟨hp, bb, z, vb, lb, c0, c1, f0, f1, ob, hx⟩ := HW2.out
      obtain ⟨x, hX⟩ : ∃ x, l[i] = x := ⟨_, rfl⟩
      have q0 : wr.cell? ⟨b, off + i * 3, none⟩ = some (.int .u64 (x.n : Nat)) := by have := hc i hil 0 (.int .u64 (x.n : Nat)) (by omega) (by rw [hX]; rfl); simpa [Nat.add_assoc] using this
      have q1 : wr.cell? ⟨b, off + i * 3 + 1, none⟩ = some (.int .i64 x.v) := by have := hc i hil 1 (.int .i64 x.v) (by omega) (by rw [hX]; rfl); simpa [Nat.add_assoc] using this
      have q2 : wr.cell? ⟨b, off + i * 3 + 2, none⟩ = some (x.tv) := by have := hc i hil 2 (x.tv) (by omega) (by rw [hX]; rfl); simpa [Nat.add_assoc] using this
      have hxm : x ∈ l := by rw [← hX]; exact List.getElem_mem hil
      have HST : Hid (put S (en x) = put s (cat (some (Num.uv n)) (encAll en (l.take (i + 1))))) := by show _ = _; rw [hS, ← hX]; exact el_step hil
      clear hp f0 f1 ob hx c0 hS hX hc bb
      obtain ⟨sa0, sn0, sc0, se0⟩ := (hsl x hxm)
      rw [se0] at q2
      have SE0 : Hid _ := se0
      clear se0
      cases S with
      | none =>
        change wr.cell? ⟨p, 1, none⟩ = some (.bool true) at c1
        go_wp2_with fail
        go_end0
        refine ⟨rfl, ?_, HK.out.trans (KP.alloc _ _ _)⟩
        rw [el_over HN.out HS.out.symm]
        exact HW2.out.alloc _
      | some S =>
        change wr.cell? ⟨p, 1, none⟩ = some (.bool false) at c1
        have kO := HO.out x hxm (wr.alloc (.cells #[.int .u64 (x.n : Nat), .int .i64 x.v, x.tv] 87)) (some S) (HK.out.trans (KP.alloc _ _ _)) (HW2.out.alloc _)
        rw [SE0.out] at kO
        go_wp2_with fail
        refine kO.mono ?_
        rintro e w2 ⟨rfl, H2, K2⟩
        have K2' : Hid (KP p w w2) := (HK.out.trans (KP.alloc _ _ _)).trans K2
        rw [HST.out] at H2
        have H2' : Hid _ := H2
        clear H2 K2 kO
        go_wp2_with fail
        go_roundg (n - (i + 1))
        case measure => omega
        case rel => exact ⟨i + 1, by go_num, by omega, Nat.le_refl _, H2', K2'⟩
    · have hltz : ¬ (i : Int) < (n : Int) := by omega
      go_wp2_with fail
      go_end0
      exact ⟨rfl, by rw [← el_end HN.out hlt]; exact HW.out, HK.out⟩
def cl_grp (x : Gp) : List Value := [.int .i64 x.s, .int .i64 x.b, x.dv, x.pv]
set_option maxRecDepth 100000 in
set_option maxHeartbeats 1600000 in
theorem wl_grp (W0 w : World) (p : Nat) (s : Option Bs) (v : Value) (l : List (Gp)) (en : Gp → Option Bs)  (hsl : ∀ x ∈ l, (∃ a n c, x.dv = .slice a n c) ∧ (∃ a n c, x.pv = .slice a n c)) (h : Wr W0 p w s) (hr : Lst 4 cl_grp W0 v l)
    (hone : ∀ x ∈ l, ∀ wr s, KP p w wr → Wr W0 p wr s → Calls Try.prog 27 #[.pointer (some ⟨p, 0, none⟩), .agg #[.int .i64 x.s, .int .i64 x.b, x.dv, x.pv]] wr (Wrote W0 p wr (put s (en x)))) :
    Calls Try.prog 26 #[.pointer (some ⟨p, 0, none⟩), v, .func (.func 27) #[.pointer (some ⟨p, 0, none⟩)] #[]] w (Wrote W0 p w (put s (el en l))) := by
  obtain ⟨ao, cap, rfl, hc1, hc2⟩ := hr.sl
  unfold maxLen at hc2
  obtain ⟨n, hn⟩ : ∃ n, n = l.length := ⟨_, rfl⟩
  rw [← hn] at hr hc1 ⊢
  have kU := wuint W0 w p n s h (by omega)
  have HN : Hid (n = l.length) := hn
  have HR : Hid (Lst 4 cl_grp W0 (.slice ao n cap) l) := hr
  have HO : Aside _ := hone
  clear hn hr hone h
  go_enter Try.func26, Try.ntmps26
  go_wp2_with fail
  refine kU.mono ?_
  rintro e w1 ⟨rfl, H1, K1⟩
  have K1' : Hid (KP p w w1) := K1
  have H1' : Hid (Wr W0 p w1 (put s (cat (some (Num.uv n)) (encAll en (l.take 0))))) := by show Wr _ _ _ _; simpa [encAll, cat] using H1
  clear H1 K1 kU
  go_wp2_with fail
  go_loopg [15] n (fun kx v15 wr => ∃ (i : Nat), v15 = .int .i64 i ∧ i ≤ n ∧ n - i ≤ kx ∧ Hid (Wr W0 p wr (put s (cat (some (Num.uv n)) (encAll en (l.take i))))) ∧ Hid (KP p w wr))
  case atStart => exact ⟨0, rfl, by omega, Nat.le_refl _, H1', K1'⟩
  case round =>
    obtain ⟨i, rfl, hi, hkx, HW, HK⟩ := hrel
    by_cases hlt : i < n
    · have hltz : (i : Int) < (n : Int) := by omega
      have hil : i < l.length := by have := HN.out; omega
      obtain ⟨b, off, rfl, hc⟩ := Lst.at (k := 4) (f := cl_grp) (by decide) (fun _ => rfl) (HR.out.below HW.out.b) (by omega)
      obtain ⟨S, hS⟩ : ∃ S, S = put s (cat (some (Num.uv n)) (encAll en (l.take i))) := ⟨_, rfl⟩
      have HS : Hid (S = put s (cat (some (Num.uv n)) (encAll en (l.take i)))) := hS
      have HW2 : Hid (Wr W0 p wr S) := by show Wr _ _ _ _; rw [hS]; exact HW.out
      obtain ⟨hp, bb, z, vb, lb, c0, c1, f0, f1, ob, hx⟩ := HW2.out
      obtain ⟨x, hX⟩ : ∃ x, l[i] = x := ⟨_, rfl⟩
      have q0 : wr.cell? ⟨b, off + i * 4, none⟩ = some (.int .i64 x.s) := by have := hc i hil 0 (.int .i64 x.s) (by omega) (by rw [hX]; rfl); simpa [Nat.add_assoc] using this
      have q1 : wr.cell? ⟨b, off + i * 4 + 1, none⟩ = some (.int .i64 x.b) := by have := hc i hil 1 (.int .i64 x.b) (by omega) (by rw [hX]; rfl); simpa [Nat.add_assoc] using this
      have q2 : wr.cell? ⟨b, off + i * 4 + 2, none⟩ = some (x.dv) := by have := hc i hil 2 (x.dv) (by omega) (by rw [hX]; rfl); simpa [Nat.add_assoc] using this
      have q3 : wr.cell? ⟨b, off + i * 4 + 3, none⟩ = some (x.pv) := by have := hc i hil 3 (x.pv) (by omega) (by rw [hX]; rfl); simpa [Nat.add_assoc] using this
      have hxm : x ∈ l := by rw [← hX]; exact List.getElem_mem hil
      have HST : Hid (put S (en x) = put s (cat (some (Num.uv n)) (encAll en (l.take (i + 1))))) := by show _ = _; rw [hS, ← hX]; exact el_step hil
      clear hp f0 f1 ob hx c0 hS hX hc bb
      obtain ⟨sa0, sn0, sc0, se0⟩ := (hsl x hxm).1
      obtain ⟨sa1, sn1, sc1, se1⟩ := (hsl x hxm).2
      rw [se0] at q2
      have SE0 : Hid _ := se0
      clear se0
      rw [se1] at q3
      have SE1 : Hid _ := se1
      clear se1
      cases S with
      | none =>
        change wr.cell? ⟨p, 1, none⟩ = some (.bool true) at c1
        go_wp2_with fail
        go_end0
        refine ⟨rfl, ?_, HK.out.trans (KP.alloc _ _ _)⟩
        rw [el_over HN.out HS.out.symm]
        exact HW2.out.alloc _
      | some S =>
        change wr.cell? ⟨p, 1, none⟩ = some (.bool false) at c1
        have kO := HO.out x hxm (wr.alloc (.cells #[.int .i64 x.s, .int .i64 x.b, x.dv, x.pv] 77)) (some S) (HK.out.trans (KP.alloc _ _ _)) (HW2.out.alloc _)
        rw [SE0.out, SE1.out] at kO
        go_wp2_with fail
        refine kO.mono ?_
        rintro e w2 ⟨rfl, H2, K2⟩
        have K2' : Hid (KP p w w2) := (HK.out.trans (KP.alloc _ _ _)).trans K2
        rw [HST.out] at H2
        have H2' : Hid _ := H2
        clear H2 K2 kO
        go_wp2_with fail
        go_roundg (n - (i + 1))
        case measure => omega
        case rel => exact ⟨i + 1, by go_num, by omega, Nat.le_refl _, H2', K2'⟩
    · have hltz : ¬ (i : Int) < (n : Int) := by omega
      go_wp2_with fail
      go_end0
      exact ⟨rfl, by rw [← el_end HN.out hlt]; exact HW.out, HK.out⟩
def cl_fil (x : Fi.Tr) : List Value := [.int .i64 x.k, .int .i64 x.d, x.tv, .int .i64 x.lo, .int .i64 x.hi, x.kv]
set_option maxRecDepth 100000 in
set_option maxHeartbeats 1600000 in
theorem wl_fil (W0 w : World) (p : Nat) (s : Option Bs) (v : Value) (l : List (Fi.Tr)) (en : Fi.Tr → Option Bs) (bx bd : Nat) (hsl : ∀ x ∈ l, (∃ a n c, x.tv = .slice a n c) ∧ (∃ a n c, x.kv = .slice a n c)) (h : Wr W0 p w s) (hr : Lst 6 cl_fil W0 v l)
    (hone : ∀ x ∈ l, ∀ wr s, KP p w wr → Wr W0 p wr s → Calls Try.prog 113 #[.agg #[.int .i64 x.k, .int .i64 x.d, x.tv, .int .i64 x.lo, .int .i64 x.hi, x.kv], .pointer (some ⟨bx, 0, none⟩), .pointer (some ⟨bd, 0, none⟩)] wr (Wrote W0 p wr (put s (en x)))) :
    Calls Try.prog 112 #[.pointer (some ⟨p, 0, none⟩), v, .func (.func 113) #[] #[.pointer (some ⟨bx, 0, none⟩), .pointer (some ⟨bd, 0, none⟩)]] w (Wrote W0 p w (put s (el en l))) := by
  obtain ⟨ao, cap, rfl, hc1, hc2⟩ := hr.sl
  unfold maxLen at hc2
  obtain ⟨n, hn⟩ : ∃ n, n = l.length := ⟨_, rfl⟩
  rw [← hn] at hr hc1 ⊢
  have kU := wuint W0 w p n s h (by omega)
  have HN : Hid (n = l.length) := hn
  have HR : Hid (Lst 6 cl_fil W0 (.slice ao n cap) l) := hr
  have HO : Aside _ := hone
  clear hn hr hone h
  go_enter Try.func112, Try.ntmps112
  go_wp2_with fail
  refine kU.mono ?_
  rintro e w1 ⟨rfl, H1, K1⟩
  have K1' : Hid (KP p w w1) := K1
  have H1' : Hid (Wr W0 p w1 (put s (cat (some (Num.uv n)) (encAll en (l.take 0))))) := by show Wr _ _ _ _; simpa [encAll, cat] using H1
  clear H1 K1 kU
  go_wp2_with fail
  go_loopg [15] n (fun kx v15 wr => ∃ (i : Nat), v15 = .int .i64 i ∧ i ≤ n ∧ n - i ≤ kx ∧ Hid (Wr W0 p wr (put s (cat (some (Num.uv n)) (encAll en (l.take i))))) ∧ Hid (KP p w wr))
  case atStart => exact ⟨0, rfl, by omega, Nat.le_refl _, H1', K1'⟩
  case round =>
    obtain ⟨i, rfl, hi, hkx, HW, HK⟩ := hrel
    by_cases hlt : i < n
    · have hltz : (i : Int) < (n : Int) := by omega
      have hil : i < l.length := by have := HN.out; omega
      obtain ⟨b, off, rfl, hc⟩ := Lst.at (k := 6) (f := cl_fil) (by decide) (fun _ => rfl) (HR.out.below HW.out.b) (by omega)
      obtain ⟨S, hS⟩ : ∃ S, S = put s (cat (some (Num.uv n)) (encAll en (l.take i))) := ⟨_, rfl⟩
      have HS : Hid (S = put s (cat (some (Num.uv n)) (encAll en (l.take i)))) := hS
      have HW2 : Hid (Wr W0 p wr S) := by show Wr _ _ _ _; rw [hS]; exact HW.out
      obtain ⟨hp, bb, z, vb, lb, c0, c1, f0, f1, ob, hx⟩ := HW2.out
      obtain ⟨x, hX⟩ : ∃ x, l[i] = x := ⟨_, rfl⟩
      have q0 : wr.cell? ⟨b, off + i * 6, none⟩ = some (.int .i64 x.k) := by have := hc i hil 0 (.int .i64 x.k) (by omega) (by rw [hX]; rfl); simpa [Nat.add_assoc] using this
      have q1 : wr.cell? ⟨b, off + i * 6 + 1, none⟩ = some (.int .i64 x.d) := by have := hc i hil 1 (.int .i64 x.d) (by omega) (by rw [hX]; rfl); simpa [Nat.add_assoc] using this
      have q2 : wr.cell? ⟨b, off + i * 6 + 2, none⟩ = some (x.tv) := by have := hc i hil 2 (x.tv) (by omega) (by rw [hX]; rfl); simpa [Nat.add_assoc] using this
      have q3 : wr.cell? ⟨b, off + i * 6 + 3, none⟩ = some (.int .i64 x.lo) := by have := hc i hil 3 (.int .i64 x.lo) (by omega) (by rw [hX]; rfl); simpa [Nat.add_assoc] using this
      have q4 : wr.cell? ⟨b, off + i * 6 + 4, none⟩ = some (.int .i64 x.hi) := by have := hc i hil 4 (.int .i64 x.hi) (by omega) (by rw [hX]; rfl); simpa [Nat.add_assoc] using this
      have q5 : wr.cell? ⟨b, off + i * 6 + 5, none⟩ = some (x.kv) := by have := hc i hil 5 (x.kv) (by omega) (by rw [hX]; rfl); simpa [Nat.add_assoc] using this
      have hxm : x ∈ l := by rw [← hX]; exact List.getElem_mem hil
      have HST : Hid (put S (en x) = put s (cat (some (Num.uv n)) (encAll en (l.take (i + 1))))) := by show _ = _; rw [hS, ← hX]; exact el_step hil
      clear hp f0 f1 ob hx c0 hS hX hc bb
      obtain ⟨sa0, sn0, sc0, se0⟩ := (hsl x hxm).1
      obtain ⟨sa1, sn1, sc1, se1⟩ := (hsl x hxm).2
      rw [se0] at q2
      have SE0 : Hid _ := se0
      clear se0
      rw [se1] at q5
      have SE1 : Hid _ := se1
      clear se1
      cases S with
      | none =>
        change wr.cell? ⟨p, 1, none⟩ = some (.bool true) at c1
        go_wp2_with fail
        go_end0
        refine ⟨rfl, ?_, HK.out.trans (KP.alloc _ _ _)⟩
        rw [el_over HN.out HS.out.symm]
        exact HW2.out.alloc _
      | some S =>
        change wr.cell? ⟨p, 1, none⟩ = some (.bool false) at c1
        have kO := HO.out x hxm (wr.alloc (.cells #[.int .i64 x.k, .int .i64 x.d, x.tv, .int .i64 x.lo, .int .i64 x.hi, x.kv] 32)) (some S) (HK.out.trans (KP.alloc _ _ _)) (HW2.out.alloc _)
        rw [SE0.out, SE1.out] at kO
        go_wp2_with fail
        refine kO.mono ?_
        rintro e w2 ⟨rfl, H2, K2⟩
        have K2' : Hid (KP p w w2) := (HK.out.trans (KP.alloc _ _ _)).trans K2
        rw [HST.out] at H2
        have H2' : Hid _ := H2
        clear H2 K2 kO
        go_wp2_with fail
        go_roundg (n - (i + 1))
        case measure => omega
        case rel => exact ⟨i + 1, by go_num, by omega, Nat.le_refl _, H2', K2'⟩
    · have hltz : ¬ (i : Int) < (n : Int) := by omega
      go_wp2_with fail
      go_end0
      exact ⟨rfl, by rw [← el_end HN.out hlt]; exact HW.out, HK.out⟩
end Go.Proofs.Ytpdlioidiobbbaa
