/- A disk that has blobs: what Put, Get, Delete, Open and List do to it. No walk stands here. -/
import Derived.Test.YthegdhbmfojdaaaOnM
import Derived.Test.YthegdhbmfojdaaaBl8
namespace Go.Proofs.Ythegdhbmfojdaaa
open Go.RowKit Go.Maps Go.Sort
set_option linter.unusedVariables false

/-- A blob's file. -/
def blF (e : Str × Str) : Fl := ⟨fB e.1, Wi.framed e.2, (Wi.framed e.2).length⟩
/-- A disk that has these blobs. -/
def bS (M : List (Str × Str)) (n : Nat) (o st : Bool) (op part : Int) : St := ⟨M.map blF, n, o, st, op, part⟩
/-- .. and a draft. -/
def bD (M : List (Str × Str)) (f : Fl) (n : Nat) (o st : Bool) (op part : Int) : St := ⟨M.map blF ++ [f], n, o, st, op, part⟩
/-- Blobs of unlike names that may be, none too long. -/
structure Bls (M : List (Str × Str)) : Prop where
  nd : M.Pairwise fun a b => a.1 ≠ b.1
  nm : ∀ e ∈ M, bNm e.1 = true
  le : ∀ e ∈ M, e.2.length ≤ 1048576
theorem fB_inj {x y : Str} (h : fB x = fB y) : x = y := by unfold fB at h; injection h with _ h; injection h
theorem fB_fT {x y : Str} : ¬ fB x = fT y := by unfold fB fT; intro h; injection h with h _; exact absurd h (by decide)
def mHas (M : List (Str × Str)) (x : Str) : Bool := M.any fun e => e.1 == x
theorem hasF_b (M : List (Str × Str)) (x : Str) : hasF (M.map blF) (fB x) = mHas M x := by
  unfold hasF mHas
  rw [List.any_map]
  refine congrArg (fun g => M.any g) (funext fun e => ?_)
  show (fB e.1 == fB x) = (e.1 == x)
  by_cases h : e.1 = x
  · rw [h]; simp
  · rw [beq_eq_false_iff_ne.2 h, beq_eq_false_iff_ne.2 fun q => h (fB_inj q)]
theorem hasF_t (M : List (Str × Str)) (x : Str) : hasF (M.map blF) (fT x) = false := by
  unfold hasF
  rw [List.any_map, List.any_eq_false]
  intro e _ h
  have : fB e.1 = fT x := by simpa [blF] using h
  exact fB_fT this
theorem nmB_ok {x : Str} (h : bNm x = true) : isNm (fB x) = true ∧ isNm (fT x) = true := by
  unfold bNm at h
  rw [Bool.and_eq_true] at h
  have h1 : ¬ x.length < 1 ∧ ¬ 62 < x.length := by simpa using h.1
  unfold isNm fB fT
  simp only [List.length_cons, List.all_cons, h.2, Bool.and_true]
  have e1 : nmB 98 = true := by decide
  have e2 : nmB 46 = true := by decide
  have e3 : nmB 116 = true := by decide
  rw [e1, e2, e3]
  have h4 : ¬ 64 < x.length + 1 + 1 := by omega
  simp [h4]
theorem rfB_b {s : St} {x : Str} (ho : s.off = false) (h : bNm x = true) : rfB s x = 0 := by
  unfold rfB
  rw [ho, h]
  rfl
theorem gotF_b {M : List (Str × Str)} (hM : Bls M) {x l : Str} (h : (x, l) ∈ M) : gotF (M.map blF) (fB x) = [blF (x, l)] := by
  have key : ∀ M : List (Str × Str), (∀ e ∈ M, e.1 ≠ x) → gotF (M.map blF) (fB x) = [] := fun M hn => by
    unfold gotF
    rw [List.filter_eq_nil_iff]
    intro f hf q
    obtain ⟨e, he, rfl⟩ := List.mem_map.1 hf
    have q' : fB e.1 = fB x := by simpa [blF] using q
    exact hn e he (fB_inj q')
  have nd := hM.nd
  clear hM
  induction M with
  | nil => cases h
  | cons e M ih =>
    obtain ⟨p1, p2⟩ := List.pairwise_cons.1 nd
    rcases List.mem_cons.1 h with h | h
    · subst h
      have hk := key M fun e he => (p1 e he).symm
      unfold gotF at hk ⊢
      rw [List.map_cons, List.filter_cons_of_pos (by simp [blF]), hk]
    · have hne : e.1 ≠ x := p1 _ h
      have ih := ih h p2
      unfold gotF at ih ⊢
      rw [List.map_cons, List.filter_cons_of_neg (by simp only [blF]; intro q; exact hne (fB_inj (by simpa using q))), ih]
theorem bget_in {s : St} {M : List (Str × Str)} (hs : s.fs = M.map blF) (hM : Bls M) (ho : s.off = false) {x l : Str} (h : (x, l) ∈ M) : bget s x = (0, l) := by
  have hn := hM.nm _ h
  have e0 := rfB_b ho hn
  have e1 : rfF s (fB x) [] = 0 := by
    have : rfC s ([] ++ [fB x]) = 0 := by unfold rfC; rw [ho]; simp [(nmB_ok hn).1]
    unfold rfF
    rw [this, if_neg (by simp), hs, hasF_b, if_pos]
    unfold mHas
    rw [List.any_eq_true]
    exact ⟨_, h, by simp⟩
  have e2 : rdC s (fB x) = Wi.framed l := by
    unfold rdC bytF
    rw [if_pos e1, hs, gotF_b hM h]
    rfl
  unfold bget
  rw [e0, if_neg (by simp), e1, if_neg (by simp), e2, if_pos (unf_framed l (hM.le _ h)), drop_framed]
theorem bget_out {s : St} {M : List (Str × Str)} (hs : s.fs = M.map blF) (ho : s.off = false) {x : Str} (hn : bNm x = true) (h : mHas M x = false) : bget s x = (120, []) := by
  have e0 := rfB_b ho hn
  have e1 : rfF s (fB x) [] = 120 := by
    have : rfC s ([] ++ [fB x]) = 0 := by unfold rfC; rw [ho]; simp [(nmB_ok hn).1]
    unfold rfF
    rw [this, if_neg (by simp), hs, hasF_b, h]
    rfl
  unfold bget
  rw [e0, if_neg (by simp), e1]
  rfl
theorem mHas_in {M : List (Str × Str)} {x : Str} (h : mHas M x = true) : ∃ l, (x, l) ∈ M := by
  unfold mHas at h
  rw [List.any_eq_true] at h
  obtain ⟨⟨y, l⟩, h1, h2⟩ := h
  have : y = x := by simpa using h2
  subst this
  exact ⟨l, h1⟩
theorem in_mHas {M : List (Str × Str)} {x l : Str} (h : (x, l) ∈ M) : mHas M x = true := by
  unfold mHas
  rw [List.any_eq_true]
  exact ⟨_, h, by simp⟩
theorem one_in {M : List (Str × Str)} (hM : Bls M) {x l m : Str} (h : (x, l) ∈ M) (k : (x, m) ∈ M) : l = m := by
  have nd := hM.nd
  clear hM
  induction M with
  | nil => cases h
  | cons e M ih =>
    obtain ⟨p1, p2⟩ := List.pairwise_cons.1 nd
    rcases List.mem_cons.1 h with h' | h'
    · rcases List.mem_cons.1 k with k' | k'
      · rw [← h'] at k'
        simpa using k'.symm
      · subst h'
        exact absurd rfl (p1 (x, m) k')
    · rcases List.mem_cons.1 k with k' | k'
      · subst k'
        exact absurd rfl (p1 (x, l) h')
      · exact ih h' k' p2
/-- A blob that is there, put again. -/
theorem bput_in {s : St} {M : List (Str × Str)} (hs : s.fs = M.map blF) (hM : Bls M) (ho : s.off = false) {x l m : Str} (h : (x, l) ∈ M) (hm : m.length ≤ 1048576) : bput s x m = (if m = l then 0 else 121, s) := by
  unfold bput
  rw [rfB_b ho (hM.nm _ h), if_neg (by simp), if_neg (by omega)]
  unfold hol
  rw [bget_in hs hM ho h]
  by_cases e : m = l
  · subst e
    simp
  · have : ¬ l = m := fun q => e q.symm
    simp [this, e]
theorem bput_no {s : St} {x l : Str} (ho : s.off = false) (h : bNm x = false ∨ 1048576 < l.length) : bput s x l = (1, s) := by
  unfold bput
  cases hx : bNm x with
  | false =>
    have : rfB s x = 1 := by unfold rfB; rw [ho, hx]; rfl
    rw [this, if_pos (by simp)]
  | true =>
    rw [rfB_b ho hx, if_neg (by simp), if_pos]
    rcases h with h | h
    · rw [hx] at h; cases h
    · exact h
theorem cut_b (part : Int) (M : List (Str × Str)) : (M.map blF).map (cutF part) = M.map blF := by
  rw [List.map_map]
  refine List.map_congr_left fun e _ => ?_
  have : cutK part (Wi.framed e.2).length (Wi.framed e.2).length = (Wi.framed e.2).length := by unfold cutK; simp
  show (⟨fB e.1, (Wi.framed e.2).take (cutK part (Wi.framed e.2).length (Wi.framed e.2).length), cutK part (Wi.framed e.2).length (Wi.framed e.2).length⟩ : Fl) = _
  rw [this, List.take_length]
  rfl
/-- An operation is counted where a draft may lie. -/
theorem count_b (M : List (Str × Str)) (fs : List Fl) (n : Nat) (st : Bool) (op part : Int) : (∃ fs', fs' = fs.map (cutF part) ∧ St.count ⟨M.map blF ++ fs, n, false, st, op, part⟩ = (122, ⟨M.map blF ++ fs', n + 1, true, st, op, part⟩) ∧ st = true ∧ op = (n : Int)) ∨ (St.count ⟨M.map blF ++ fs, n, false, st, op, part⟩ = (0, ⟨M.map blF ++ fs, n + 1, false, st, op, part⟩) ∧ ¬ (st = true ∧ (n : Int) = op)) := by
  unfold St.count
  by_cases h : st = true ∧ (n : Int) = op
  · left
    refine ⟨_, rfl, ?_, h.1, h.2.symm⟩
    rw [if_pos h]
    unfold St.tick St.cut
    simp only [List.map_append, cut_b]
    rfl
  · right
    rw [if_neg h]
    exact ⟨rfl, h⟩
theorem rfF_t {M : List (Str × Str)} {f : Fl} {n : Nat} {st : Bool} {op part : Int} {x : Str} (hx : bNm x = true) (hf : f.nm = fT x) (ns : List Str) (hns : ns.all isNm = true) : rfF ⟨M.map blF ++ [f], n, false, st, op, part⟩ (fT x) ns = 0 := by
  have h1 : rfC ⟨M.map blF ++ [f], n, false, st, op, part⟩ (ns ++ [fT x]) = 0 := by unfold rfC; simp [List.all_append, hns, (nmB_ok hx).2]
  unfold rfF
  rw [h1, if_neg (by simp)]
  have : hasF (M.map blF ++ [f]) (fT x) = true := by unfold hasF; rw [List.any_append]; simp [hf]
  rw [this]
  rfl
theorem map_miss {fs : List Fl} {t : Str} {g : Fl → Fl} (h : hasF fs t = false) : (fs.map fun f => if f.nm = t then g f else f) = fs := by
  unfold hasF at h
  rw [List.any_eq_false] at h
  have : ∀ f ∈ fs, (if f.nm = t then g f else f) = f := fun f hf => by
    have := h f hf
    rw [if_neg (by simpa using this)]
  rw [List.map_congr_left this, List.map_id']
theorem del_miss {fs : List Fl} {t : Str} (h : hasF fs t = false) : delF fs t = fs := by
  unfold hasF at h
  rw [List.any_eq_false] at h
  unfold delF
  rw [List.filter_eq_self]
  intro f hf
  have := h f hf
  simpa using this
theorem got_miss {fs : List Fl} {t : Str} (h : hasF fs t = false) : gotF fs t = [] := by
  unfold hasF at h
  rw [List.any_eq_false] at h
  unfold gotF
  rw [List.filter_eq_nil_iff]
  intro f hf
  have := h f hf
  simpa using this
/-- A blob that isn't there is put: it is there behind, or the power went off, and a draft may lie there. -/
theorem bput_new {M : List (Str × Str)} (hfew : M.length < 1000) {n : Nat} {st : Bool} {op part : Int} {x l : Str} (hx : bNm x = true) (hl : l.length ≤ 1048576) (h : mHas M x = false) :
    bput (bS M n false st op part) x l = (0, bS (M ++ [(x, l)]) (n + 3) false st op part) ∨ ∃ f k, f.nm = fT x ∧ 1 ≤ k ∧ k ≤ 3 ∧ bput (bS M n false st op part) x l = (122, bD M f (n + k) true st op part) ∧ st = true ∧ op < ((n + k : Nat) : Int) := by
  have e1 : bput (bS M n false st op part) x l = wrB (bS M n false st op part) x (Wi.framed l) := by
    unfold bput
    rw [rfB_b rfl hx, if_neg (by simp), if_neg (by omega)]
    unfold hol
    rw [bget_out (M := M) rfl rfl hx h]
    rfl
  obtain ⟨fl, hfl⟩ : ∃ fl, fl = Wi.framed l := ⟨_, rfl⟩
  have e2 : wr1 (bS M n false st op part) x = (0, bS M n false st op part) := by
    have h1 : rfF (bS M n false st op part) (fT x) [] = 120 := by
      have : rfC (bS M n false st op part) ([] ++ [fT x]) = 0 := by unfold rfC bS; simp [(nmB_ok hx).2]
      unfold rfF
      rw [this, if_neg (by simp)]
      show (if hasF (M.map blF) (fT x) = true then 0 else 120) = 120
      rw [hasF_t]
      rfl
    have h2 : (bS M n false st op part).remove (fT x) = (120, bS M n false st op part) := by
      unfold St.remove St.begins
      rw [h1, if_pos (by simp), if_pos (by simp)]
    unfold wr1
    rw [h2]
    rfl
  have e3 : (bS M n false st op part).append (fT x) fl = St.count ⟨M.map blF ++ [⟨fT x, fl, 0⟩], n, false, st, op, part⟩ := by
    have h1 : rfC (bS M n false st op part) [fT x] = 0 := by unfold rfC bS; simp [(nmB_ok hx).2]
    unfold St.append
    rw [h1, if_neg (by simp), if_neg (by show ¬ (hasF (M.map blF) (fT x) = false ∧ 1000 ≤ (M.map blF).length); rw [List.length_map]; omega)]
    have h2 : addF (opnF (M.map blF) (fT x)) (fT x) fl = M.map blF ++ [⟨fT x, fl, 0⟩] := by
      unfold opnF
      rw [hasF_t]
      unfold addF
      rw [if_neg (by simp), List.map_append, map_miss (hasF_t M x)]
      simp
    show St.count ⟨addF (opnF (M.map blF) (fT x)) (fT x) fl, n, false, st, op, part⟩ = _
    rw [h2]
  rw [e1, ← hfl]
  unfold wrB
  rw [e2]
  simp only [thn, ne_eq, not_true_eq_false, if_false]
  rw [e3]
  rcases count_b M [⟨fT x, fl, 0⟩] n st op part with ⟨fs', hfs, hc, h3, h4⟩ | ⟨hc, _⟩
  · right
    subst hfs
    refine ⟨cutF part ⟨fT x, fl, 0⟩, 1, rfl, Nat.le_refl _, by omega, ?_, h3, by omega⟩
    rw [hc]
    rfl
  · rw [hc]
    simp only [not_true_eq_false, if_false]
    have e4 : (St.sync ⟨M.map blF ++ [⟨fT x, fl, 0⟩], n + 1, false, st, op, part⟩ (fT x)) = if (St.count ⟨M.map blF ++ [⟨fT x, fl, 0⟩], n + 1, false, st, op, part⟩).1 ≠ 0 then St.count ⟨M.map blF ++ [⟨fT x, fl, 0⟩], n + 1, false, st, op, part⟩ else (0, { (St.count ⟨M.map blF ++ [⟨fT x, fl, 0⟩], n + 1, false, st, op, part⟩).2 with fs := synF (St.count ⟨M.map blF ++ [⟨fT x, fl, 0⟩], n + 1, false, st, op, part⟩).2.fs (fT x) }) := by
      unfold St.sync St.begins
      rw [rfF_t hx rfl [] rfl]
      simp
    rw [e4]
    rcases count_b M [⟨fT x, fl, 0⟩] (n + 1) st op part with ⟨fs', hfs, hc, h3, h4⟩ | ⟨hc, _⟩
    · right
      subst hfs
      refine ⟨cutF part ⟨fT x, fl, 0⟩, 2, rfl, by omega, by omega, ?_, h3, by omega⟩
      rw [hc]
      rfl
    · rw [hc]
      have e5 : synF (M.map blF ++ [⟨fT x, fl, 0⟩]) (fT x) = M.map blF ++ [⟨fT x, fl, fl.length⟩] := by
        unfold synF
        rw [List.map_append, map_miss (hasF_t M x)]
        simp
      simp only [ne_eq, not_true_eq_false, if_false, e5]
      have e6 : (St.rename ⟨M.map blF ++ [⟨fT x, fl, fl.length⟩], n + 1 + 1, false, st, op, part⟩ (fT x) (fB x)) = if (St.count ⟨M.map blF ++ [⟨fT x, fl, fl.length⟩], n + 1 + 1, false, st, op, part⟩).1 ≠ 0 then St.count ⟨M.map blF ++ [⟨fT x, fl, fl.length⟩], n + 1 + 1, false, st, op, part⟩ else (0, { (St.count ⟨M.map blF ++ [⟨fT x, fl, fl.length⟩], n + 1 + 1, false, st, op, part⟩).2 with fs := movF (St.count ⟨M.map blF ++ [⟨fT x, fl, fl.length⟩], n + 1 + 1, false, st, op, part⟩).2.fs (fT x) (fB x) }) := by
        unfold St.rename St.begins
        rw [rfF_t hx rfl [fB x] (by simp [(nmB_ok hx).1])]
        simp
      rw [e6]
      rcases count_b M [⟨fT x, fl, fl.length⟩] (n + 1 + 1) st op part with ⟨fs', hfs, hc, h3, h4⟩ | ⟨hc, _⟩
      · right
        subst hfs
        refine ⟨cutF part ⟨fT x, fl, fl.length⟩, 3, rfl, by omega, by omega, ?_, h3, by omega⟩
        rw [hc]
        rfl
      · left
        rw [hc]
        have e7 : movF (M.map blF ++ [⟨fT x, fl, fl.length⟩]) (fT x) (fB x) = (M ++ [(x, l)]).map blF := by
          have d1 : delF (M.map blF ++ [⟨fT x, fl, fl.length⟩]) (fT x) = M.map blF := by
            have := del_miss (hasF_t M x)
            unfold delF at this ⊢
            rw [List.filter_append, this]
            simp
          have d2 : gotF (M.map blF ++ [⟨fT x, fl, fl.length⟩]) (fT x) = [⟨fT x, fl, fl.length⟩] := by
            have := got_miss (hasF_t M x)
            unfold gotF at this ⊢
            rw [List.filter_append, this]
            simp
          unfold movF
          rw [d1, d2, del_miss (by rw [hasF_b]; exact h), List.map_append, hfl]
          rfl
        simp only [ne_eq, not_true_eq_false, if_false, e7]
        rfl
theorem Bls.add {M : List (Str × Str)} (hM : Bls M) {x l : Str} (hx : bNm x = true) (hl : l.length ≤ 1048576) (h : mHas M x = false) : Bls (M ++ [(x, l)]) := by
  unfold mHas at h
  rw [List.any_eq_false] at h
  refine ⟨?_, fun e he => ?_, fun e he => ?_⟩
  · rw [List.pairwise_append]
    refine ⟨hM.nd, by simp, fun a ha b hb => ?_⟩
    simp only [List.mem_singleton] at hb
    subst hb
    simpa using h a ha
  · rcases List.mem_append.1 he with he | he
    · exact hM.nm e he
    · simp only [List.mem_singleton] at he; subst he; exact hx
  · rcases List.mem_append.1 he with he | he
    · exact hM.le e he
    · simp only [List.mem_singleton] at he; subst he; exact hl
/-- Without the one of a name. -/
def mDel (M : List (Str × Str)) (x : Str) : List (Str × Str) := M.filter fun e => !(e.1 == x)
theorem Bls.del {M : List (Str × Str)} (hM : Bls M) (x : Str) : Bls (mDel M x) :=
  ⟨hM.nd.filter _, fun e he => hM.nm e (List.mem_filter.1 he).1, fun e he => hM.le e (List.mem_filter.1 he).1⟩
theorem delF_b (M : List (Str × Str)) (x : Str) : delF (M.map blF) (fB x) = (mDel M x).map blF := by
  unfold delF mDel
  rw [List.filter_map]
  refine congrArg (List.map blF) (List.filter_congr fun e _ => ?_)
  show (!(fB e.1 == fB x)) = !(e.1 == x)
  by_cases h : e.1 = x
  · rw [h]; simp
  · rw [beq_eq_false_iff_ne.2 h, beq_eq_false_iff_ne.2 fun q => h (fB_inj q)]
theorem bdel_out {s : St} {M : List (Str × Str)} (hs : s.fs = M.map blF) (ho : s.off = false) {x : Str} (hx : bNm x = true) (h : mHas M x = false) : bdel s x = (120, s) := by
  have h1 : rfF s (fB x) [] = 120 := by
    have : rfC s ([] ++ [fB x]) = 0 := by unfold rfC; rw [ho]; simp [(nmB_ok hx).1]
    unfold rfF
    rw [this, if_neg (by simp), hs, hasF_b, h]
    rfl
  unfold bdel
  rw [rfB_b ho hx, if_neg (by simp)]
  unfold St.remove St.begins
  rw [h1, if_pos (by simp), if_pos (by simp)]
theorem bdel_in {M : List (Str × Str)} {n : Nat} {st : Bool} {op part : Int} {x : Str} (hx : bNm x = true) (h : mHas M x = true) :
    bdel (bS M n false st op part) x = (0, bS (mDel M x) (n + 1) false st op part) ∨ (bdel (bS M n false st op part) x = (122, bS M (n + 1) true st op part) ∧ st = true ∧ op < ((n + 1 : Nat) : Int)) := by
  have h1 : rfF (bS M n false st op part) (fB x) [] = 0 := by
    have : rfC (bS M n false st op part) ([] ++ [fB x]) = 0 := by unfold rfC bS; simp [(nmB_ok hx).1]
    unfold rfF
    rw [this, if_neg (by simp)]
    show (if hasF (M.map blF) (fB x) = true then 0 else 120) = 0
    rw [hasF_b, h]
    rfl
  have e1 : bdel (bS M n false st op part) x = if (St.count ⟨M.map blF ++ [], n, false, st, op, part⟩).1 ≠ 0 then St.count ⟨M.map blF ++ [], n, false, st, op, part⟩ else (0, { (St.count ⟨M.map blF ++ [], n, false, st, op, part⟩).2 with fs := delF (St.count ⟨M.map blF ++ [], n, false, st, op, part⟩).2.fs (fB x) }) := by
    unfold bdel
    rw [rfB_b rfl hx, if_neg (by simp)]
    unfold St.remove St.begins
    rw [h1, List.append_nil]
    simp only [ne_eq, not_true_eq_false, if_false]
    rfl
  rw [e1]
  rcases count_b M [] n st op part with ⟨fs', hfs, hc, h3, h4⟩ | ⟨hc, _⟩
  · right
    subst hfs
    rw [hc]
    refine ⟨?_, h3, by omega⟩
    simp [bS]
  · left
    rw [hc]
    simp only [ne_eq, not_true_eq_false, if_false, List.append_nil, delF_b]
    rfl
theorem pre_b (M : List (Str × Str)) : preN (M.map blF) [116, 46] = [] ∧ preN (M.map blF) [98, 46] = M.map fun e => fB e.1 := by
  constructor
  · unfold preN
    rw [List.filter_eq_nil_iff.2]
    · rfl
    · intro f hf
      obtain ⟨e, _, rfl⟩ := List.mem_map.1 hf
      simp [blF, fB, Lib.hasPrefix]
  · unfold preN
    rw [List.filter_eq_self.2, List.map_map]
    · rfl
    · intro f hf
      obtain ⟨e, _, rfl⟩ := List.mem_map.1 hf
      simp [blF, fB, Lib.hasPrefix]
theorem pre_d (M : List (Str × Str)) (f : Fl) (x : Str) (hf : f.nm = fT x) : preN (M.map blF ++ [f]) [116, 46] = [fT x] := by
  have := (pre_b M).1
  unfold preN at this ⊢
  rw [List.filter_append, List.map_append, this]
  simp [hf, fT, Lib.hasPrefix]
/-- An opening behind a cut that is over. -/
theorem bopen_s {M : List (Str × Str)} {n : Nat} {st : Bool} {op part : Int} : bopen (bS M n false st op part) = (0, bS M n false st op part) := by
  have : lstN (bS M n false st op part) [116, 46] = [] := by
    unfold lstN bS
    simp only [(pre_b M).1]
    simp [srt]
  unfold bopen
  rw [this]
  rfl
theorem bopen_d {M : List (Str × Str)} {f : Fl} {n : Nat} {st : Bool} {op part : Int} {x : Str} (hx : bNm x = true) (hf : f.nm = fT x) (hop : op < (n : Int)) : bopen (bD M f n false st op part) = (0, bS M (n + 1) false st op part) := by
  have h0 : lstN (bD M f n false st op part) [116, 46] = [fT x] := by
    unfold lstN bD
    simp only [pre_d M f x hf]
    simp [srt]
  have h1 : (bD M f n false st op part).remove (fT x) = (0, bS M (n + 1) false st op part) := by
    unfold St.remove St.begins bD
    rw [rfF_t hx hf [] rfl]
    simp only [ne_eq, not_true_eq_false, if_false]
    rcases count_b M [f] n st op part with ⟨fs', hfs, hc, h3, h4⟩ | ⟨hc, _⟩
    · omega
    · rw [hc]
      have d1 : delF (M.map blF ++ [f]) (fT x) = M.map blF := by
        have := del_miss (hasF_t M x)
        unfold delF at this ⊢
        rw [List.filter_append, this]
        simp [hf]
      simp only [not_true_eq_false, if_false, d1]
      rfl
  unfold bopen
  rw [h0]
  show rmA [fT x] _ = _
  unfold rmA
  rw [h1]
  simp only [ne_eq, not_true_eq_false, if_false]
  rfl
theorem lst_b {s : St} {M : List (Str × Str)} (hs : s.fs = M.map blF) (ho : s.off = false) : (lstN s [98, 46]).length = M.length ∧ lstN s [116, 46] = [] := by
  unfold lstN
  rw [ho, hs, (pre_b M).1, (pre_b M).2]
  constructor
  · simp [srt]
  · simp [srt]
end Go.Proofs.Ythegdhbmfojdaaa
