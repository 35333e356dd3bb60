/- Add and Remove: what they leave. No walk stands here. -/
import Derived.Test.YtgbmigfamefenaaMpU
namespace Go.Proofs.Ytgbmigfamefenaa
open Go.Shelf Go.RowKit Go.Maps Go.Sort
set_option linter.unusedVariables false

structure AdP (w : World) (t : Nat) (F : Nat → Prop) (r : Int × List Es) (ev : Ending) (w' : World) : Prop where
  ev : ev = .returned (.int .i64 r.1)
  ex : ∃ F', Tw w w' t F r.2 F'
theorem BxA.up {w w' : World} {g : Nat} {t : TypeId} {cs : Array Value} (h : BxA w g t cs) (hb : Below w.heap.size w w') : BxA w' g t cs := by
  have hl := h.lt
  unfold BxA at h ⊢
  rw [hb.block _ hl]
  exact h
theorem BxA.fr {w w' : World} {F : Nat → Prop} {g : Nat} {t : TypeId} {cs : Array Value} (h : BxA w g t cs) (hb : Fr F w w') (hn : ¬ F g) : BxA w' g t cs := by
  have hl := h.lt
  unfold BxA at h ⊢
  rw [hb.block _ hl hn]
  exact h
theorem own_below {w w' : World} {v : Value} {l : List Int} (h : OwI w v l) (hb : Below w.heap.size w w') : OwI w' v l := owns_block h fun r hr => hb.block r (own_lt h r hr).2
theorem bxa_away {w : World} {g m n : Nat} {ty : TypeId} {cs : Array Value} {v : Value} {l : List Int} {D : DataW Unit} (hb : BxA w g ty cs) (hne : (ty == 3) = false) (ho : OwI w v l) (hm : w.ownsMap Try.prog 55 sel m n D) : ¬ (v.ownBlock = some g ∨ g = m) := by
  rintro (q | q)
  · obtain ⟨cur, hc⟩ := own_ints ho q
    unfold BxA at hb
    rw [hb] at hc
    simp only [Option.some.injEq, Obj.cells.injEq] at hc
    rw [hc.2.1] at hne
    simp at hne
  · obtain ⟨es, clock, hc⟩ := map_block hm
    unfold BxA at hb
    rw [← q, hb] at hc
    cases hc
theorem map_away {w : World} {m n : Nat} {v : Value} {l : List Int} {D : DataW Unit} (ho : OwI w v l) (hm : w.ownsMap Try.prog 55 sel m n D) : some m ≠ v.ownBlock := fun q => by
  obtain ⟨cur, hc⟩ := own_ints ho q.symm
  obtain ⟨es, clock, h2⟩ := map_block hm
  rw [h2] at hc
  cases hc
theorem Tw.trans {w w1 w2 : World} {t : Nat} {F F1 F2 : Nat → Prop} {s s' : List Es} (h : Tw w w1 t F s F1) (k : Tw w1 w2 t F1 s' F2) : Tw w w2 t F s' F2 := by
  refine ⟨k.tl, fun i hi => k.up i (h.up i hi), fun i hi => ?_, h.fr.trans k.fr fun i hi hf => (h.dn i hf).resolve_right (by omega)⟩
  rcases k.dn i hi with q | q
  · exact h.dn i q
  · have := h.fr.size; exact .inr (by omega)
theorem Tw.grow {w w1 w2 : World} {t : Nat} {F F1 : Nat → Prop} {s : List Es} (h : Tw w w1 t F s F1) (hb : Below w1.heap.size w1 w2) : Tw w w2 t F s F1 := h.trans (Tw.same h.tl hb)
/-- What the map has of a key. -/
structure Fnd (Z : List En) (k : K3) (c : Int) (pv : Value) (ps : List Int) (ob : Bool) : Prop where
  cs : (ob = true ∧ (⟨k, c, pv, ps⟩ : En) ∈ Z) ∨ (ob = false ∧ (∀ e ∈ Z, e.k ≠ k) ∧ c = 0 ∧ pv = .slice none 0 0 ∧ ps = [])
theorem Fnd.ex (Z : List En) (k : K3) : ∃ c pv ps ob, Fnd Z k c pv ps ob := by
  by_cases h : ∃ e ∈ Z, e.k = k
  · obtain ⟨e, he, rfl⟩ := h
    exact ⟨e.core, e.v, e.ps, true, ⟨.inl ⟨rfl, he⟩⟩⟩
  · exact ⟨0, .slice none 0 0, [], false, ⟨.inr ⟨rfl, fun e he q => h ⟨e, he, q⟩, rfl, rfl, rfl⟩⟩⟩
theorem Fnd.look {w : World} {t : Nat} {F : Nat → Prop} {s : List Es} {mo : Option Nat} {Z : List En} {k : K3} {c : Int} {pv : Value} {ps : List Int} {ob : Bool} (f : Fnd Z k c pv ps ob) (h : TlZ w t F s mo Z) (hb : B3 k) (ok : Bool) :
    (Instr.lookup 61 (.map mo) (kv k) ok).run Try.prog w = .ok (if ok then .tuple #[.agg #[.int .i64 c, pv], .bool ob] else .agg #[.int .i64 c, pv]) w := by
  rcases f.cs with ⟨rfl, he⟩ | ⟨rfl, hn, rfl, rfl, rfl⟩
  · exact look_in h.m he hb (flat_own (h.e _ he).o) ok
  · exact look_out h.m hn hb ok
theorem Fnd.own {w : World} {t : Nat} {F : Nat → Prop} {s : List Es} {mo : Option Nat} {Z : List En} {k : K3} {c : Int} {pv : Value} {ps : List Int} {ob : Bool} (f : Fnd Z k c pv ps ob) (h : TlZ w t F s mo Z) : OwI w pv ps := by
  rcases f.cs with ⟨rfl, he⟩ | ⟨rfl, hn, rfl, rfl, rfl⟩
  · exact (h.e _ he).o
  · exact ⟨rfl, .inl ⟨rfl, rfl⟩⟩
theorem Fnd.say {w : World} {t : Nat} {F : Nat → Prop} {s : List Es} {mo : Option Nat} {Z : List En} {k : K3} {c : Int} {pv : Value} {ps : List Int} {ob : Bool} (f : Fnd Z k c pv ps ob) (h : TlZ w t F s mo Z) : (ob = true ∧ (k, c, ps) ∈ s ∧ s.find? (fun e => e.1 == k) = some (k, c, ps)) ∨ (ob = false ∧ ps = [] ∧ s.find? (fun e => e.1 == k) = none) := by
  rcases f.cs with ⟨rfl, he⟩ | ⟨rfl, hn, rfl, rfl, rfl⟩
  · exact .inl ⟨rfl, h.cores he, find_one h he⟩
  · exact .inr ⟨rfl, rfl, find_none h hn⟩
theorem Fnd.rise {w : World} {t : Nat} {F : Nat → Prop} {s : List Es} {mo : Option Nat} {Z : List En} {k : K3} {c : Int} {pv : Value} {ps : List Int} {ob : Bool} (f : Fnd Z k c pv ps ob) (h : TlZ w t F s mo Z) (hs : Wf s) : ps.Pairwise (· < ·) := by
  rcases f.say h with ⟨_, q, _⟩ | ⟨_, q, _⟩
  · exact hs.up _ q
  · rw [q]; exact .nil
theorem Fnd.few {w : World} {t : Nat} {F : Nat → Prop} {s : List Es} {mo : Option Nat} {Z : List En} {k : K3} {c : Int} {pv : Value} {ps : List Int} {ob : Bool} (f : Fnd Z k c pv ps ob) (h : TlZ w t F s mo Z) (hs : ∀ e ∈ s, e.2.2.length ≤ 100000) : ps.length ≤ 100000 := by
  rcases f.say h with ⟨_, q, _⟩ | ⟨_, q, _⟩
  · exact hs _ q
  · rw [q]; simp
/-- What Add says, of what the map has. -/
theorem addF_twice {s : List Es} {k : K3} {p gc c : Int} {ps : List Int} (hm : may (k, p, gc) = true) (hf : s.find? (fun e => e.1 == k) = some (k, c, ps)) (ht : ps.contains p = true) : addF s (k, p, gc) = (121, s) := by
  unfold addF
  rw [if_pos hm]
  simp only [hf]
  rw [if_pos ht]
theorem addF_form {s : List Es} {k : K3} {p gc c : Int} {ps : List Int} (hm : may (k, p, gc) = true) (hf : s.find? (fun e => e.1 == k) = some (k, c, ps)) (ht : ps.contains p = false) (hc : c ≠ gc) : addF s (k, p, gc) = (12, s) := by
  unfold addF
  rw [if_pos hm]
  simp only [hf]
  rw [if_neg (by rw [ht]; simp), if_neg hc]
theorem addF_put {s : List Es} {k : K3} {p gc c : Int} {ps : List Int} (hm : may (k, p, gc) = true) (hf : s.find? (fun e => e.1 == k) = some (k, c, ps)) (ht : ps.contains p = false) (hc : c = gc) : addF s (k, p, gc) = (0, updE s k (insP ps p)) := by
  unfold addF
  rw [if_pos hm]
  simp only [hf]
  rw [if_neg (by rw [ht]; simp), if_pos hc]
theorem addF_new {s : List Es} {k : K3} {p gc : Int} (hm : may (k, p, gc) = true) (hf : s.find? (fun e => e.1 == k) = none) : addF s (k, p, gc) = (0, s ++ [(k, gc, insP [] p)]) := by
  unfold addF
  rw [if_pos hm]
  simp only [hf]
  rfl
theorem addF_arg {s : List Es} {g : Sg} (hm : may g = false) : addF s g = (1, s) := by
  unfold addF
  rw [if_neg (by rw [hm]; simp)]
theorem tl_put {w w1 w' : World} {t m n : Nat} {F : Nat → Prop} {s : List Es} {Z : List En} (h : TlZ w t F s (some m) Z) {k : K3} {c gc : Int} {pv : Value} {ps : List Int} {ob : Bool} (f : Fnd Z k c pv ps ob) (hc : ob = true → c = gc) (hb3 : B3 k) {v' : Value} {ps' : List Int}
    (hg : w.grownBy w1 pv.ownBlock) (ho : OwI w1 v' ps') (hb : ∀ r, v'.ownBlock = some r → pv.ownBlock = some r ∨ w.heap.size ≤ r)
    {D : DataW Unit} (hown : w.ownsMap Try.prog 55 sel m Z.length D) (hmd : MD D Z)
    (hown' : w'.ownsMap Try.prog 55 sel m n (D.put (kl k) (sD gc v'))) (hg' : w1.grownBy w' (some m)) : Tw w w' t F (if ob then updE s k ps' else s ++ [(k, gc, ps')]) (fun i => F i ∨ v'.ownBlock = some i) := by
  rcases f.cs with ⟨rfl, he⟩ | ⟨rfl, hn, rfl, rfl, rfl⟩
  · rw [if_pos rfl]
    obtain rfl := hc rfl
    exact tl_set (e := ⟨k, c, pv, ps⟩) h he hg ho hb hown hmd hown' hg'
  · rw [if_neg (by simp)]
    exact tl_new h hn hb3 ⟨hg.os, hg.tape, hg.output, hg.size, fun i hi => hg.block i hi (by simp [Value.ownBlock])⟩ ho (fun r hr => (hb r hr).resolve_left (by simp [Value.ownBlock])) hown hmd hown' hg'
/-- A map is made for a timeline that has none. -/
theorem tl_made {w : World} {t : Nat} {F : Nat → Prop} {s : List Es} {Z : List En} (h : TlZ w t F s none Z) {W : World} {m : Nat} (hm : m = w.heap.size) (hW : W = (w.setCell ⟨t, 0, none⟩ (.map (some m))).alloc (.map #[] 0)) : Z = [] ∧ TlZ W t (fun i => F i ∨ i = m) s (some m) [] ∧ Tw w W t F s (fun i => F i ∨ i = m) := by
  have hZ : Z = [] := by
    rcases h.m with ⟨_, h1⟩ | ⟨_, _, h1, _⟩
    · exact h1
    · cases h1
  subst hZ
  have hlt := h.b.lt
  have hz : TlZ W t (fun i => F i ∨ i = m) s (some m) [] := by
    rw [hW]
    refine ⟨?_, .inl h.f, .inr ⟨m, .map [], rfl, ?_, ⟨(fun _ h => by cases h), (fun _ _ => rfl), rfl⟩⟩, (fun m' e => .inr (by simpa using e.symm)), (fun _ h => by cases h), .nil, h.fs, fun i hi => ?_⟩
    · have := h.b.set 0 (.map (some m))
      unfold BxA at this ⊢
      rw [Below.heap_alloc _ _ _ (by simp; exact hlt)]
      exact this
    · have := World.ownsMap_made (w.setCell ⟨t, 0, none⟩ (.map (some m))) Try.prog 55 sel
      rw [show (w.setCell ⟨t, 0, none⟩ (.map (some m))).heap.size = m by simp [hm]] at this
      exact this
    · rcases hi with hi | rfl
      · have := h.lt i hi; simp; omega
      · simp [hm]
  refine ⟨rfl, hz, ⟨⟨some m, [], hz⟩, fun i hi => .inl hi, fun i hi => hi.imp id fun q => by omega, ?_⟩⟩
  rw [hW]
  refine (Fr.of_grown (F := F) (grown_setCell (w := w) (R := t) (j := 0) (u := .map (some m))) fun j hj => .inl ?_).trans (Fr.of_below ((Below.refl _ _).alloc (Nat.le_refl _) _)) fun _ _ h => h
  rw [← Option.some.inj hj]
  exact h.f
end Go.Proofs.Ytgbmigfamefenaa
