/- m[k] = f(m[k]): the entry is taken, then stored. No walk stands here. -/
import Derived.Test.YtmnlkmgpikilbaaSpn
namespace Go.Proofs.Ytmnlkmgpikilbaa
open Go.RowKit Go.Maps Go.ChangeMaps Go.MapKept
set_option linter.unusedVariables false

theorem born_at {es : Array MapEntry} {j : Nat} {e : MapEntry} (hnd : (es.toList.map (·.born)).Nodup) (hj : es[j]? = some e) : es.findIdx? (fun x => (x.born : Int) == (e.born : Int)) = some j := by
  rw [Array.findIdx?_eq_some_iff_getElem]
  obtain ⟨hlt, rfl⟩ := Array.getElem?_eq_some_iff.1 hj
  refine ⟨hlt, by simp, fun i hi => ?_⟩
  have hil : i < es.size := Nat.lt_trans hi hlt
  simp only [beq_iff_eq, Int.natCast_inj]
  intro e1
  have h1 := List.pairwise_iff_getElem.1 hnd i j (by simpa using hil) (by simpa using hlt) hi
  simp at h1
  exact h1 (by simpa using e1)
theorem entry_law {H : Type} {P : Program} {k : TypeId} {R : Value → Option (DataW H × List MemPlace)} {b n : Nat} {D : DataW H} {w : World} {t e : TypeId} (h : w.ownsMap P k R b n D) (K : Keyed P k) (ht : P.underlying t = some (.map k e)) (hn : n < maxLen) {key : Value} {kl : Lit} (hkey : keyOf P k key = some kl) {z : Value} (hz : ∀ w' : World, (zeroValue e).run P w' = .ok z w') {dz : DataW H} {pz : List MemPlace} (hR : R z = some (dz, pz)) :
    ∃ (born : Nat) (v : Value) (ps : List MemPlace) (es1 : Array MapEntry) (clock1 : Nat), w.heap[b]? ≠ none ∧
      (Instr.mapEntry t (.map (some b)) key).run P w = .ok (.tuple #[v, .int .i64 (born : Int)]) (setBlock w b (.map es1 clock1)) ∧ R v = some (D.atKey kl dz, ps) ∧
      ∀ (w5 : World) (val : Value) (d : DataW H) (pv : List MemPlace), w5.heap[b]? = some (.map es1 clock1) → R val = some (d, pv) →
        ∃ w6, (Instr.entryStore t (.map (some b)) (.int .i64 (born : Int)) val).run P w5 = .ok () w6 ∧ w6.ownsMap P k R b (n + 1) (D.put kl d) ∧ w5.mapTurned w6 b := by
  have h0 := h
  obtain ⟨v, ps, hrun, hv⟩ := h.lookup K ht (hz w) hR hkey
  obtain ⟨es, clock, hb, F, hs, rfl⟩ := h
  have hst := F.stamped
  have hsz : es.size < maxLen := Nat.lt_of_le_of_lt hs hn
  have hw5 : ∀ (w5 : World) (es1 : Array MapEntry) (clock1 : Nat), w5.heap[b]? = some (.map es1 clock1) → (setBlock w5 b (.map es clock)).heap[b]? = some (.map es clock) ∧ ∀ o, setBlock (setBlock w5 b (.map es clock)) b o = setBlock w5 b o := fun w5 es1 clock1 h5 => ⟨heap_setBlock_same h5 _, fun o => by unfold setBlock; simp⟩
  rcases K.find w hkey es.toList F.keys with ⟨h1, h2⟩ | ⟨j, e0, h1, h2, h3⟩
  · have hv' : v = z := by
      simp [Instr.lookup, run_underlying ht, Go.MapKept.run_getObj_map hb, K.check w _ hkey, h1, hz w, Result.andThen] at hrun
      exact hrun.symm
    subst hv'
    refine ⟨clock, v, ps, es.push { key := key, val := v, born := clock }, clock + 1, by rw [hb]; simp, ?_, hv, ?_⟩
    · simp [Instr.mapEntry, run_underlying ht, Go.MapKept.run_getObj_map hb, K.check w _ hkey, h1, hz w, Go.MapKept.run_setObj_map _ hb, Result.andThen, setBlock, goInt]
    · intro w5 val d pv h5 hval
      obtain ⟨g1, g2⟩ := hw5 w5 _ _ h5
      have hf1 : (Instr.findKey k key es.toList).run P (setBlock w5 b (.map es clock)) = .ok none (setBlock w5 b (.map es clock)) := by
        rcases K.find (setBlock w5 b (.map es clock)) hkey es.toList F.keys with ⟨f1, _⟩ | ⟨j', e', _, f2, f3⟩
        · exact f1
        · exact absurd f3 (h2 e' (List.mem_of_getElem? f2))
      have hupd : (Instr.mapUpdate t (.map (some b)) key val).run P (setBlock w5 b (.map es clock)) = .ok () (setBlock w5 b (.map (es.push { key := key, val := val, born := clock }) (clock + 1))) := by
        simp [Instr.mapUpdate, run_underlying ht, Go.MapKept.run_getObj_map g1, K.check _ _ hkey, hf1, Go.MapKept.run_setObj_map _ g1, Result.andThen]
        exact g2 _
      have hnd : ((es.push { key := key, val := v, born := clock }).toList.map (·.born)).Nodup := by
        rw [Array.toList_push, List.map_append]
        refine List.nodup_append.2 ⟨hst.2.1, by simp, fun a ha b' hb' e => ?_⟩
        simp at hb'
        obtain ⟨x, hx, rfl⟩ := List.mem_map.1 ha
        have := hst.1 x hx
        omega
      have hfi := born_at (j := es.size) (e := { key := key, val := v, born := clock }) hnd (by simp)
      have hst5 : (Instr.entryStore t (.map (some b)) (.int .i64 (clock : Int)) val).run P w5 = .ok () (setBlock w5 b (.map (es.push { key := key, val := val, born := clock }) (clock + 1))) := by
        have hm : (es.push { key := key, val := v, born := clock }).modify es.size (fun e => { e with val := val }) = es.push { key := key, val := val, born := clock } := by
          apply Array.ext_getElem?
          intro q
          rw [Array.getElem?_modify]
          by_cases hq : es.size = q
          · subst hq; simp
          · rw [if_neg hq]
            rcases Nat.lt_or_gt_of_ne hq with h' | h'
            · rw [Array.getElem?_eq_none (by simp; omega), Array.getElem?_eq_none (by simp; omega)]
            · rw [Array.getElem?_push_lt h', Array.getElem?_push_lt h']
        simp [Instr.entryStore, Go.MapKept.run_getObj_map h5, asInt, asIntOf, Result.andThen, hfi, Go.MapKept.run_setObj_map _ h5, hm, setBlock]
      refine ⟨_, hst5, ?_, ⟨_, _, _, _, h5, rfl⟩⟩
      obtain ⟨w', q1, q2, _⟩ := (World.ownsMap.store (w := setBlock w5 b (.map es clock)) ⟨es, clock, g1, F, hs, rfl⟩ K ht hn hkey hval)
      rw [hupd] at q1
      injection q1 with _ q1
      rw [q1]
      exact q2
  · have hj : es[j]? = some e0 := by simpa using h2
    have hv' : v = e0.val := by
      simp [Instr.lookup, run_underlying ht, Go.MapKept.run_getObj_map hb, K.check w _ hkey, h1, Result.andThen] at hrun
      exact hrun.symm
    subst hv'
    refine ⟨e0.born, e0.val, ps, es.modify j (fun e => { e with key := key }), clock, by rw [hb]; simp, ?_, hv, ?_⟩
    · simp [Instr.mapEntry, run_underlying ht, Go.MapKept.run_getObj_map hb, K.check w _ hkey, h1, hj, h3, K.stays w hkey, Go.MapKept.run_setObj_map _ hb, Result.andThen, setBlock, goInt]
    · intro w5 val d pv h5 hval
      obtain ⟨g1, g2⟩ := hw5 w5 _ _ h5
      have hf1 : (Instr.findKey k key es.toList).run P (setBlock w5 b (.map es clock)) = .ok (some (j, e0.val)) (setBlock w5 b (.map es clock)) := by
        rcases K.find (setBlock w5 b (.map es clock)) hkey es.toList F.keys with ⟨f1, f2⟩ | ⟨j', e', f1, f2, f3⟩
        · exact absurd h3 (f2 e0 (List.mem_of_getElem? h2))
        · have hk := List.pairwise_iff_getElem.1 hst.2.2
          have hj' : es[j']? = some e' := by simpa using f2
          obtain ⟨l1, rfl⟩ := Array.getElem?_eq_some_iff.1 hj
          obtain ⟨l2, rfl⟩ := Array.getElem?_eq_some_iff.1 hj'
          rcases Nat.lt_trichotomy j j' with q | q | q
          · have := hk j j' (by simpa using l1) (by simpa using l2) q
            simp at this
            exact absurd (h3.trans f3.symm) this
          · subst q; exact f1
          · have := hk j' j (by simpa using l2) (by simpa using l1) q
            simp at this
            exact absurd (f3.trans h3.symm) this
      have hupd : (Instr.mapUpdate t (.map (some b)) key val).run P (setBlock w5 b (.map es clock)) = .ok () (setBlock w5 b (.map (es.modify j (fun e => { e with key := key, val := val })) clock)) := by
        simp [Instr.mapUpdate, run_underlying ht, Go.MapKept.run_getObj_map g1, K.check _ _ hkey, hf1, hj, h3, K.stays _ hkey, Go.MapKept.run_setObj_map _ g1, Result.andThen]
        exact g2 _
      have hnd : ((es.modify j (fun e => { e with key := key })).toList.map (·.born)).Nodup := by
        have e1 : (es.modify j (fun e => { e with key := key })).toList.map (·.born) = es.toList.map (·.born) := by
          apply List.ext_getElem?
          intro q
          simp only [List.getElem?_map, Array.getElem?_toList, Array.getElem?_modify]
          by_cases hq : j = q
          · subst hq; simp [hj]
          · rw [if_neg hq]
        rw [e1]
        exact hst.2.1
      have hfi := born_at (j := j) (e := { e0 with key := key }) hnd (by rw [Array.getElem?_modify, if_pos rfl, hj]; rfl)
      have hst5 : (Instr.entryStore t (.map (some b)) (.int .i64 (e0.born : Int)) val).run P w5 = .ok () (setBlock w5 b (.map (es.modify j (fun e => { e with key := key, val := val })) clock)) := by
        have hm : (es.modify j (fun e => { e with key := key })).modify j (fun e => { e with val := val }) = es.modify j (fun e => { e with key := key, val := val }) := by
          apply Array.ext_getElem?
          intro q
          simp only [Array.getElem?_modify]
          by_cases hq : j = q
          · subst hq; simp [hj]
          · simp [hq]
        have hfi' : (es.modify j (fun e => { e with key := key })).findIdx? (fun x => (x.born : Int) == (e0.born : Int)) = some j := hfi
        simp [Instr.entryStore, Go.MapKept.run_getObj_map h5, asInt, asIntOf, Result.andThen, hfi', Go.MapKept.run_setObj_map _ h5, hm, setBlock]
      refine ⟨_, hst5, ?_, ⟨_, _, _, _, h5, rfl⟩⟩
      obtain ⟨w', q1, q2, _⟩ := (World.ownsMap.store (w := setBlock w5 b (.map es clock)) ⟨es, clock, g1, F, hs, rfl⟩ K ht hn hkey hval)
      rw [hupd] at q1
      injection q1 with _ q1
      rw [q1]
      exact q2
end Go.Proofs.Ytmnlkmgpikilbaa
