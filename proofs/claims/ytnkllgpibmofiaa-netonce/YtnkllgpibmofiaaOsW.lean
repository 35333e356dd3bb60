/- NetOnce's state in memory: what each call and each store makes of it. No walk stands here. -/
import Derived.Test.YtnkllgpibmofiaaOsM
namespace Go.Proofs.Ytnkllgpibmofiaa
open Go.RowKit Go.Maps Go.Sort
set_option linter.unusedVariables false

structure OSM (w0 w : World) (n ms mc : Nat) (F : Nat → Prop) (S : Nat) (v : Value) (Z : List Gm) (ks kc : Nat) (Ds Dc : DataW Unit) : Prop where
  nt : NtZ w n F S v Z
  os : OwM w ms ks Ds
  oc : OwM w mc kc Dc
  ns : ¬ F ms
  nc : ¬ F mc
  sc : ms ≠ mc
  nf : ∀ j, F j → w0.heap.size ≤ j
  ls : w0.heap.size ≤ ms ∧ w0.heap.size ≤ mc
  bl : Below w0.heap.size w0 w
theorem OSZ.m {w0 w : World} {n ms mc i : Nat} {F : Nat → Prop} {S : Nat} {v : Value} {Z : List Gm} {sf cf : Nat → Int} {ks kc : Nat} {Ds Dc : DataW Unit} (h : OSZ w0 w n ms mc i F S v Z sf cf ks kc Ds Dc) : OSM w0 w n ms mc F S v Z ks kc Ds Dc :=
  ⟨h.nt, h.os, h.oc, h.ns, h.nc, h.sc, h.nf, h.ls, h.bl⟩
theorem OSM.below {w0 w w' : World} {n ms mc : Nat} {F : Nat → Prop} {S : Nat} {v : Value} {Z : List Gm} {ks kc : Nat} {Ds Dc : DataW Unit} (h : OSM w0 w n ms mc F S v Z ks kc Ds Dc) (hb : Below w.heap.size w w') : OSM w0 w' n ms mc F S v Z ks kc Ds Dc :=
  ⟨h.nt.below hb, map_frame h.os (hb.block _ h.os.lt), map_frame h.oc (hb.block _ h.oc.lt), h.ns, h.nc, h.sc, h.nf, h.ls, h.bl.trans (hb.mono h.bl.size)⟩
theorem OSM.net {w0 w w' : World} {n ms mc : Nat} {F F' : Nat → Prop} {S S' : Nat} {v v' : Value} {Z Z' : List Gm} {ks kc : Nat} {Ds Dc : DataW Unit} (h : OSM w0 w n ms mc F S v Z ks kc Ds Dc) (hn : NtZ w' n F' S' v' Z') (hf : Fr F w w') (hF : ∀ j, F' j → F j ∨ w.heap.size ≤ j) : OSM w0 w' n ms mc F' S' v' Z' ks kc Ds Dc := by
  have l1 := h.os.lt
  have l2 := h.oc.lt
  have q := h.bl.size
  refine ⟨hn, map_frame h.os (hf.block _ l1 h.ns), map_frame h.oc (hf.block _ l2 h.nc), fun hj => ?_, fun hj => ?_, h.sc, fun j hj => ?_, h.ls, ?_⟩
  · rcases hF _ hj with a | a
    · exact h.ns a
    · omega
  · rcases hF _ hj with a | a
    · exact h.nc a
    · omega
  · rcases hF _ hj with a | a
    · exact h.nf j a
    · omega
  · have f1 : Fr (fun j => w0.heap.size ≤ j) w0 w' := (Fr.of_below h.bl).trans hf fun j _ hj => h.nf j hj
    exact f1.below (Nat.le_refl _) fun j hj => hj
theorem OSM.turn {w0 w w' : World} {n ms mc m : Nat} {F : Nat → Prop} {S : Nat} {v : Value} {Z : List Gm} {ks kc : Nat} {Ds Dc : DataW Unit} (h : OSM w0 w n ms mc F S v Z ks kc Ds Dc) (hm : m = ms ∨ m = mc) (ht : w.mapTurned w' m) :
    NtZ w' n F S v Z ∧ Below w0.heap.size w0 w' ∧ (m ≠ ms → OwM w' ms ks Ds) ∧ (m ≠ mc → OwM w' mc kc Dc) := by
  have hg := ht.grown
  have hne : ∀ j, F j → some j ≠ some m := fun j hj e => by
    injection e with e
    subst e
    rcases hm with rfl | rfl
    · exact h.ns hj
    · exact h.nc hj
  refine ⟨h.nt.frame hg.size fun j hj => hg.block j (h.nt.lt j hj) (hne j hj), ?_, fun hn => map_frame h.os (hg.block _ h.os.lt (fun e => hn (by injection e with e; exact e.symm))), fun hn => map_frame h.oc (hg.block _ h.oc.lt (fun e => hn (by injection e with e; exact e.symm)))⟩
  have f1 : Fr (fun j => w0.heap.size ≤ j) w0 w' := (Fr.of_below h.bl).trans (Fr.of_grown (F := fun j => j = m) hg fun j hj => .inl (by injection hj with hj; exact hj.symm)) fun j _ hj => by
    rw [hj]
    rcases hm with rfl | rfl
    · exact h.ls.1
    · exact h.ls.2
  exact f1.below (Nat.le_refl _) fun j hj => hj
theorem OSM.storeS {w0 w w' : World} {n ms mc : Nat} {F : Nat → Prop} {S : Nat} {v : Value} {Z : List Gm} {ks kc : Nat} {Ds Dc : DataW Unit} (h : OSM w0 w n ms mc F S v Z ks kc Ds Dc) {k' : Nat} {D' : DataW Unit} (ho : OwM w' ms k' D') (ht : w.mapTurned w' ms) : OSM w0 w' n ms mc F S v Z k' kc D' Dc := by
  obtain ⟨h1, h2, -, h4⟩ := h.turn (.inl rfl) ht
  exact ⟨h1, ho, h4 h.sc, h.ns, h.nc, h.sc, h.nf, h.ls, h2⟩
theorem OSM.storeC {w0 w w' : World} {n ms mc : Nat} {F : Nat → Prop} {S : Nat} {v : Value} {Z : List Gm} {ks kc : Nat} {Ds Dc : DataW Unit} (h : OSM w0 w n ms mc F S v Z ks kc Ds Dc) {k' : Nat} {D' : DataW Unit} (ho : OwM w' mc k' D') (ht : w.mapTurned w' mc) : OSM w0 w' n ms mc F S v Z ks k' Ds D' := by
  obtain ⟨h1, h2, h3, -⟩ := h.turn (.inr rfl) ht
  exact ⟨h1, h3 (Ne.symm h.sc), ho, h.ns, h.nc, h.sc, h.nf, h.ls, h2⟩
/-- A box of new memory isn't the net's: a call of the net leaves it. -/
theorem BxA.call {w w' : World} {g : Nat} {t : TypeId} {cs : Array Value} {F : Nat → Prop} {b : Nat} (h : BxA w g t cs) (hf : Fr F w w') (hb : ∀ j, F j → j < b) (hg : b ≤ g) : BxA w' g t cs := h.frm hf fun q => by have := hb _ q; omega
theorem OSZ.up0 {w0 w : World} {n ms mc i : Nat} {F : Nat → Prop} {S : Nat} {v : Value} {Z : List Gm} {sf cf : Nat → Int} {ks kc : Nat} {Ds Dc : DataW Unit} (h : OSZ w0 w n ms mc i F S v Z sf cf ks kc Ds Dc) : OSZ w0 w n ms mc (i + 1) F S v Z sf cf ks kc Ds Dc :=
  ⟨h.nt, h.gd, h.os, h.fs, h.mt, h.oc, h.fc, h.iv.up, by have := h.kb; omega, h.ns, h.nc, h.sc, h.nf, h.ls, h.bl⟩
theorem OSM.z {w0 w : World} {n ms mc i : Nat} {F : Nat → Prop} {S : Nat} {v : Value} {Z : List Gm} {sf cf : Nat → Int} {ks kc : Nat} {Ds Dc : DataW Unit} (h : OSM w0 w n ms mc F S v Z ks kc Ds Dc) (gd : ∀ x ∈ Z, Gd x) (fs : MFn Ds sf) (mt : MTo Ds S) (fc : MFn Dc cf) (iv : OInv S i (Z.map idm) sf cf) (kb : ks ≤ i ∧ kc ≤ i) : OSZ w0 w n ms mc i F S v Z sf cf ks kc Ds Dc :=
  ⟨h.nt, gd, h.os, fs, mt, h.oc, fc, iv, kb, h.ns, h.nc, h.sc, h.nf, h.ls, h.bl⟩
theorem tidyM {w : World} {m k : Nat} {D : DataW Unit} (h : OwM w m k D) : Tidy D := h.tidy lawU
theorem gd_send (g : Nat) (M : Array Value) (s : Nat) (a : Int) (hM : 4 < M.size) (ha : M[4]? = some (.int .u64 a)) : Gd (g, M.setIfInBounds 3 (.int .u64 (s : Int))) ∧ idm (g, M.setIfInBounds 3 (.int .u64 (s : Int))) = s :=
  gd_of (a := a) (by show (M.setIfInBounds 3 _)[3]? = _; rw [Array.getElem?_setIfInBounds]; simp; omega) (by show (M.setIfInBounds 3 _)[4]? = _; rw [Array.getElem?_setIfInBounds, if_neg (by omega)]; exact ha)
theorem fr_mono {F G : Nat → Prop} {w w' : World} (h : Fr F w w') (hF : ∀ i, F i → G i) : Fr G w w' := ⟨h.os, h.tape, h.output, h.size, fun i hi hg => h.block i hi fun hf => hg (hF i hf)⟩
/-- One more is sent. -/
theorem OSZ.sent {w0 w w1 w2 : World} {n ms mc i : Nat} {F F' : Nat → Prop} {S : Nat} {v v' : Value} {Z : List Gm} {x : Gm} {sf cf : Nat → Int} {ks kc : Nat} {Ds Dc : DataW Unit} (h : OSZ w0 w n ms mc i F S v Z sf cf ks kc Ds Dc) (hn : NtZ w1 n F' (S + 1) v' (Z ++ [x])) (hf : Fr F w w1) (hF : ∀ j, F' j → F j ∨ w.heap.size ≤ j) (hg : Gd x) (hi : idm x = S + 1)
    (ho : OwM w2 ms (ks + 1) (Ds.put (.int .u64 ((S + 1 : Nat) : Int)) (.lit (.int .i64 1)))) (ht : w1.mapTurned w2 ms) : OS w0 w2 n ms mc (i + 1) := by
  refine ⟨_, _, _, _, _, _, _, _, _, _, ((h.m.net hn hf hF).storeS ho ht).z (fun y hy => ?_) (h.fs.put (tidyM h.os) (S + 1) 1) (h.mt.next (tidyM h.os) _) h.fc ?_ (by have := h.kb; omega)⟩
  · rcases List.mem_append.1 hy with hy | hy
    · exact h.gd y hy
    · simp at hy; rw [hy]; exact hg
  · have := h.iv.send
    rw [List.map_append, List.map_cons, List.map_nil, hi]
    exact this
theorem OSZ.sentT {w0 w w1 w2 : World} {n ms mc i : Nat} {F F' : Nat → Prop} {S T : Nat} {v v' : Value} {Z : List Gm} {x : Gm} {sf cf : Nat → Int} {ks kc : Nat} {Ds Dc : DataW Unit} (h : OSZ w0 w n ms mc i F S v Z sf cf ks kc Ds Dc) (hT : T = S + 1) (hn : NtZ w1 n F' T v' (Z ++ [x])) (hf : Fr F w w1) (hF : ∀ j, F' j → F j ∨ w.heap.size ≤ j) (hg : Gd x ∧ idm x = T)
    (ho : OwM w2 ms (ks + 1) (Ds.put (.int .u64 (T : Int)) (.lit (.int .i64 1)))) (ht : w1.mapTurned w2 ms) : OS w0 w2 n ms mc (i + 1) := by
  subst hT
  exact h.sent hn hf hF hg.1 hg.2 ho ht
theorem idm_get (Z : List Gm) (k : Nat) (hk : k < Z.length) : (Z.map idm)[k]'(by simpa using hk) = idm Z[k] := by simp
theorem map_erase (Z : List Gm) (k : Nat) : (Z.eraseIdx k).map idm = (Z.map idm).eraseIdx k := by
  rw [List.eraseIdx_eq_take_drop_succ, List.eraseIdx_eq_take_drop_succ, List.map_append, List.map_take, List.map_drop]
theorem OSZ.lost {w0 w w1 w2 : World} {n ms mc i k : Nat} {F F' : Nat → Prop} {S : Nat} {v v' : Value} {Z : List Gm} {sf cf : Nat → Int} {ks kc : Nat} {Ds Dc : DataW Unit} (h : OSZ w0 w n ms mc i F S v Z sf cf ks kc Ds Dc) (hk : k < Z.length) (hn : NtZ w1 n F' S v' (Z.eraseIdx k)) (hf : Fr F w w1) (hF : ∀ j, F' j → F j ∨ w.heap.size ≤ j) (x : Nat) (hx : idm Z[k] = x)
    (ho : OwM w2 ms (ks + 1) (Ds.put (.int .u64 (x : Int)) (.lit (.int .i64 (sf x - 1))))) (ht : w1.mapTurned w2 ms) : OS w0 w2 n ms mc (i + 1) := by
  have hr := h.iv.r x (by rw [← hx]; exact List.mem_map_of_mem (List.getElem_mem hk))
  refine ⟨_, _, _, _, _, _, _, _, _, _, ((h.m.net hn hf hF).storeS ho ht).z (fun y hy => h.gd y (List.mem_of_mem_eraseIdx hy)) (h.fs.put (tidyM h.os) x _) (h.mt.same (tidyM h.os) x hr _) h.fc ?_ (by have := h.kb; omega)⟩
  have := h.iv.lose k (by simpa using hk)
  rw [idm_get Z k hk, hx] at this
  rw [map_erase]
  exact this
theorem OSZ.twice {w0 w w1 w2 : World} {n ms mc i k : Nat} {F F' : Nat → Prop} {S : Nat} {v v' : Value} {Z : List Gm} {sf cf : Nat → Int} {ks kc : Nat} {Ds Dc : DataW Unit} (h : OSZ w0 w n ms mc i F S v Z sf cf ks kc Ds Dc) (hk : k < Z.length) (hn : NtZ w1 n F' S v' (Z ++ [Z[k]])) (hf : Fr F w w1) (hF : ∀ j, F' j → F j ∨ w.heap.size ≤ j) (x : Nat) (hx : idm Z[k] = x)
    (ho : OwM w2 ms (ks + 1) (Ds.put (.int .u64 (x : Int)) (.lit (.int .i64 (sf x + 1))))) (ht : w1.mapTurned w2 ms) : OS w0 w2 n ms mc (i + 1) := by
  have hr := h.iv.r x (by rw [← hx]; exact List.mem_map_of_mem (List.getElem_mem hk))
  refine ⟨_, _, _, _, _, _, _, _, _, _, ((h.m.net hn hf hF).storeS ho ht).z (fun y hy => ?_) (h.fs.put (tidyM h.os) x _) (h.mt.same (tidyM h.os) x hr _) h.fc ?_ (by have := h.kb; omega)⟩
  · rcases List.mem_append.1 hy with hy | hy
    · exact h.gd y hy
    · simp at hy; rw [hy]; exact h.gd _ (List.getElem_mem hk)
  · have := h.iv.twice k (by simpa using hk)
    rw [idm_get Z k hk, hx] at this
    rw [List.map_append, List.map_cons, List.map_nil, hx]
    exact this
theorem OSZ.came {w0 w w1 w2 w3 : World} {n ms mc i k : Nat} {F F' : Nat → Prop} {S : Nat} {v v' : Value} {Z : List Gm} {sf cf : Nat → Int} {ks kc : Nat} {Ds Dc : DataW Unit} (h : OSZ w0 w n ms mc i F S v Z sf cf ks kc Ds Dc) (hk : k < Z.length) (hn : NtZ w1 n F' S v' (Z.eraseIdx k)) (hf : Fr F w w1) (hF : ∀ j, F' j → F j ∨ w.heap.size ≤ j) (hb : Below w1.heap.size w1 w2) (x : Nat) (hx : idm Z[k] = x)
    (ho : OwM w3 mc (kc + 1) (Dc.put (.int .u64 (x : Int)) (.lit (.int .i64 (cf x + 1))))) (ht : w2.mapTurned w3 mc) : ∃ sf' cf' Ds' Dc' ks' kc', OSZ w0 w3 n ms mc (i + 1) F' S v' (Z.eraseIdx k) sf' cf' ks' kc' Ds' Dc' := by
  refine ⟨_, _, _, _, _, _, (((h.m.net hn hf hF).below hb).storeC ho ht).z (fun y hy => h.gd y (List.mem_of_mem_eraseIdx hy)) h.fs h.mt (h.fc.put (tidyM h.oc) x _) ?_ (by have := h.kb; omega)⟩
  have := h.iv.deliver k (by simpa using hk)
  rw [idm_get Z k hk, hx] at this
  rw [map_erase]
  exact this
theorem OS.come {w0 w w1 w2 w3 : World} {n ms mc i k : Nat} {F F' : Nat → Prop} {S : Nat} {v v' : Value} {Z : List Gm} {sf cf : Nat → Int} {ks kc : Nat} {Ds Dc : DataW Unit} (h : OSZ w0 w n ms mc i F S v Z sf cf ks kc Ds Dc) (hk : k < Z.length) (hn : NtZ w1 n F' S v' (Z.eraseIdx k)) (hf : Fr F w w1) (hF : ∀ j, F' j → F j ∨ w.heap.size ≤ j) (hb : Below w1.heap.size w1 w2) (x : Nat) (hx : idm Z[k] = x)
    (ho : OwM w3 mc (kc + 1) (Dc.put (.int .u64 (x : Int)) (.lit (.int .i64 (cf x + 1))))) (ht : w2.mapTurned w3 mc) : OS w0 w3 n ms mc (i + 1) := by
  obtain ⟨sf', cf', Ds', Dc', ks', kc', h⟩ := h.came hk hn hf hF hb x hx ho ht
  exact ⟨_, _, _, _, _, _, _, _, _, _, h⟩
end Go.Proofs.Ytnkllgpibmofiaa
