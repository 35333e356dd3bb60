/- Contracts of the disk's plain functions. -/
import Derived.Test.YtdcoeebpknipdaaDsk
import Derived.Lib.ConvBytes
namespace Go.Proofs.Ytdcoeebpknipdaa
open Go.RowKit Go.Maps

theorem look_ok {w : World} {mo : Option Nat} {Z : List Ent} (h : MapZ w mo Z) (t : Str) (ht : t.length ≤ maxLen) : ∃ v, (Instr.lookup 62 (.map mo) (.string ⟨t.toArray⟩) true).run Try.prog w = .ok (.tuple #[v, .bool (Z.any fun e => e.nm == t)]) w := by
  have hz : (zeroValue 70).run Try.prog w = .ok (.pointer none) w := Try.zeroValue70 w
  rcases h with ⟨rfl, rfl⟩ | ⟨m, D, rfl, ho, hd⟩
  · exact ⟨.pointer none, Maps.look_nil true law Try.underlying62 hz (key_mk t ht)⟩
  · obtain ⟨v, ps, hrun, -⟩ := ho.look_ok law Try.underlying62 hz (show pel (.pointer none) = some (.nil, []) from rfl) (key_mk t ht)
    exact ⟨v, by rw [hd.has] at hrun; exact hrun⟩
theorem look_at {w : World} {mo : Option Nat} {Z : List Ent} (h : MapZ w mo Z) {e : Ent} (he : e ∈ Z) (ht : e.nm.length ≤ maxLen) : (Instr.lookup 62 (.map mo) (.string ⟨e.nm.toArray⟩) false).run Try.prog w = .ok (.pointer (some ⟨e.g, 0, none⟩)) w := by
  have hz : (zeroValue 70).run Try.prog w = .ok (.pointer none) w := Try.zeroValue70 w
  rcases h with ⟨rfl, rfl⟩ | ⟨m, D, rfl, ho, hd⟩
  · cases he
  · obtain ⟨v, ps, hrun, hv⟩ := ho.lookup law Try.underlying62 hz (show pel (.pointer none) = some (.nil, []) from rfl) (key_mk e.nm ht)
    rw [hd.at' e he] at hv
    rw [pel_at hv] at hrun
    exact hrun
theorem len_map {w : World} {mo : Option Nat} {Z : List Ent} (h : MapZ w mo Z) (ty : TypeId) : (Builtin.len_ #[62] ty #[.map mo]).run Try.prog w = .ok (.int .i64 (Z.length : Int)) w := by
  rcases h with ⟨rfl, rfl⟩ | ⟨m, D, rfl, ho, hd⟩
  · exact Maps.len_nil Try.underlying62 ty
  · have := ho.len Try.underlying62 ty
    rw [hd.size] at this
    exact this
/-- The disk's box alone has changed. -/
theorem DkZ.box {w w' : World} {d N : Nat} {F : Nat → Prop} {s : St} {mo : Option Nat} {Z : List Ent} (h : DkZ w d F N s mo Z) (s' : St) (hb : BxA w' d 66 #[.map mo, .int .i64 (s'.ops : Int), .bool s'.off, .bool s'.set, .int .i64 s'.op, .int .i64 s'.part]) (ho : ∀ i, i ≠ d → w'.heap[i]? = w.heap[i]?) (hs : w.heap.size ≤ w'.heap.size) (hf : s'.fs = s.fs) (hops : s'.ops ≤ 1000000) : DkZ w' d F N s' mo Z := by
  have hd : w.heap[d]? = _ := h.b
  have hg : ∀ x ∈ Z, x.g ≠ d := fun x hx e => by
    have h1 : w.heap[x.g]? = _ := (h.e x hx).b
    rw [e, hd] at h1
    simp only [Option.some.injEq, Obj.cells.injEq] at h1
    exact absurd h1.2.1 (by decide)
  have hr : ∀ x ∈ Z, ∀ r, x.v.ownBlock = some r → r ≠ d := fun x hx r hr e => by
    rcases (h.e x hx).o.2 with ⟨h1, _⟩ | ⟨g, cap, cur, h1, _, h3, _⟩
    · rw [h1] at hr; cases hr
    · rw [h1] at hr
      simp only [Value.ownBlock, Option.some.injEq] at hr
      rw [← hr] at e
      rw [e, hd] at h3
      simp only [Option.some.injEq, Obj.cells.injEq] at h3
      exact absurd h3.2.1 (by decide)
  refine ⟨hb, h.f, h.m.frame fun m hm => ho m fun e => ?_, h.fm, fun x hx => ?_, h.ap, h.fs.trans hf.symm, h.n, h.nm, h.few, hops, fun i hi => Nat.lt_of_lt_of_le (h.lt i hi) hs⟩
  · rcases h.m with ⟨h1, _⟩ | ⟨m', D, h1, ⟨es, clock, h2, _⟩, _⟩
    · rw [h1] at hm; cases hm
    · rw [h1] at hm
      cases hm
      rw [e, hd] at h2
      cases h2
  · have k := h.e x hx
    exact ⟨by have := k.b; unfold BxA at this ⊢; rw [ho _ (hg x hx)]; exact this, k.f, owns_block k.o fun r h1 => ho r (hr x hx r h1), k.fv, k.le⟩
def st0 : St := ⟨[], 0, false, false, 0, 0⟩
theorem new_any (w : World) : Calls Try.prog 11 #[] w fun e w' => e = .returned (.pointer (some ⟨w.heap.size, 0, none⟩)) ∧ Dk w' w.heap.size (fun i => i = w.heap.size) 0 st0 ∧ Below w.heap.size w w' := by
  go_enter Try.func11, Try.ntmps11
  go_wp2_with fail
  go_ret
  refine ⟨rfl, ⟨none, [], BxA.new _ _ _, rfl, .inl ⟨rfl, rfl⟩, (fun _ h => by cases h), (fun _ h => by cases h), .nil, rfl, (fun _ h => by cases h), (fun _ h => by cases h), by simp, by decide, fun i hi => by rw [hi]; simp⟩, (Below.refl _ _).alloc (Nat.le_refl _) _⟩
theorem off_any (w : World) (d N : Nat) (F : Nat → Prop) (s : St) (h : Dk w d F N s) : Calls Try.prog 14 #[.pointer (some ⟨d, 0, none⟩)] w fun e w' => e = .returned (.bool s.off) ∧ w' = w := by
  obtain ⟨mo, Z, h⟩ := h
  have c2 := h.b.cell 2 _ rfl
  clear h
  go_enter Try.func14, Try.ntmps14
  go_wp2_with fail
  go_ret
  exact ⟨rfl, rfl⟩
theorem ops_any (w : World) (d N : Nat) (F : Nat → Prop) (s : St) (h : Dk w d F N s) : Calls Try.prog 22 #[.pointer (some ⟨d, 0, none⟩)] w fun e w' => e = .returned (.int .i64 (s.ops : Int)) ∧ w' = w := by
  obtain ⟨mo, Z, h⟩ := h
  have c1 := h.b.cell 1 _ rfl
  clear h
  go_enter Try.func22, Try.ntmps22
  go_wp2_with fail
  go_ret
  exact ⟨rfl, rfl⟩
theorem setd_fr {w : World} {d i N : Nat} {F : Nat → Prop} {s : St} {mo : Option Nat} {Z : List Ent} {u : Value} (h : DkZ w d F N s mo Z) : Fr F w (w.setCell ⟨d, i, none⟩ u) := Fr.of_grown grown_setCell fun j hj => .inl (by cases hj; exact h.f)
theorem on_any (w : World) (d N : Nat) (F : Nat → Prop) (s : St) (h : Dk w d F N s) : Calls Try.prog 18 #[.pointer (some ⟨d, 0, none⟩)] w fun e w' => e = .returned (.tuple #[]) ∧ Dk w' d F N { s with off := false } ∧ Fr F w w' := by
  obtain ⟨mo, Z, h⟩ := h
  have c2 := h.b.cell 2 _ rfl
  have f2 := h.b.free 2
  have H : Hid _ := h
  clear h
  go_enter Try.func18, Try.ntmps18
  go_wp2_with fail
  go_end0
  have h := H.out
  exact ⟨rfl, ⟨mo, Z, h.box _ (h.b.set 2 _) (fun i hi => Below.heap_setCell _ _ _ _ hi) (by simp) rfl h.ops⟩, setd_fr h⟩
end Go.Proofs.Ytdcoeebpknipdaa
