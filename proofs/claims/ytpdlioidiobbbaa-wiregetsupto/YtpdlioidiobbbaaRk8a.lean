/- Steps of the reference's Get. -/
import Derived.Test.YtpdlioidiobbbaaRk8
namespace Go.Proofs.Ytpdlioidiobbbaa
open Go.RowKit Go.Sort

theorem ks1 {B K : Nat} {v : Value} {l : Bs} {mb : Nat} {V w w1 : World} (_ : K < V.heap.size) (hm2 : mb < V.heap.size) (hK : K < mb) (hs : KG0 B K v l mb V w) {KI : Int} (pr : In64 KI) (G : GK B K v l w w1 ((D0 l (0, 0)).1, (D0 l (0, 0)).2) (skU l) (ei KI)) : KG1 B K v l mb V (w1.setCells mb 0 [.int .i64 KI]) ∧ SK K mb w (w1.setCells mb 0 [.int .i64 KI]) 0 [.int .i64 KI] := by
  obtain ⟨nl11, nl39, A⟩ := hs
  obtain ⟨A2, st⟩ := AK.step (o := 0) (cs := [.int .i64 KI]) A (fwd_D0 l) (fwd_u l) G hm2 hK (by simp) rfl
  refine ⟨⟨KI, ⟨st.rg, pr⟩, st.ap _ _ nl11 (.inr (by simp)), st.ap _ _ nl39 (.inr (by simp)), ?_⟩, st⟩
  exact A2
theorem ks2 {B K : Nat} {v : Value} {l : Bs} {mb : Nat} {V w w1 : World} (_ : K < V.heap.size) (hm2 : mb < V.heap.size) (hK : K < mb) (hs : KG1 B K v l mb V w) {FR : Int} (pr : In64 FR) (G : GK B K v l w w1 ((D1 l (0, 0)).1, (D1 l (0, 0)).2) (skU l) (ei FR)) : KG2 B K v l mb V (w1.setCells mb 1 [.int .i64 FR]) ∧ SK K mb w (w1.setCells mb 1 [.int .i64 FR]) 1 [.int .i64 FR] := by
  obtain ⟨KI, ⟨rg1, pr1⟩, nl11, nl39, A⟩ := hs
  obtain ⟨A2, st⟩ := AK.step (o := 1) (cs := [.int .i64 FR]) A (fwd_D1 l) (fwd_u l) G hm2 hK (by simp) rfl
  refine ⟨⟨KI, FR, ⟨st.ap _ _ rg1 (.inl (by simp)), pr1⟩, ⟨st.rg, pr⟩, st.ap _ _ nl11 (.inr (by simp)), st.ap _ _ nl39 (.inr (by simp)), ?_⟩, st⟩
  exact A2
theorem ks3 {B K : Nat} {v : Value} {l : Bs} {mb : Nat} {V w w1 : World} (_ : K < V.heap.size) (hm2 : mb < V.heap.size) (hK : K < mb) (hs : KG2 B K v l mb V w) {TO : Int} (pr : In64 TO) (G : GK B K v l w w1 ((D2 l (0, 0)).1, (D2 l (0, 0)).2) (skU l) (ei TO)) : KG3 B K v l mb V (w1.setCells mb 2 [.int .i64 TO]) ∧ SK K mb w (w1.setCells mb 2 [.int .i64 TO]) 2 [.int .i64 TO] := by
  obtain ⟨KI, FR, ⟨rg1, pr1⟩, ⟨rg2, pr2⟩, nl11, nl39, A⟩ := hs
  obtain ⟨A2, st⟩ := AK.step (o := 2) (cs := [.int .i64 TO]) A (fwd_D2 l) (fwd_u l) G hm2 hK (by simp) rfl
  refine ⟨⟨KI, FR, TO, ⟨st.ap _ _ rg1 (.inl (by simp)), pr1⟩, ⟨st.ap _ _ rg2 (.inl (by simp)), pr2⟩, ⟨st.rg, pr⟩, st.ap _ _ nl11 (.inr (by simp)), st.ap _ _ nl39 (.inr (by simp)), ?_⟩, st⟩
  exact A2
theorem ks4 {B K : Nat} {v : Value} {l : Bs} {mb : Nat} {V w w1 : World} (_ : K < V.heap.size) (hm2 : mb < V.heap.size) (hK : K < mb) (hs : KG3 B K v l mb V w) {ID : Nat} (pr : InU ID) (G : GK B K v l w w1 ((D3 l (0, 0)).1, (D3 l (0, 0)).2) (skU l) (Num.uv ID)) : KG4 B K v l mb V (w1.setCells mb 3 [.int .u64 (ID : Int)]) ∧ SK K mb w (w1.setCells mb 3 [.int .u64 (ID : Int)]) 3 [.int .u64 (ID : Int)] := by
  obtain ⟨KI, FR, TO, ⟨rg1, pr1⟩, ⟨rg2, pr2⟩, ⟨rg3, pr3⟩, nl11, nl39, A⟩ := hs
  obtain ⟨A2, st⟩ := AK.step (o := 3) (cs := [.int .u64 (ID : Int)]) A (fwd_D3 l) (fwd_u l) G hm2 hK (by simp) rfl
  refine ⟨⟨KI, FR, TO, ID, ⟨st.ap _ _ rg1 (.inl (by simp)), pr1⟩, ⟨st.ap _ _ rg2 (.inl (by simp)), pr2⟩, ⟨st.ap _ _ rg3 (.inl (by simp)), pr3⟩, ⟨st.rg, pr⟩, st.ap _ _ nl11 (.inr (by simp)), st.ap _ _ nl39 (.inr (by simp)), ?_⟩, st⟩
  exact A2
theorem ks5 {B K : Nat} {v : Value} {l : Bs} {mb : Nat} {V w w1 : World} (_ : K < V.heap.size) (hm2 : mb < V.heap.size) (hK : K < mb) (hs : KG4 B K v l mb V w) {AS : Nat} (pr : InU AS) (G : GK B K v l w w1 ((D4 l (0, 0)).1, (D4 l (0, 0)).2) (skU l) (Num.uv AS)) : KG5 B K v l mb V (w1.setCells mb 4 [.int .u64 (AS : Int)]) ∧ SK K mb w (w1.setCells mb 4 [.int .u64 (AS : Int)]) 4 [.int .u64 (AS : Int)] := by
  obtain ⟨KI, FR, TO, ID, ⟨rg1, pr1⟩, ⟨rg2, pr2⟩, ⟨rg3, pr3⟩, ⟨rg4, pr4⟩, nl11, nl39, A⟩ := hs
  obtain ⟨A2, st⟩ := AK.step (o := 4) (cs := [.int .u64 (AS : Int)]) A (fwd_D4 l) (fwd_u l) G hm2 hK (by simp) rfl
  refine ⟨⟨KI, FR, TO, ID, AS, ⟨st.ap _ _ rg1 (.inl (by simp)), pr1⟩, ⟨st.ap _ _ rg2 (.inl (by simp)), pr2⟩, ⟨st.ap _ _ rg3 (.inl (by simp)), pr3⟩, ⟨st.ap _ _ rg4 (.inl (by simp)), pr4⟩, ⟨st.rg, pr⟩, st.ap _ _ nl11 (.inr (by simp)), st.ap _ _ nl39 (.inr (by simp)), ?_⟩, st⟩
  exact A2
theorem ks6 {B K : Nat} {v : Value} {l : Bs} {mb : Nat} {V w w1 : World} (_ : K < V.heap.size) (hm2 : mb < V.heap.size) (hK : K < mb) (hs : KG5 B K v l mb V w) {OF : Nat} (pr : InU OF) (G : GK B K v l w w1 ((D5 l (0, 0)).1, (D5 l (0, 0)).2) (skU l) (Num.uv OF)) : KG6 B K v l mb V (w1.setCells mb 5 [.int .u64 (OF : Int)]) ∧ SK K mb w (w1.setCells mb 5 [.int .u64 (OF : Int)]) 5 [.int .u64 (OF : Int)] := by
  obtain ⟨KI, FR, TO, ID, AS, ⟨rg1, pr1⟩, ⟨rg2, pr2⟩, ⟨rg3, pr3⟩, ⟨rg4, pr4⟩, ⟨rg5, pr5⟩, nl11, nl39, A⟩ := hs
  obtain ⟨A2, st⟩ := AK.step (o := 5) (cs := [.int .u64 (OF : Int)]) A (fwd_D5 l) (fwd_u l) G hm2 hK (by simp) rfl
  refine ⟨⟨KI, FR, TO, ID, AS, OF, ⟨st.ap _ _ rg1 (.inl (by simp)), pr1⟩, ⟨st.ap _ _ rg2 (.inl (by simp)), pr2⟩, ⟨st.ap _ _ rg3 (.inl (by simp)), pr3⟩, ⟨st.ap _ _ rg4 (.inl (by simp)), pr4⟩, ⟨st.ap _ _ rg5 (.inl (by simp)), pr5⟩, ⟨st.rg, pr⟩, st.ap _ _ nl11 (.inr (by simp)), st.ap _ _ nl39 (.inr (by simp)), ?_⟩, st⟩
  exact A2
theorem ks7 {B K : Nat} {v : Value} {l : Bs} {mb : Nat} {V w w1 : World} (_ : K < V.heap.size) (hm2 : mb < V.heap.size) (hK : K < mb) (hs : KG6 B K v l mb V w) {TE : Int} (pr : In64 TE) (G : GK B K v l w w1 ((D6 l (0, 0)).1, (D6 l (0, 0)).2) (skU l) (ei TE)) : KG7 B K v l mb V (w1.setCells mb 6 [.int .i64 TE]) ∧ SK K mb w (w1.setCells mb 6 [.int .i64 TE]) 6 [.int .i64 TE] := by
  obtain ⟨KI, FR, TO, ID, AS, OF, ⟨rg1, pr1⟩, ⟨rg2, pr2⟩, ⟨rg3, pr3⟩, ⟨rg4, pr4⟩, ⟨rg5, pr5⟩, ⟨rg6, pr6⟩, nl11, nl39, A⟩ := hs
  obtain ⟨A2, st⟩ := AK.step (o := 6) (cs := [.int .i64 TE]) A (fwd_D6 l) (fwd_u l) G hm2 hK (by simp) rfl
  refine ⟨⟨KI, FR, TO, ID, AS, OF, TE, ⟨st.ap _ _ rg1 (.inl (by simp)), pr1⟩, ⟨st.ap _ _ rg2 (.inl (by simp)), pr2⟩, ⟨st.ap _ _ rg3 (.inl (by simp)), pr3⟩, ⟨st.ap _ _ rg4 (.inl (by simp)), pr4⟩, ⟨st.ap _ _ rg5 (.inl (by simp)), pr5⟩, ⟨st.ap _ _ rg6 (.inl (by simp)), pr6⟩, ⟨st.rg, pr⟩, st.ap _ _ nl11 (.inr (by simp)), st.ap _ _ nl39 (.inr (by simp)), ?_⟩, st⟩
  exact A2
theorem ks8 {B K : Nat} {v : Value} {l : Bs} {mb : Nat} {V w w1 : World} (_ : K < V.heap.size) (hm2 : mb < V.heap.size) (hK : K < mb) (hs : KG7 B K v l mb V w) {CN : Nat} (pr : InU CN) (G : GK B K v l w w1 ((D7 l (0, 0)).1, (D7 l (0, 0)).2) (skU l) (Num.uv CN)) : KG8 B K v l mb V (w1.setCells mb 7 [.int .u64 (CN : Int)]) ∧ SK K mb w (w1.setCells mb 7 [.int .u64 (CN : Int)]) 7 [.int .u64 (CN : Int)] := by
  obtain ⟨KI, FR, TO, ID, AS, OF, TE, ⟨rg1, pr1⟩, ⟨rg2, pr2⟩, ⟨rg3, pr3⟩, ⟨rg4, pr4⟩, ⟨rg5, pr5⟩, ⟨rg6, pr6⟩, ⟨rg7, pr7⟩, nl11, nl39, A⟩ := hs
  obtain ⟨A2, st⟩ := AK.step (o := 7) (cs := [.int .u64 (CN : Int)]) A (fwd_D7 l) (fwd_u l) G hm2 hK (by simp) rfl
  refine ⟨⟨KI, FR, TO, ID, AS, OF, TE, CN, ⟨st.ap _ _ rg1 (.inl (by simp)), pr1⟩, ⟨st.ap _ _ rg2 (.inl (by simp)), pr2⟩, ⟨st.ap _ _ rg3 (.inl (by simp)), pr3⟩, ⟨st.ap _ _ rg4 (.inl (by simp)), pr4⟩, ⟨st.ap _ _ rg5 (.inl (by simp)), pr5⟩, ⟨st.ap _ _ rg6 (.inl (by simp)), pr6⟩, ⟨st.ap _ _ rg7 (.inl (by simp)), pr7⟩, ⟨st.rg, pr⟩, st.ap _ _ nl11 (.inr (by simp)), st.ap _ _ nl39 (.inr (by simp)), ?_⟩, st⟩
  exact A2
theorem ks9 {B K : Nat} {v : Value} {l : Bs} {mb : Nat} {V w w1 : World} (_ : K < V.heap.size) (hm2 : mb < V.heap.size) (hK : K < mb) (hs : KG8 B K v l mb V w) {CO : Int} (pr : In64 CO) (G : GK B K v l w w1 ((D8 l (0, 0)).1, (D8 l (0, 0)).2) (skU l) (ei CO)) : KG9 B K v l mb V (w1.setCells mb 8 [.int .i64 CO]) ∧ SK K mb w (w1.setCells mb 8 [.int .i64 CO]) 8 [.int .i64 CO] := by
  obtain ⟨KI, FR, TO, ID, AS, OF, TE, CN, ⟨rg1, pr1⟩, ⟨rg2, pr2⟩, ⟨rg3, pr3⟩, ⟨rg4, pr4⟩, ⟨rg5, pr5⟩, ⟨rg6, pr6⟩, ⟨rg7, pr7⟩, ⟨rg8, pr8⟩, nl11, nl39, A⟩ := hs
  obtain ⟨A2, st⟩ := AK.step (o := 8) (cs := [.int .i64 CO]) A (fwd_D8 l) (fwd_u l) G hm2 hK (by simp) rfl
  refine ⟨⟨KI, FR, TO, ID, AS, OF, TE, CN, CO, ⟨st.ap _ _ rg1 (.inl (by simp)), pr1⟩, ⟨st.ap _ _ rg2 (.inl (by simp)), pr2⟩, ⟨st.ap _ _ rg3 (.inl (by simp)), pr3⟩, ⟨st.ap _ _ rg4 (.inl (by simp)), pr4⟩, ⟨st.ap _ _ rg5 (.inl (by simp)), pr5⟩, ⟨st.ap _ _ rg6 (.inl (by simp)), pr6⟩, ⟨st.ap _ _ rg7 (.inl (by simp)), pr7⟩, ⟨st.ap _ _ rg8 (.inl (by simp)), pr8⟩, ⟨st.rg, pr⟩, st.ap _ _ nl11 (.inr (by simp)), st.ap _ _ nl39 (.inr (by simp)), ?_⟩, st⟩
  exact A2
theorem ks10 {B K : Nat} {v : Value} {l : Bs} {mb : Nat} {V w w1 : World} (_ : K < V.heap.size) (hm2 : mb < V.heap.size) (hK : K < mb) (hs : KG9 B K v l mb V w) {FT : Int} (pr : In64 FT) (G : GK B K v l w w1 ((D9 l (0, 0)).1, (D9 l (0, 0)).2) (skU l) (ei FT)) : KG10 B K v l mb V (w1.setCells mb 9 [.int .i64 FT]) ∧ SK K mb w (w1.setCells mb 9 [.int .i64 FT]) 9 [.int .i64 FT] := by
  obtain ⟨KI, FR, TO, ID, AS, OF, TE, CN, CO, ⟨rg1, pr1⟩, ⟨rg2, pr2⟩, ⟨rg3, pr3⟩, ⟨rg4, pr4⟩, ⟨rg5, pr5⟩, ⟨rg6, pr6⟩, ⟨rg7, pr7⟩, ⟨rg8, pr8⟩, ⟨rg9, pr9⟩, nl11, nl39, A⟩ := hs
  obtain ⟨A2, st⟩ := AK.step (o := 9) (cs := [.int .i64 FT]) A (fwd_D9 l) (fwd_u l) G hm2 hK (by simp) rfl
  refine ⟨⟨KI, FR, TO, ID, AS, OF, TE, CN, CO, FT, ⟨st.ap _ _ rg1 (.inl (by simp)), pr1⟩, ⟨st.ap _ _ rg2 (.inl (by simp)), pr2⟩, ⟨st.ap _ _ rg3 (.inl (by simp)), pr3⟩, ⟨st.ap _ _ rg4 (.inl (by simp)), pr4⟩, ⟨st.ap _ _ rg5 (.inl (by simp)), pr5⟩, ⟨st.ap _ _ rg6 (.inl (by simp)), pr6⟩, ⟨st.ap _ _ rg7 (.inl (by simp)), pr7⟩, ⟨st.ap _ _ rg8 (.inl (by simp)), pr8⟩, ⟨st.ap _ _ rg9 (.inl (by simp)), pr9⟩, ⟨st.rg, pr⟩, st.ap _ _ nl11 (.inr (by simp)), st.ap _ _ nl39 (.inr (by simp)), ?_⟩, st⟩
  exact A2
theorem ks11 {B K : Nat} {v : Value} {l : Bs} {mb : Nat} {V w w1 : World} (_ : K < V.heap.size) (hm2 : mb < V.heap.size) (hK : K < mb) (hs : KG10 B K v l mb V w) {fa : Option Addr} {fn fc : Nat} {ts : List Fi.Str} (pr : ∀ t ∈ ts, t.length ≤ 1048576) (wn : Win w.heap.size w1 (fun w => Lst 1 cl_str w (.slice fa fn fc) ts)) (G : GK B K v l w w1 ((D10 l (0, 0)).1, (D10 l (0, 0)).2) (skTxt l) (r_txt ts)) : KG11 B K v l mb V (w1.setCells mb 10 [.slice fa fn fc]) ∧ SK K mb w (w1.setCells mb 10 [.slice fa fn fc]) 10 [.slice fa fn fc] := by
  obtain ⟨KI, FR, TO, ID, AS, OF, TE, CN, CO, FT, ⟨rg1, pr1⟩, ⟨rg2, pr2⟩, ⟨rg3, pr3⟩, ⟨rg4, pr4⟩, ⟨rg5, pr5⟩, ⟨rg6, pr6⟩, ⟨rg7, pr7⟩, ⟨rg8, pr8⟩, ⟨rg9, pr9⟩, ⟨rg10, pr10⟩, nl11, nl39, A⟩ := hs
  obtain ⟨A2, st⟩ := AK.step (o := 10) (cs := [.slice fa fn fc]) A (fwd_D10 l) (fwd_txt l) G hm2 hK (by simp) rfl
  refine ⟨⟨KI, FR, TO, ID, AS, OF, TE, CN, CO, FT, fa, fn, fc, ts, ⟨st.ap _ _ rg1 (.inl (by simp)), pr1⟩, ⟨st.ap _ _ rg2 (.inl (by simp)), pr2⟩, ⟨st.ap _ _ rg3 (.inl (by simp)), pr3⟩, ⟨st.ap _ _ rg4 (.inl (by simp)), pr4⟩, ⟨st.ap _ _ rg5 (.inl (by simp)), pr5⟩, ⟨st.ap _ _ rg6 (.inl (by simp)), pr6⟩, ⟨st.ap _ _ rg7 (.inl (by simp)), pr7⟩, ⟨st.ap _ _ rg8 (.inl (by simp)), pr8⟩, ⟨st.ap _ _ rg9 (.inl (by simp)), pr9⟩, ⟨st.ap _ _ rg10 (.inl (by simp)), pr10⟩, ⟨st.rg, pr, wn.cells' A.size hm2⟩, st.ap _ _ nl11 (.inr (by simp)), st.ap _ _ nl39 (.inr (by simp)), ?_⟩, st⟩
  exact A2
theorem ks12 {B K : Nat} {v : Value} {l : Bs} {mb : Nat} {V w w1 : World} (hR2 : K < V.heap.size) (hm2 : mb < V.heap.size) (hs : KG11 B K v l mb V w) {ga : Option Addr} {gn gc : Nat} {ms : List Int} (pr : ∀ x ∈ ms, In64 x) (wn : Win w.heap.size w1 (fun w => Lst 1 cl_i64 w (.slice ga gn gc) ms)) (L : LL K mb w w1 11 (.slice ga gn gc)) (hp : RP B K v l w1 (D12 l (0, 0)).1 (D12 l (0, 0)).2) (hb : (D11 l (0, 0)).2 = 0 → (D12 l (0, 0)).2 = 0 → (Num.uv ms.length ++ ms.flatMap ei) = rd l (D11 l (0, 0)).1 (D12 l (0, 0)).1) : KG12 B K v l mb V w1 := by
  obtain ⟨KI, FR, TO, ID, AS, OF, TE, CN, CO, FT, fa, fn, fc, ts, ⟨rg1, pr1⟩, ⟨rg2, pr2⟩, ⟨rg3, pr3⟩, ⟨rg4, pr4⟩, ⟨rg5, pr5⟩, ⟨rg6, pr6⟩, ⟨rg7, pr7⟩, ⟨rg8, pr8⟩, ⟨rg9, pr9⟩, ⟨rg10, pr10⟩, ⟨rg11, pr11, wn11⟩, nl11, nl39, A⟩ := hs
  have st := L.sk
  have A2 := AK.stepL A (fwd_D11 l) (fwd_l (fwd_u l)) L hp hb
  refine ⟨KI, FR, TO, ID, AS, OF, TE, CN, CO, FT, fa, fn, fc, ts, ga, gn, gc, ms, ⟨st.ap _ _ rg1 (.inl (by simp)), pr1⟩, ⟨st.ap _ _ rg2 (.inl (by simp)), pr2⟩, ⟨st.ap _ _ rg3 (.inl (by simp)), pr3⟩, ⟨st.ap _ _ rg4 (.inl (by simp)), pr4⟩, ⟨st.ap _ _ rg5 (.inl (by simp)), pr5⟩, ⟨st.ap _ _ rg6 (.inl (by simp)), pr6⟩, ⟨st.ap _ _ rg7 (.inl (by simp)), pr7⟩, ⟨st.ap _ _ rg8 (.inl (by simp)), pr8⟩, ⟨st.ap _ _ rg9 (.inl (by simp)), pr9⟩, ⟨st.ap _ _ rg10 (.inl (by simp)), pr10⟩, ⟨st.ap _ _ rg11 (.inl (by simp)), pr11, wn11.sk st hR2 hm2⟩, ⟨st.rg, pr, wn.e A.size⟩, st.ap _ _ nl39 (.inr (by simp)), ?_⟩
  exact A2
end Go.Proofs.Ytpdlioidiobbbaa
