/- The gap in which a wall time lies: the program's search. -/
import Derived.Test.YtjfonbnmdcpepaaStr3
import Derived.WalkMore
namespace Go.Proofs.Ytjfonbnmdcpepaa
open Go.RowKit Go.Shelf
attribute [local go_sem] Oper.semAt_some

/-- does a clock leap over a wall time where a stretch begins? -/
def gapB (n : Int) (s : StrK) : Bool := decide (s.1.first + s.1.ahead ≤ n) && decide (n < s.1.first + s.1.own)
theorem gapB_t {n : Int} {s : StrK} (h1 : s.1.first + s.1.ahead ≤ n) (h2 : n < s.1.first + s.1.own) : gapB n s = true := by simp [gapB, h1, h2]
theorem gapB_f1 {n : Int} {s : StrK} (h1 : ¬ s.1.first + s.1.ahead ≤ n) : gapB n s = false := by simp [gapB, h1]
theorem gapB_f2 {n : Int} {s : StrK} (h2 : ¬ n < s.1.first + s.1.own) : gapB n s = false := by simp [gapB, h2]
def gapD (l : List TurnD) (n : Int) : Option StrK := (uptoS l l.length).find? (gapB n)
def gapS : Option StrK → StrD
  | some s => s.1
  | none => ⟨0, 0, 0, 0⟩
theorem uptoS_more (l : List TurnD) (k : Nat) : ∀ d, ∃ bs, uptoS l (k + d) = uptoS l k ++ bs := by
  intro d
  induction d with
  | zero => exact ⟨[], by simp⟩
  | succ d ih =>
    obtain ⟨bs, h⟩ := ih
    exact ⟨bs ++ [strK l (k + d)], by rw [← Nat.add_assoc, uptoS_succ, h, List.append_assoc]⟩
theorem mem_uptoS {l : List TurnD} {k : Nat} {s : StrK} (h : s ∈ uptoS l k) : ∃ j, j < k ∧ s = strK l j := by
  unfold uptoS at h
  rw [List.mem_map] at h
  obtain ⟨j, hj, rfl⟩ := h
  exact ⟨j, List.mem_range.mp hj, rfl⟩
theorem gapD_some {l : List TurnD} {n : Int} {k : Nat} (hk : k < l.length) (h0 : ∀ t ∈ uptoS l k, gapB n t = false) (h1 : gapB n (strK l k) = true) : gapD l n = some (strK l k) := by
  unfold gapD
  rw [List.find?_eq_some_iff_append]
  obtain ⟨bs, hb⟩ := uptoS_more l (k + 1) (l.length - (k + 1))
  rw [show k + 1 + (l.length - (k + 1)) = l.length by omega, uptoS_succ, List.append_assoc] at hb
  exact ⟨h1, uptoS l k, bs, hb, fun a ha => by rw [h0 a ha]; rfl⟩
theorem gapD_none {l : List TurnD} {n : Int} (h0 : ∀ t ∈ uptoS l l.length, gapB n t = false) : gapD l n = none := by
  unfold gapD
  rw [List.find?_eq_none]
  intro x hx
  rw [h0 x hx]
  simp
theorem strAt_first {l : List TurnD} {k : Nat} {x : TurnD} (h : l[k]? = some x) : (strAt l k).first = x.at_ := by unfold strAt; rw [h]; rfl
theorem gapD_cut {l : List TurnD} (hT : TabR l) {n : Int} {k : Nat} (hk : k < l.length) (h0 : ∀ t ∈ uptoS l k, gapB n t = false) (h1 : n < (strK l k).1.first - 100000) : gapD l n = none := by
  refine gapD_none fun t ht => ?_
  obtain ⟨j, hj, rfl⟩ := mem_uptoS ht
  by_cases hjk : j < k
  · exact h0 _ (by unfold uptoS; rw [List.mem_map]; exact ⟨j, List.mem_range.mpr hjk, rfl⟩)
  · have ok := (strK l j).2
    unfold StrD.ok at ok
    simp only [Bool.and_eq_true] at ok
    have ha := isB_of_t ok.2.2.1
    refine gapB_f1 ?_
    obtain ⟨x, hx⟩ : ∃ x, l[k]? = some x := ⟨_, List.getElem?_eq_getElem hk⟩
    obtain ⟨y, hy⟩ : ∃ x, l[j]? = some x := ⟨_, List.getElem?_eq_getElem hj⟩
    have hu := upT_le2 hT.up (show k ≤ j by omega) hx hy
    rw [strK_val hT hk, strAt_first hx] at h1
    rw [strK_val hT hj] at ha ⊢
    rw [strAt_first hy]
    omega
/-- a stretch lies in a block. -/
structure StrIn (W : World) (B : Nat) (s : StrD) : Prop where
  c0 : W.cell? ⟨B, 0, none⟩ = some (.int .i64 s.first)
  c1 : W.cell? ⟨B, 1, none⟩ = some (.int .i64 s.last)
  c2 : W.cell? ⟨B, 2, none⟩ = some (.int .i64 s.ahead)
  c3 : W.cell? ⟨B, 3, none⟩ = some (.int .i64 s.own)
theorem StrIn.kept {W W' : World} {B : Nat} {s : StrD} {row : Option Nat} (h : StrIn W B s) (hg : W.grownBy W' row) (hr : ∀ r, row = some r → ∃ o : Obj, W.heap[r]? = some o ∧ o.isCells = false) : StrIn W' B s :=
  ⟨cell_kept h.c0 hg hr, cell_kept h.c1 hg hr, cell_kept h.c2 hg hr, cell_kept h.c3 hg hr⟩
theorem strIn_of {W : World} {B : Nat} {x0 x1 x2 x3 : Int} (h : W.heap[B]? = some (.cells #[.int .i64 x0, .int .i64 x1, .int .i64 x2, .int .i64 x3] 114 (0, 0))) : StrIn W B ⟨x0, x1, x2, x3⟩ ∧ ∀ i, W.frozen? ⟨B, i, none⟩ = false :=
  ⟨⟨by simp [World.cell?, h], by simp [World.cell?, h], by simp [World.cell?, h], by simp [World.cell?, h]⟩, fun i => by simp [World.frozen?, h]⟩
theorem heap_kept {W W' : World} {row : Option Nat} {B : Nat} {cs : Array Value} {t : TypeId} (h : W.heap[B]? = some (.cells cs t (0, 0))) (hg : W.grownBy W' row) (hr : ∀ r, row = some r → ∃ o : Obj, W.heap[r]? = some o ∧ o.isCells = false) : W'.heap[B]? = some (.cells cs t (0, 0)) := by
  refine (hg.block B (Array.getElem?_eq_some_iff.1 h).1 (fun e => ?_)).trans h
  obtain ⟨o, ho, hc⟩ := hr B e.symm
  rw [h] at ho
  cases ho
  cases hc
theorem set_str {W : World} {B : Nat} {x y : StrD} (h : StrIn W B x) : StrIn ((((W.setCell ⟨B, 0, none⟩ (.int .i64 y.first)).setCell ⟨B, 1, none⟩ (.int .i64 y.last)).setCell ⟨B, 2, none⟩ (.int .i64 y.ahead)).setCell ⟨B, 3, none⟩ (.int .i64 y.own)) B y := by
  obtain ⟨s0, s1, s2, s3⟩ := set_four (v0 := .int .i64 y.first) (v1 := .int .i64 y.last) (v2 := .int .i64 y.ahead) (v3 := .int .i64 y.own) h.c0 h.c1 h.c2 h.c3
  exact ⟨s0, s1, s2, s3⟩
theorem keeps_four (W : World) (B : Nat) (v0 v1 v2 v3 : Value) : KeepsOthers W ((((W.setCell ⟨B, 0, none⟩ v0).setCell ⟨B, 1, none⟩ v1).setCell ⟨B, 2, none⟩ v2).setCell ⟨B, 3, none⟩ v3) :=
  (((KeepsOthers.setCell W _ v0).trans (KeepsOthers.setCell _ _ v1)).trans (KeepsOthers.setCell _ _ v2)).trans (KeepsOthers.setCell _ _ v3)
theorem below_four {n₀ : Nat} {A W : World} (h : Below n₀ A W) (B : Nat) (hB : n₀ ≤ B) (v0 v1 v2 v3 : Value) : Below n₀ A ((((W.setCell ⟨B, 0, none⟩ v0).setCell ⟨B, 1, none⟩ v1).setCell ⟨B, 2, none⟩ v2).setCell ⟨B, 3, none⟩ v3) :=
  (((h.setCell (p := ⟨B, 0, none⟩) hB v0).setCell (p := ⟨B, 1, none⟩) hB v1).setCell (p := ⟨B, 2, none⟩) hB v2).setCell (p := ⟨B, 3, none⟩) hB v3
/-- the end of the search: what was found is handed back. -/
def gapTail (w wA : World) (s : StrD) (t : Bool) (W : World) : Prop := StrIn W (w.heap.size + 1 + 1 + 1) s ∧ W.cell? ⟨w.heap.size + 1 + 1 + 1 + 1, 0, none⟩ = some (.bool t) ∧ Below (w.heap.size + 1 + 1 + 1) wA W
theorem gapTail_own (w wA : World) (s : StrD) (t : Bool) (hs : wA.heap.size = w.heap.size + 1 + 1 + 1) (B : Nat) (hB : w.heap.size + 1 + 1 + 1 ≤ B) {β : Type} : OwnFrom B (fun (_ : β) W => gapTail w wA s t W) := fun x X Y row hx hg hr =>
  ⟨hx.1.kept hg (fun r e => (hr r e).2), cell_kept hx.2.1 hg (fun r e => (hr r e).2), ownFrom_below (β := β) (by omega) hB x X Y row hx.2.2 hg hr⟩
def noGap (m : Int) (pre : List StrK) : Prop := ∀ t ∈ pre, gapB m t = false
theorem noGap_snoc {m : Int} {pre : List StrK} {s : StrK} (h : noGap m pre) (hs : gapB m s = false) : noGap m (pre ++ [s]) := fun t ht => (List.mem_append.1 ht).elim (h t) (fun e => by rw [List.mem_singleton] at e; subst e; exact hs)
/-- how the search is left. -/
def gapOut (m : Int) (w wA : World) (pre : List StrK) (W : World) : Prop := ∃ ini s, pre = ini ++ [s] ∧ noGap m ini ∧ ((m < s.1.first - 100000 ∧ gapTail w wA ⟨0, 0, 0, 0⟩ false W) ∨ (gapB m s = true ∧ gapTail w wA s.1 true W))
theorem gapOut_1 {m : Int} {w wA W : World} {pre : List StrK} {s : StrK} (h : noGap m pre) (h1 : m < s.1.first - 100000) (h2 : gapTail w wA ⟨0, 0, 0, 0⟩ false W) : gapOut m w wA (pre ++ [s]) W := ⟨pre, s, rfl, h, .inl ⟨h1, h2⟩⟩
theorem gapOut_2 {m : Int} {w wA W : World} {pre : List StrK} {s : StrK} (h : noGap m pre) (h1 : gapB m s = true) (h2 : gapTail w wA s.1 true W) : gapOut m w wA (pre ++ [s]) W := ⟨pre, s, rfl, h, .inr ⟨h1, h2⟩⟩
set_option maxRecDepth 100000 in
set_option maxHeartbeats 4000000 in
theorem impl_gapOf (l : List TurnD) (v : Value) (m : Int) (hT : TabR l) (m1 : -62135596800 ≤ m) (m2 : m ≤ 253402300799) (w : World) (hv : TabAt w v l) :
    Calls Try.prog 79 #[v, .int .i64 m] w fun e W' => e = .returned (.tuple #[(gapS (gapD l m)).v, .bool (gapD l m).isSome]) ∧ Below w.heap.size w W' := by
  refine (callsIn_wide (n := 3)).1 ?_
  have h1 : 1 ≤ 3 := by omega
  have hlen := hT.len
  obtain ⟨a, cap, rfl, hA⟩ := hv
  obtain ⟨f, hf⟩ : ∃ x, l[0]? = some x := ⟨_, List.getElem?_eq_getElem (by omega)⟩
  obtain ⟨b, o, rfl, hd⟩ := hA.at (i := 0) (r := f.cs) (by rw [List.getElem?_map, hf]; rfl)
  have hbl : b < w.heap.size := World.block_lt_of_cell? _ _ (hd 0 _ rfl)
  clear hd hf
  have HS := fun k (hk : k < l.length) (h0 : ∀ t ∈ uptoS l k, gapB m t = false) (h1 : gapB m (strK l k) = true) => gapD_some hk h0 h1
  have HN := fun (h0 : ∀ t ∈ uptoS l l.length, gapB m t = false) => gapD_none h0
  have HC := fun k (hk : k < l.length) (h0 : ∀ t ∈ uptoS l k, gapB m t = false) (h1 : m < (strK l k).1.first - 100000) => gapD_cut hT hk h0 h1
  generalize gapD l m = G at *
  refine callsIn_of_wp_marks Try.func79 rfl trivial ?_ rfl
  simp only [Try.ntmps79, List.size_toArray, List.length_cons, List.length_nil, Nat.reduceAdd, Nat.reduceSub, Array.replicate_succ, Array.replicate_zero, List.push_toArray, List.append_toArray, List.nil_append, List.cons_append]
  gi_wp2
  refine wpIn_wide.2 (wp_scope_straight ((wpIn_wide (n := 3)).1 ?_))
  gi_wp2
  apply wpIn_label
  gi_wp2_with (refine ⟨trivial, ?_⟩; gi_at_call 78; refine (stretches_in Fence.wide 2 trivial rfl _ _ _ _).mono ?_; rintro e w' ⟨rfl, rfl⟩)
  obtain ⟨wA, hwA⟩ : ∃ wA, (((w.alloc (.cells #[.slice (some ⟨b, o, none⟩) l.length cap] 25)).alloc (.cells #[.int .i64 m] 2)).alloc (.cells #[.int .i64 0, .int .i64 0, .int .i64 0, .int .i64 0] 114)) = wA := ⟨_, rfl⟩
  have hsA : wA.heap.size = w.heap.size + 1 + 1 + 1 := by rw [← hwA]; simp
  have hBA : Below w.heap.size w wA := by rw [← hwA]; exact (((Below.refl _ w).alloc (Nat.le_refl _) _).alloc (by simp) _).alloc (by simp; omega) _
  have cM : wA.cell? ⟨w.heap.size + 1, 0, none⟩ = some (.int .i64 m) := by rw [← hwA]; simp [go_sem]
  have hR : wA.heap[w.heap.size + 1 + 1]? = some (.cells #[.int .i64 0, .int .i64 0, .int .i64 0, .int .i64 0] 114 (0, 0)) := by
    rw [← hwA]
    have := World.alloc_heap_new ((w.alloc (.cells #[.slice (some ⟨b, o, none⟩) l.length cap] 25)).alloc (.cells #[.int .i64 m] 2)) (.cells #[.int .i64 0, .int .i64 0, .int .i64 0, .int .i64 0] 114)
    rw [World.size_alloc, World.size_alloc] at this
    exact this
  rw [hwA]
  obtain ⟨wF, hwF⟩ : ∃ wF, wA.alloc (.cells #[.int .i64 0, .int .i64 0, .int .i64 0, .int .i64 0] 114) = wF := ⟨_, rfl⟩
  have hF : wF.heap[w.heap.size + 1 + 1 + 1]? = some (.cells #[.int .i64 0, .int .i64 0, .int .i64 0, .int .i64 0] 114 (0, 0)) := by
    rw [← hwF]
    have := World.alloc_heap_new wA (.cells #[.int .i64 0, .int .i64 0, .int .i64 0, .int .i64 0] 114)
    rw [hsA] at this
    exact this
  have hsF : wF.heap.size = w.heap.size + 1 + 1 + 1 + 1 := by rw [← hwF]; simp; omega
  have hBF : Below (w.heap.size + 1 + 1 + 1) wA wF := by rw [← hwF]; exact (Below.refl _ wA).alloc (by omega) _
  rw [hwF]
  have bH := Boxed.new wF 4 (.bool false)
  have bN := Boxed.new (wF.alloc (.cells #[.bool false] 4)) 25 (.slice (some ⟨b, o, none⟩) l.length cap)
  rw [World.size_alloc, hsF] at bN
  rw [hsF] at bH
  have hB0 : Below (w.heap.size + 1 + 1 + 1) wA ((wF.alloc (.cells #[.bool false] 4)).alloc (.cells #[.slice (some ⟨b, o, none⟩) l.length cap] 25)) := (hBF.alloc (by omega) _).alloc (by simp; omega) _
  have hF0 : ((wF.alloc (.cells #[.bool false] 4)).alloc (.cells #[.slice (some ⟨b, o, none⟩) l.length cap] 25)).heap[w.heap.size + 1 + 1 + 1]? = some (.cells #[.int .i64 0, .int .i64 0, .int .i64 0, .int .i64 0] 114 (0, 0)) :=
    (Below.heap_alloc _ _ _ (by simp; omega)).trans ((Below.heap_alloc _ _ _ (by omega)).trans hF)
  have hA0 := hA.below (hBA.trans (hB0.mono (by omega)))
  refine wpIn_rangeFunc_ownH rfl h1 (gf := 95) (lb := #[.pointer (some ⟨w.heap.size + 1 + 1 + 1 + 1 + 1, 0, none⟩)]) rfl trivial (enters_of Try.func95 (by kernel_rfl) rfl)
    (str_stops Fence.wide 2 trivial rfl (by omega) (w.heap.size + 1 + 1 + 1 + 1 + 1) (w.heap.size + 1 + 1 + 1) b o cap l hT (by omega) _ (by simp; omega) bN hA0) KpS_t (KpS_b (by simp; omega)) (Below.refl _ _) (fun _ => rfl)
    (fun pre W => W.heap[w.heap.size + 1 + 1 + 1]? = some (.cells #[.int .i64 0, .int .i64 0, .int .i64 0, .int .i64 0] 114 (0, 0)) ∧ Boxed W (w.heap.size + 1 + 1 + 1 + 1) 4 (.bool false) ∧ Below (w.heap.size + 1 + 1 + 1) wA W ∧ noGap m pre)
    (fun c pre W => c = .exit 0 ∧ gapOut m w wA pre W)
    (fun s X Y row hs hg hr => ⟨heap_kept hs.1 hg (fun r e => (hr r e).2), boxed_own _ _ (fun (_ : Unit) => .bool false) () X Y row hs.2.1 hg (fun r e => (hr r e).2), ownFrom_below (β := Unit) (by omega) (by simp; omega) () X Y row hs.2.2.1 hg hr, hs.2.2.2⟩)
    (fun c s X Y row hs hg hr => by
      obtain ⟨hc, ini, t, e1, e2, e3⟩ := hs
      refine ⟨hc, ini, t, e1, e2, ?_⟩
      rcases e3 with ⟨e3, e4⟩ | ⟨e3, e4⟩
      · exact .inl ⟨e3, gapTail_own w wA _ _ hsA _ (by simp; omega) (β := Unit) () X Y row e4 hg hr⟩
      · exact .inr ⟨e3, gapTail_own w wA _ _ hsA _ (by simp; omega) (β := Unit) () X Y row e4 hg hr⟩)
    ⟨hF0, bH.alloc _, hB0, fun t ht => by simp at ht⟩
    (fun x a' W => ∃ Bx, W.heap[Bx]? = some (.cells #[.int .i64 x.1.first, .int .i64 x.1.last, .int .i64 x.1.ahead, .int .i64 x.1.own] 114 (0, 0)) ∧ w.heap.size + 1 + 1 + 1 + 1 < Bx ∧ a' = { tmps := #[.agg #[.slice (some ⟨b, o, none⟩) l.length cap], .int .i64 m, .pointer (some ⟨w.heap.size, 0, none⟩), .pointer (some ⟨w.heap.size + 1, 0, none⟩), .pointer (some ⟨w.heap.size + 1 + 1, 0, none⟩), .bool false, .pointer (some ⟨w.heap.size + 1 + 1 + 1, 0, none⟩), .pointer (some ⟨w.heap.size + 1 + 1 + 1 + 1, 0, none⟩), .pointer (some ⟨Bx, 0, none⟩), .agg #[.slice (some ⟨b, o, none⟩) l.length cap], .func (.func 95) #[] #[.pointer (some ⟨w.heap.size + 1 + 1 + 1 + 1 + 1, 0, none⟩)], x.1.v, undef, undef, undef, undef, undef, undef, undef, undef, undef, undef, undef, undef, undef, undef, undef, undef, undef, undef, undef, undef, undef, undef, undef, undef, undef, undef], defers := [] })
    (fun x a' _ X Y row hs hg hr => by
      obtain ⟨Bx, k1, k2, k3⟩ := hs
      exact ⟨Bx, heap_kept k1 hg (fun r e => (hr r e).2), k2, k3⟩)
    ?assign ?body ?done ?stop
  case assign =>
    rintro q pre ⟨⟨x0, x1, x2, x3⟩, hx⟩ W K ⟨hH, hv, hB, hp⟩ hK
    simp only [StrD.v] at *
    have hlt := hv.lt
    gi_wp2
    exact hK _ _ ((KeepsOthers.alloc _ _).from _) ⟨(Below.refl _ W).alloc (by have := hB.size; omega) _, TKeep.alloc _ _⟩ ⟨(Below.heap_alloc _ _ _ (by omega)).trans hH, hv.alloc _, hB.alloc (by have := hB.size; omega) _, hp⟩ ⟨W.heap.size, World.alloc_heap_new W _, by omega, rfl⟩
  case body =>
    rintro q pre ⟨⟨x0, x1, x2, x3⟩, hx⟩ a' W hq ⟨r, hr⟩ ⟨hH, hv, hB, hp⟩ ⟨Bx, hBx, hbx, rfl⟩ hlt
    have gt := @gapB_t m ⟨⟨x0, x1, x2, x3⟩, hx⟩
    have gf1 := @gapB_f1 m ⟨⟨x0, x1, x2, x3⟩, hx⟩
    have gf2 := @gapB_f2 m ⟨⟨x0, x1, x2, x3⟩, hx⟩
    have hc := hv.cell
    have hcf := hv.frozen
    have hsW := hB.size
    have cM1 : W.cell? ⟨w.heap.size + 1, 0, none⟩ = some (.int .i64 m) := (hB.cell (p := ⟨w.heap.size + 1, 0, none⟩) (show w.heap.size + 1 < w.heap.size + 1 + 1 + 1 by omega)).trans cM
    obtain ⟨⟨e0, e1, e2, e3⟩, _⟩ := strIn_of hBx
    obtain ⟨hFI, hFf⟩ := strIn_of hH
    obtain ⟨f0, f1, f2, f3⟩ := hFI
    have ff0 := hFf 0
    have ff1 := hFf 1
    have ff2 := hFf 2
    have ff3 := hFf 3
    obtain ⟨i1, i2, i3, i4⟩ : (-62135596800 ≤ x0 ∧ x0 ≤ 253402300799) ∧ (-62135596801 ≤ x1 ∧ x1 ≤ 253402300799) ∧ (-100000 ≤ x2 ∧ x2 ≤ 100000) ∧ (-100000 ≤ x3 ∧ x3 ≤ 100000) := by
      have hx' := hx
      unfold StrD.ok at hx'
      simp only [Bool.and_eq_true] at hx'
      exact ⟨isB_of_t hx'.1, isB_of_t hx'.2.1, isB_of_t hx'.2.2.1, isB_of_t hx'.2.2.2⟩
    obtain ⟨i11, i12⟩ := i1
    obtain ⟨i31, i32⟩ := i3
    obtain ⟨i41, i42⟩ := i4
    simp only [StrD.v] at *
    have hK4 := keeps_four W (w.heap.size + 1 + 1 + 1) (.int .i64 x0) (.int .i64 x1) (.int .i64 x2) (.int .i64 x3)
    have hB4 := below_four hB (w.heap.size + 1 + 1 + 1) (by omega) (.int .i64 x0) (.int .i64 x1) (.int .i64 x2) (.int .i64 x3)
    obtain ⟨s0, s1, s2, s3⟩ := set_str (x := ⟨0, 0, 0, 0⟩) (y := ⟨x0, x1, x2, x3⟩) ⟨f0, f1, f2, f3⟩
    simp only at s0 s1 s2 s3
    have hne : w.heap.size + 1 + 1 + 1 + 1 ≠ w.heap.size + 1 + 1 + 1 := by omega
    clear hq hr hFf
    by_cases g0 : m < x0 - 100000
    · clear gt gf1 gf2 hK4 hB4 s0 s1 s2 s3
      gi_wp2
      exact ⟨KeepsFrom.refl _ _, rfl, gapOut_1 (s := ⟨⟨x0, x1, x2, x3⟩, hx⟩) hp g0 ⟨⟨f0, f1, f2, f3⟩, hc, hB⟩⟩
    · by_cases g1 : x0 + x2 ≤ m
      · by_cases g2 : m < x0 + x3
        · have ht := gt g1 g2
          clear gt gf1 gf2
          gi_wp2
          refine ⟨(hK4.trans (KeepsOthers.setCell _ _ _)).from _, rfl, gapOut_2 hp ht ⟨⟨?_, ?_, ?_, ?_⟩, ?_, hB4.setCell (p := ⟨w.heap.size + 1 + 1 + 1 + 1, 0, none⟩) (show w.heap.size + 1 + 1 + 1 ≤ w.heap.size + 1 + 1 + 1 + 1 by omega) _⟩⟩
          · rw [World.cell?_setCell_other _ _ _ _ (ne_blk2T (by omega))]; exact s0
          · rw [World.cell?_setCell_other _ _ _ _ (ne_blk2T (by omega))]; exact s1
          · rw [World.cell?_setCell_other _ _ _ _ (ne_blk2T (by omega))]; exact s2
          · rw [World.cell?_setCell_other _ _ _ _ (ne_blk2T (by omega))]; exact s3
          · refine World.cell?_setCell_same _ _ _ (u := .bool false) ?_
            rw [World.cell?_setCell_other _ _ _ _ (ne_blk2T (by omega)), World.cell?_setCell_other _ _ _ _ (ne_blk2T (by omega)), World.cell?_setCell_other _ _ _ _ (ne_blk2T (by omega)), World.cell?_setCell_other _ _ _ _ (ne_blk2T (by omega))]
            exact hc
        · have ht := gf2 g2
          clear gt gf1 gf2 hK4 hB4 s0 s1 s2 s3
          gi_wp2
          exact ⟨KeepsFrom.refl _ _, ⟨Below.refl _ _, TKeep.refl _⟩, hH, hv, hB, noGap_snoc hp ht⟩
      · have ht := gf1 g1
        clear gt gf1 gf2 hK4 hB4 s0 s1 s2 s3
        gi_wp2
        exact ⟨KeepsFrom.refl _ _, ⟨Below.refl _ _, TKeep.refl _⟩, hH, hv, hB, noGap_snoc hp ht⟩
  case done =>
    rintro D ys W hD rfl ⟨hH, hv, hB, hp⟩ hK
    obtain rfl := HN hp
    obtain ⟨⟨f0, f1, f2, f3⟩, _⟩ := strIn_of hH
    have hc := hv.cell
    clear HS HN HC
    have hRW := (hB.block (w.heap.size + 1 + 1) (by omega)).trans hR
    obtain ⟨⟨r0, r1, r2, r3⟩, hRf⟩ := strIn_of hRW
    have rf0 := hRf 0
    have rf1 := hRf 1
    have rf2 := hRf 2
    have rf3 := hRf 3
    have hK4 := keeps_four W (w.heap.size + 1 + 1) (.int .i64 0) (.int .i64 0) (.int .i64 0) (.int .i64 0)
    have hB4 := below_four (hBA.trans (hB.mono (by omega))) (w.heap.size + 1 + 1) (by omega) (.int .i64 0) (.int .i64 0) (.int .i64 0) (.int .i64 0)
    obtain ⟨s0, s1, s2, s3⟩ := set_str (x := ⟨0, 0, 0, 0⟩) (y := ⟨0, 0, 0, 0⟩) ⟨r0, r1, r2, r3⟩
    have hn1 : w.heap.size + 1 + 1 + 1 ≠ w.heap.size + 1 + 1 := by omega
    have hn2 : w.heap.size + 1 + 1 + 1 + 1 ≠ w.heap.size + 1 + 1 := by omega
    clear hRf hwA hwF
    simp only at r0 r1 r2 r3 s0 s1 s2 s3 f0 f1 f2 f3
    gi_wp2
    refine wpIn_wide.2 ?_
    go_region
    gi_wp2
    have hK' := (hK4.trans (KeepsOthers.drew _)).same D _ hK rfl
    obtain ⟨WD, hWD⟩ : ∃ WD, (((((W.setCell ⟨w.heap.size + 1 + 1, 0, none⟩ (.int .i64 0)).setCell ⟨w.heap.size + 1 + 1, 1, none⟩ (.int .i64 0)).setCell ⟨w.heap.size + 1 + 1, 2, none⟩ (.int .i64 0)).setCell ⟨w.heap.size + 1 + 1, 3, none⟩ (.int .i64 0)).drew) = WD := ⟨_, rfl⟩
    rw [← cell_drew_own] at s0 s1 s2 s3
    rw [hWD] at s0 s1 s2 s3 hK' ⊢
    have hP := grownBy_putObj' WD D (.deferred none)
    have hPr : ∀ r, some D = some r → ∃ o : Obj, WD.heap[r]? = some o ∧ o.isCells = false := fun r e => by cases e; exact ⟨_, hK', rfl⟩
    have q0 := cell_kept (W := WD) s0 hP hPr
    have q1 := cell_kept (W := WD) s1 hP hPr
    have q2 := cell_kept (W := WD) s2 hP hPr
    have q3 := cell_kept (W := WD) s3 hP hPr
    refine ⟨by simp, .inl ⟨_, _, rfl, run_takeDeferred hK', ?_⟩⟩
    refine ⟨.tuple #[.agg #[.int .i64 0, .int .i64 0, .int .i64 0, .int .i64 0], .bool false], ?_, rfl, (hB4.trans (by rw [← hWD]; exact ⟨rfl, rfl, rfl, Nat.le_refl _, fun _ _ => rfl⟩)).trans (belowK_b (w := w) (Nat.le_refl _) _ D _ _ (by simp at hD; omega) hK' rfl rfl)⟩
    simp [results, Try.results79, go_sem, q0, q1, q2, q3]
  case stop =>
    rintro D c pre W hD ⟨k, hk, rfl⟩ ⟨rfl, ini, s, e1, e2, e3⟩ hK
    obtain ⟨k', rfl⟩ : ∃ k', k = k' + 1 := by
      cases k with
      | zero => simp [uptoS] at e1
      | succ k' => exact ⟨k', rfl⟩
    rw [uptoS_succ] at e1
    obtain ⟨rfl, e5⟩ := List.append_inj' e1 rfl
    have e5 : strK l k' = s := by simpa using e5
    rcases e3 with ⟨e3, hFI, hc, hB⟩ | ⟨e3, hFI, hc, hB⟩
    · obtain rfl := HC k' (by omega) e2 (by rw [e5]; exact e3)
      obtain ⟨f0, f1, f2, f3⟩ := hFI
      clear HS HN HC e1 e2 e3 e5
      have hRW := (hB.block (w.heap.size + 1 + 1) (by omega)).trans hR
      obtain ⟨⟨r0, r1, r2, r3⟩, hRf⟩ := strIn_of hRW
      have rf0 := hRf 0
      have rf1 := hRf 1
      have rf2 := hRf 2
      have rf3 := hRf 3
      have hK4 := keeps_four W (w.heap.size + 1 + 1) (.int .i64 0) (.int .i64 0) (.int .i64 0) (.int .i64 0)
      have hB4 := below_four (hBA.trans (hB.mono (by omega))) (w.heap.size + 1 + 1) (by omega) (.int .i64 0) (.int .i64 0) (.int .i64 0) (.int .i64 0)
      obtain ⟨s0, s1, s2, s3⟩ := set_str (x := ⟨0, 0, 0, 0⟩) (y := ⟨0, 0, 0, 0⟩) ⟨r0, r1, r2, r3⟩
      have hn1 : w.heap.size + 1 + 1 + 1 ≠ w.heap.size + 1 + 1 := by omega
      have hn2 : w.heap.size + 1 + 1 + 1 + 1 ≠ w.heap.size + 1 + 1 := by omega
      clear hRf hwA hwF
      simp only at r0 r1 r2 r3 s0 s1 s2 s3 f0 f1 f2 f3
      gi_wp2
      refine wpIn_wide.2 ?_
      go_region
      gi_wp2
      have hK' := (hK4.trans (KeepsOthers.drew _)).same D _ hK rfl
      obtain ⟨WD, hWD⟩ : ∃ WD, (((((W.setCell ⟨w.heap.size + 1 + 1, 0, none⟩ (.int .i64 0)).setCell ⟨w.heap.size + 1 + 1, 1, none⟩ (.int .i64 0)).setCell ⟨w.heap.size + 1 + 1, 2, none⟩ (.int .i64 0)).setCell ⟨w.heap.size + 1 + 1, 3, none⟩ (.int .i64 0)).drew) = WD := ⟨_, rfl⟩
      rw [← cell_drew_own] at s0 s1 s2 s3
      rw [hWD] at s0 s1 s2 s3 hK' ⊢
      have hP := grownBy_putObj' WD D (.deferred none)
      have hPr : ∀ r, some D = some r → ∃ o : Obj, WD.heap[r]? = some o ∧ o.isCells = false := fun r e => by cases e; exact ⟨_, hK', rfl⟩
      have q0 := cell_kept (W := WD) s0 hP hPr
      have q1 := cell_kept (W := WD) s1 hP hPr
      have q2 := cell_kept (W := WD) s2 hP hPr
      have q3 := cell_kept (W := WD) s3 hP hPr
      refine ⟨by simp, .inl ⟨_, _, rfl, run_takeDeferred hK', ?_⟩⟩
      refine ⟨.tuple #[.agg #[.int .i64 0, .int .i64 0, .int .i64 0, .int .i64 0], .bool false], ?_, rfl, (hB4.trans (by rw [← hWD]; exact ⟨rfl, rfl, rfl, Nat.le_refl _, fun _ _ => rfl⟩)).trans (belowK_b (w := w) (Nat.le_refl _) _ D _ _ (by simp at hD; omega) hK' rfl rfl)⟩
      simp [results, Try.results79, go_sem, q0, q1, q2, q3]
    · have hG := HS k' (by omega) e2 (by rw [e5]; exact e3)
      rw [e5] at hG
      obtain rfl := hG
      clear HS HN HC e1 e2 e3 e5
      obtain ⟨⟨y0, y1, y2, y3⟩, hy⟩ := s
      obtain ⟨f0, f1, f2, f3⟩ := hFI
      have hRW := (hB.block (w.heap.size + 1 + 1) (by omega)).trans hR
      obtain ⟨⟨r0, r1, r2, r3⟩, hRf⟩ := strIn_of hRW
      have rf0 := hRf 0
      have rf1 := hRf 1
      have rf2 := hRf 2
      have rf3 := hRf 3
      have hK4 := keeps_four W (w.heap.size + 1 + 1) (.int .i64 y0) (.int .i64 y1) (.int .i64 y2) (.int .i64 y3)
      have hB4 := below_four (hBA.trans (hB.mono (by omega))) (w.heap.size + 1 + 1) (by omega) (.int .i64 y0) (.int .i64 y1) (.int .i64 y2) (.int .i64 y3)
      obtain ⟨s0, s1, s2, s3⟩ := set_str (x := ⟨0, 0, 0, 0⟩) (y := ⟨y0, y1, y2, y3⟩) ⟨r0, r1, r2, r3⟩
      have hn1 : w.heap.size + 1 + 1 + 1 ≠ w.heap.size + 1 + 1 := by omega
      have hn2 : w.heap.size + 1 + 1 + 1 + 1 ≠ w.heap.size + 1 + 1 := by omega
      clear hRf hwA hwF
      simp only at r0 r1 r2 r3 s0 s1 s2 s3 f0 f1 f2 f3
      gi_wp2
      refine wpIn_wide.2 ?_
      go_region
      gi_wp2
      have hK' := (hK4.trans (KeepsOthers.drew _)).same D _ hK rfl
      obtain ⟨WD, hWD⟩ : ∃ WD, (((((W.setCell ⟨w.heap.size + 1 + 1, 0, none⟩ (.int .i64 y0)).setCell ⟨w.heap.size + 1 + 1, 1, none⟩ (.int .i64 y1)).setCell ⟨w.heap.size + 1 + 1, 2, none⟩ (.int .i64 y2)).setCell ⟨w.heap.size + 1 + 1, 3, none⟩ (.int .i64 y3)).drew) = WD := ⟨_, rfl⟩
      rw [← cell_drew_own] at s0 s1 s2 s3
      rw [hWD] at s0 s1 s2 s3 hK' ⊢
      have hP := grownBy_putObj' WD D (.deferred none)
      have hPr : ∀ r, some D = some r → ∃ o : Obj, WD.heap[r]? = some o ∧ o.isCells = false := fun r e => by cases e; exact ⟨_, hK', rfl⟩
      have q0 := cell_kept (W := WD) s0 hP hPr
      have q1 := cell_kept (W := WD) s1 hP hPr
      have q2 := cell_kept (W := WD) s2 hP hPr
      have q3 := cell_kept (W := WD) s3 hP hPr
      refine ⟨by simp, .inl ⟨_, _, rfl, run_takeDeferred hK', ?_⟩⟩
      refine ⟨.tuple #[.agg #[.int .i64 y0, .int .i64 y1, .int .i64 y2, .int .i64 y3], .bool true], ?_, rfl, (hB4.trans (by rw [← hWD]; exact ⟨rfl, rfl, rfl, Nat.le_refl _, fun _ _ => rfl⟩)).trans (belowK_b (w := w) (Nat.le_refl _) _ D _ _ (by simp at hD; omega) hK' rfl rfl)⟩
      simp [results, Try.results79, go_sem, q0, q1, q2, q3]
end Go.Proofs.Ytjfonbnmdcpepaa
