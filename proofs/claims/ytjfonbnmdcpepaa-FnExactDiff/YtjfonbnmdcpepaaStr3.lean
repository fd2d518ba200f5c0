/- The instants at which the clock shows a wall time: the program's. -/
import Derived.Test.YtjfonbnmdcpepaaStr2
namespace Go.Proofs.Ytjfonbnmdcpepaa
open Go.RowKit Go.Shelf
attribute [local go_sem] Oper.semAt_some

/-- the instant of a stretch that shows a wall time, if there is one. -/
def shownB (n : Int) (s : StrK) : Bool := decide (s.1.first ≤ n - s.1.own) && decide (n - s.1.own ≤ s.1.last)
def shownL (n : Int) (l : List StrK) : List Int := (l.filter (shownB n)).map fun s => n - s.1.own
theorem shownL_hit {n : Int} {l : List StrK} {s : StrK} (h1 : s.1.first ≤ n - s.1.own) (h2 : n - s.1.own ≤ s.1.last) : shownL n (l ++ [s]) = shownL n l ++ [n - s.1.own] := by simp [shownL, shownB, h1, h2]
theorem shownL_miss1 {n : Int} {l : List StrK} {s : StrK} (h1 : ¬ s.1.first ≤ n - s.1.own) : shownL n (l ++ [s]) = shownL n l := by
  unfold shownL
  rw [List.filter_append, show [s].filter (shownB n) = [] by simp [shownB, h1], List.append_nil]
theorem shownL_miss2 {n : Int} {l : List StrK} {s : StrK} (h2 : ¬ n - s.1.own ≤ s.1.last) : shownL n (l ++ [s]) = shownL n l := by
  unfold shownL
  rw [List.filter_append, show [s].filter (shownB n) = [] by simp [shownB, h2], List.append_nil]
theorem shownL_le (n : Int) (l : List StrK) : (shownL n l).length ≤ l.length := by unfold shownL; rw [List.length_map]; exact List.length_filter_le _ _
def instL (l : List TurnD) (n : Int) : List Int := shownL n (uptoS l l.length)
theorem info64 : (Try.prog.info? 2).map (fun i => (i.zero, i.size, i.bytes)) = some (some (.int .i64 0), 1, 8) := by kernel_rfl
theorem TKeep.appended {W w1 : World} {n₀ B : Nat} {v v' : Value} {k : Nat} {xs : List Value} {tmp : Obj} (hrow : W.ownsRow n₀ 2 1 v k xs) (hv1 : Boxed w1 B 36 v) (hgrow : (W.alloc tmp).grownBy w1 v.ownBlock) : TKeep W (w1.setCell ⟨B, 0, none⟩ v') := by
  refine TKeep.trans ?_ (TKeep.set hv1 (by decide) (by decide) 0 v')
  intro i t cs ht hi
  have hlt := (Array.getElem?_eq_some_iff.1 hi).1
  refine (hgrow.block i (by simp; omega) ?_).trans ((Below.heap_alloc W tmp i hlt).trans hi)
  rcases hrow.2 with ⟨rfl, _⟩ | ⟨g, cap, cur, rfl, _, hgb, _⟩
  · simp [Value.ownBlock]
  · intro e
    have e : i = g := by simpa [Value.ownBlock] using e
    subst e
    rw [hgb] at hi
    cases hi
    rcases ht with h | h <;> exact absurd h (by decide)
set_option maxRecDepth 100000 in
set_option maxHeartbeats 4000000 in
theorem shownAt_in (F : Fence) (n : Nat) (h45 : F.fn 50) (h67 : F.fn 78) (h79 : F.fn 95) (hro : F.round = none) (hn : 3 ≤ n) (l : List TurnD) (v : Value) (m : Int) (hT : TabR l) (m1 : -62135596800 ≤ m) (m2 : m ≤ 253402300799) (w : World) (hv : TabAt w v l) :
    CallsIn F n Try.prog 50 #[v, .int .i64 m] w fun e W' => ∃ v', e = .returned v' ∧ W'.ownsRow w.heap.size 2 1 v' (instL l m).length ((instL l m).map (Value.int .i64)) ∧ Below w.heap.size w W' := by
  have h1 : 1 ≤ n := by omega
  have hlen := hT.len
  obtain ⟨i0, hi, hz0, hz1, hz2⟩ := info_parts info64
  obtain ⟨a, cap, rfl, hA⟩ := hv
  obtain ⟨f, hf⟩ : ∃ x, l[0]? = some x := ⟨_, List.getElem?_eq_getElem (by omega)⟩
  obtain ⟨b, o, rfl, hd⟩ := hA.at (i := 0) (r := f.cs) (by rw [List.getElem?_map, hf]; rfl)
  have hbl : b < w.heap.size := World.block_lt_of_cell? _ _ (hd 0 _ rfl)
  clear hd hf
  refine callsIn_of_wp_marks Try.func50 rfl h45 ?_ hro
  simp only [Try.ntmps50, List.size_toArray, List.length_cons, List.length_nil, Nat.reduceAdd, Nat.reduceSub, Array.replicate_succ, Array.replicate_zero, List.push_toArray, List.append_toArray, List.nil_append, List.cons_append]
  gi_wp2_with (gi_at_call 78; refine (stretches_in F (n - 1) h67 hro _ _ _ _).mono ?_; rintro e w' ⟨rfl, rfl⟩)
  obtain ⟨wA, hwA⟩ : ∃ wA, ((w.alloc (.cells #[.slice (some ⟨b, o, none⟩) l.length cap] 25)).alloc (.cells #[.int .i64 m] 2)) = wA := ⟨_, rfl⟩
  have hsA : wA.heap.size = w.heap.size + 1 + 1 := by rw [← hwA]; simp
  have hBA : Below w.heap.size w wA := by rw [← hwA]; exact ((Below.refl _ w).alloc (Nat.le_refl _) _).alloc (by simp) _
  have cM : wA.cell? ⟨w.heap.size + 1, 0, none⟩ = some (.int .i64 m) := by rw [← hwA]; simp [go_sem]
  have bO := Boxed.new wA 36 (.slice none 0 0)
  have bN := Boxed.new (wA.alloc (.cells #[.slice none 0 0] 36)) 25 (.slice (some ⟨b, o, none⟩) l.length cap)
  rw [World.size_alloc, hsA] at bN
  rw [hsA] at bO
  have hB0 : Below (w.heap.size + 1 + 1) wA ((wA.alloc (.cells #[.slice none 0 0] 36)).alloc (.cells #[.slice (some ⟨b, o, none⟩) l.length cap] 25)) := ((Below.refl _ wA).alloc (by omega) _).alloc (by simp; omega) _
  have hA0 := hA.below (hBA.trans (hB0.mono (by omega)))
  rw [hwA]
  refine wpIn_rangeFunc_ownH hro h1 (gf := 95) (lb := #[.pointer (some ⟨w.heap.size + 1 + 1 + 1, 0, none⟩)]) rfl h79 (enters_of Try.func95 (by kernel_rfl) rfl)
    (str_stops F (n - 1) h79 hro (by omega) (w.heap.size + 1 + 1 + 1) (w.heap.size + 1 + 1) b o cap l hT (by omega) _ (by simp; omega) bN hA0) KpS_t (KpS_b (by simp; omega)) (Below.refl _ _) (fun _ => rfl)
    (fun pre W => (∃ v, Boxed W (w.heap.size + 1 + 1) 36 v ∧ W.ownsRow (w.heap.size + 1 + 1) 2 1 v (shownL m pre).length ((shownL m pre).map (Value.int .i64)) ∧ True) ∧ Below (w.heap.size + 1 + 1) wA W)
    (fun _ _ _ => False)
    (OwnFrom.and (Own.from (holdsRow_own (w.heap.size + 1 + 1) (w.heap.size + 1 + 1) 36 2 1 (fun pre => (shownL m pre).length) (fun pre => (shownL m pre).map (Value.int .i64)) (fun _ _ => True)) _) (ownFrom_below (by omega) (by simp; omega)))
    (fun _ _ _ _ _ hs _ _ => hs)
    ⟨⟨_, bO.alloc _, World.ownsRow_nil _ _ _ _, trivial⟩, hB0⟩
    (fun x a' W => ∃ Bx, W.heap[Bx]? = some (.cells #[.int .i64 x.1.first, .int .i64 x.1.last, .int .i64 x.1.ahead, .int .i64 x.1.own] 114 (0, 0)) ∧ a' = { tmps := #[.agg #[.slice (some ⟨b, o, none⟩) l.length cap], .int .i64 m, .pointer (some ⟨w.heap.size, 0, none⟩), .pointer (some ⟨w.heap.size + 1, 0, none⟩), .slice none 0 0, .pointer (some ⟨w.heap.size + 1 + 1, 0, none⟩), .pointer (some ⟨Bx, 0, none⟩), undef, .agg #[.slice (some ⟨b, o, none⟩) l.length cap], .func (.func 95) #[] #[.pointer (some ⟨w.heap.size + 1 + 1 + 1, 0, none⟩)], x.1.v, undef, undef, undef, undef, undef, undef, undef, undef, undef, undef, undef, undef, undef, undef, undef, undef, undef, undef, undef], defers := [] })
    (fun x a' _ X Y row hs hg hr => by
      obtain ⟨Bx, k1, k2⟩ := hs
      refine ⟨Bx, (hg.block Bx (Array.getElem?_eq_some_iff.1 k1).1 (fun e => ?_)).trans k1, k2⟩
      obtain ⟨_, oo, ho, hc⟩ := hr Bx e.symm
      rw [k1] at ho
      cases ho
      cases hc)
    ?assign ?body ?done ?stop
  case assign =>
    rintro q pre ⟨⟨x0, x1, x2, x3⟩, hx⟩ W K ⟨⟨v, hv, hrow, _⟩, hB⟩ hK
    simp only [StrD.v] at *
    gi_wp2
    exact hK _ _ ((KeepsOthers.alloc _ _).from _) ⟨(Below.refl _ W).alloc (by have := hB.size; omega) _, TKeep.alloc _ _⟩ ⟨⟨v, hv.alloc _, hrow.alloc _, trivial⟩, hB.alloc (by have := hB.size; omega) _⟩ ⟨W.heap.size, World.alloc_heap_new W _, rfl⟩
  case body =>
    rintro q pre ⟨⟨x0, x1, x2, x3⟩, hx⟩ a' W hq ⟨r, hr⟩ ⟨⟨v, hv, hrow, _⟩, hB⟩ ⟨Bx, hBx, rfl⟩ hlt
    have hit := @shownL_hit m pre ⟨⟨x0, x1, x2, x3⟩, hx⟩
    have ms1 := @shownL_miss1 m pre ⟨⟨x0, x1, x2, x3⟩, hx⟩
    have ms2 := @shownL_miss2 m pre ⟨⟨x0, x1, x2, x3⟩, hx⟩
    have hsl := shownL_le m pre
    have hc := hv.cell
    have hsW := hB.size
    have cM1 : W.cell? ⟨w.heap.size + 1, 0, none⟩ = some (.int .i64 m) := (hB.cell (p := ⟨w.heap.size + 1, 0, none⟩) (show w.heap.size + 1 < w.heap.size + 1 + 1 by omega)).trans cM
    have e0 : W.cell? ⟨Bx, 0, none⟩ = some (.int .i64 x0) := by simp [World.cell?, hBx]
    have e1 : W.cell? ⟨Bx, 1, none⟩ = some (.int .i64 x1) := by simp [World.cell?, hBx]
    have e3 : W.cell? ⟨Bx, 3, none⟩ = some (.int .i64 x3) := by simp [World.cell?, hBx]
    obtain ⟨j1, j2⟩ : -100000 ≤ x3 ∧ x3 ≤ 100000 := by
      have hx' := hx
      unfold StrD.ok at hx'
      simp only [Bool.and_eq_true] at hx'
      exact isB_of_t hx'.2.2.2
    simp only [StrD.v] at *
    clear hBx hq hr
    by_cases g1 : x0 ≤ m - x3
    · by_cases g2 : m - x3 ≤ x1
      · have ht := hit g1 g2
        clear hit ms1 ms2
        gi_wp2_with (gi_at_builtin; refine wpListIn_append_own _ rfl _ _ 36 rfl (w.heap.size + 1 + 1) 2 i0 (.int .i64 0) 1 8 Try.underlying36 hi hz0 hz1 hz2 rfl (by decide) _ _ _ rfl (hrow.alloc _) ⟨W.heap.size, 0, none⟩ 1 1 [.int .i64 (m - x3)] rfl rfl (cell_one_new _ _ _) (by simp [Value.oneCell']) (by unfold maxLen; omega) (by omega) (by simp; omega) ?_; intro v' w1 hown' hgrow _; obtain ⟨g', cap', rfl⟩ := ownsRow_succ hown'; obtain ⟨hv1, hv2, hr2, hk2, hb2⟩ := hv.appended (by decide) hrow (by omega) (Nat.le_refl _) hown' hgrow; have htk := TKeep.appended (v' := .slice (some ⟨g', 0, none⟩) ((shownL m pre).length + 1) cap') hrow hv1 hgrow; have hc1 := hv1.cell; have hf1 := hv1.frozen)
        exact ⟨hk2.from _, ⟨hb2, htk⟩, ⟨_, hv2, by rw [ht]; simpa using hr2, trivial⟩, hB.trans hb2⟩
      · have ht := ms2 g2
        clear hit ms1 ms2
        gi_wp2
        exact ⟨KeepsFrom.refl _ _, ⟨Below.refl _ _, TKeep.refl _⟩, ⟨v, hv, by rw [ht]; exact hrow⟩, hB⟩
    · have ht := ms1 g1
      clear hit ms1 ms2
      gi_wp2
      exact ⟨KeepsFrom.refl _ _, ⟨Below.refl _ _, TKeep.refl _⟩, ⟨v, hv, by rw [ht]; exact hrow⟩, hB⟩
  case done =>
    rintro D ys W hD rfl ⟨⟨v, hv, hrow, _⟩, hB⟩ hK
    have hc := hv.cell
    gi_wp2
    refine ⟨by simp, .inl ⟨_, _, rfl, run_takeDeferred hK, ?_⟩⟩
    refine ⟨_, results_tmp rfl _ _ _, v, rfl, ?_, (hBA.trans (hB.mono (by omega))).trans (belowK_b (w := w) (Nat.le_refl _) W D _ _ (by simp at hD; omega) hK rfl rfl)⟩
    have hr := ownsRow_putObj hrow (.deferred none) hK rfl
    refine ⟨hr.1, ?_⟩
    rcases hr.2 with h | ⟨g, cap, cur, e1, e2, e3⟩
    · exact .inl h
    · exact .inr ⟨g, cap, cur, e1, by omega, e3⟩
  case stop =>
    rintro D c pre W _ _ h _
    exact h.elim
theorem impl_shownAt (l : List TurnD) (v : Value) (m : Int) (hT : TabR l) (m1 : -62135596800 ≤ m) (m2 : m ≤ 253402300799) (w : World) (hv : TabAt w v l) :
    Calls Try.prog 50 #[v, .int .i64 m] w fun e W' => ∃ v', e = .returned v' ∧ W'.ownsRow w.heap.size 2 1 v' (instL l m).length ((instL l m).map (Value.int .i64)) ∧ Below w.heap.size w W' :=
  (callsIn_wide (n := 3)).1 (shownAt_in Fence.wide 3 trivial trivial trivial rfl (by omega) l v m hT m1 m2 w hv)
end Go.Proofs.Ytjfonbnmdcpepaa
