/- Where two right tables differ: the model's. -/
import Derived.Test.YtjfonbnmdcpepaaDf4
import Derived.Test.YtjfonbnmdcpepaaDf6
import Derived.Test.YtjfonbnmdcpepaaTabTurn
import Derived.Lib.QuietBelow
namespace Go.Proofs.Ytjfonbnmdcpepaa
open Go.RowKit Go.Sort

theorem flat_set {q : Nat} : ∀ {rows : List (List Value)}, (∀ r ∈ rows, r.length = q) → ∀ {i j : Nat} {r : List Value} (c : Value), rows[i]? = some r → j < q → (rows.set i (r.set j c)).flatten = rows.flatten.set (i * q + j) c := by
  intro rows
  induction rows with
  | nil => intro _ i j r c h; simp at h
  | cons x rows ih =>
    intro hq i j r c hi hj
    have hx := hq x (by simp)
    cases i with
    | zero =>
      simp at hi
      subst hi
      rw [List.set_cons_zero, List.flatten_cons, List.flatten_cons, Nat.zero_mul, Nat.zero_add, List.set_append_left _ _ (by omega)]
    | succ i =>
      rw [List.set_cons_succ, List.flatten_cons, List.flatten_cons, List.set_append_right _ _ (by rw [hx, Nat.add_mul]; omega), hx]
      rw [show (i + 1) * q + j - q = i * q + j by rw [Nat.add_mul]; omega]
      rw [ih (fun y hy => hq y (List.mem_cons_of_mem _ hy)) c (by simpa using hi) hj]
theorem span_set {X : List SpanD} {n : Nat} {x : SpanD} (hx : X[n]? = some x) (e : Int) : ((X.set n ⟨x.lo, e⟩).map SpanD.cs).flatten = (X.map SpanD.cs).flatten.set (n * 2 + 1) (.int .i64 e) := by
  rw [← flat_set span_len (.int .i64 e) (i := n) (j := 1) (r := x.cs) (by rw [List.getElem?_map, hx]; rfl) (by omega), List.map_set]
  rfl
theorem OwnsS.shape {w : World} {base : Nat} {v : Value} {X : List SpanD} {n : Nat} (h : OwnsS w base v X) (hn : X.length = n + 1) : ∃ g cap, v = .slice (some ⟨g, 0, none⟩) (n + 1) cap ∧ base ≤ g := by
  unfold OwnsS at h
  rw [hn] at h
  obtain ⟨g, cap, h1, h2, _⟩ := World.ownsRow.form h (by omega)
  exact ⟨g, cap, h1, h2⟩
theorem OwnsS.last {w : World} {base g cap : Nat} {X : List SpanD} {n : Nat} {x : SpanD} (h : OwnsS w base (.slice (some ⟨g, 0, none⟩) (n + 1) cap) X) (hn : X.length = n + 1) (hx : X[n]? = some x) (e : Int) :
    w.cell? ⟨g, n * 2 + 1, none⟩ = some (.int .i64 x.hi) ∧ w.frozen? ⟨g, n * 2 + 1, none⟩ = false ∧ OwnsS (w.setCell ⟨g, n * 2 + 1, none⟩ (.int .i64 e)) base (.slice (some ⟨g, 0, none⟩) (n + 1) cap) (X.set n ⟨x.lo, e⟩) := by
  have h' : w.ownsRow base 86 2 (.slice (some ⟨g, 0, none⟩) (n + 1) cap) (n + 1) (X.map SpanD.cs).flatten := by
    have := h
    unfold OwnsS at this
    rw [hn] at this
    exact this
  refine ⟨?_, h'.frozenAt _, ?_⟩
  · rw [h'.cellAt _ (by omega)]
    exact flat_at span_len (i := n) (j := 1) (r := x.cs) (by rw [List.getElem?_map, hx]; rfl) rfl
  · have := (h'.stored (n * 2 + 1) (.int .i64 e)).1
    unfold OwnsS
    rw [List.length_set, hn, span_set hx]
    exact this
theorem uniI_take {A B : List Int} {k : Nat} {y : Int} (h : B[k]? = some y) : uniI A (B.take (k + 1)) = insI (uniI A (B.take k)) y := by
  unfold uniI; rw [List.take_add_one, h, List.foldl_append]; rfl
theorem uniI_pos {A B : List Int} (h : 0 < A.length) : 0 < (uniI A B).length := by
  obtain ⟨x, hx⟩ : ∃ x, A[0]? = some x := ⟨_, List.getElem?_eq_getElem h⟩
  exact List.length_pos_of_mem (uniI_mem.mpr (.inl (List.mem_of_getElem? hx)))
theorem off_cnt {l : List TurnD} (hT : TabR l) {n : Int} (h : -62135596800 ≤ n) : ∃ x, l[cntT l n - 1]? = some x ∧ offAt l n = x.offset := by
  have hl := hT.len
  obtain ⟨f, hf⟩ : ∃ f, l[0]? = some f := ⟨_, List.getElem?_eq_getElem (by omega)⟩
  have h1 := cnt_pos hf (by rw [hT.first f hf]; exact h)
  have h2 := cnt_le l n
  obtain ⟨x, hx⟩ : ∃ x, l[cntT l n - 1]? = some x := ⟨_, List.getElem?_eq_getElem (by omega)⟩
  exact ⟨x, hx, by unfold offAt; rw [hx]⟩
set_option maxRecDepth 20000 in
set_option maxHeartbeats 8000000 in
theorem spec_l05Diff (la lb : List TurnD) (va vb : Value) (w : World) (hva : TabAt w va la) (hvb : TabAt w vb lb) (hTa : TabR la) (hTb : TabR lb) :
    Calls Try.prog 62 #[va, vb] w fun e W' => ∃ v', e = .returned v' ∧ OwnsS W' w.heap.size v' (diffR la lb) ∧ Below w.heap.size w W' := by
  obtain ⟨i0, hi, hz0, hz1, hz2⟩ := info_parts info64
  obtain ⟨s0, hs, hy0, hy1, hy2⟩ := info_parts infoSpan2
  have lA := hTa.len
  have lB := hTb.len
  obtain ⟨fa, hfa⟩ : ∃ x, la[0]? = some x := ⟨_, List.getElem?_eq_getElem (by omega)⟩
  obtain ⟨fb, hfb⟩ : ∃ x, lb[0]? = some x := ⟨_, List.getElem?_eq_getElem (by omega)⟩
  obtain ⟨a, cap, rfl, hA⟩ := hva
  obtain ⟨b, capb, rfl, hAb⟩ := hvb
  obtain ⟨ba, oa, rfl, ca⟩ := hA.at (i := 0) (r := fa.cs) (by rw [List.getElem?_map, hfa]; rfl)
  obtain ⟨bb, ob, rfl, cb⟩ := hAb.at (i := 0) (r := fb.cs) (by rw [List.getElem?_map, hfb]; rfl)
  have hba : ba < w.heap.size := World.block_lt_of_cell? _ _ (ca 0 _ rfl)
  have hbb : bb < w.heap.size := World.block_lt_of_cell? _ _ (cb 0 _ rfl)
  have HCa : Hid (∀ (i : Nat) x, la[i]? = some x → w.cell? ⟨ba, oa + i * 4, none⟩ = some (.int .i64 x.at_) ∧ w.cell? ⟨ba, oa + i * 4 + 1, none⟩ = some (.int .i64 x.offset)) := fun i x hx => by
    obtain ⟨b', o', e', h⟩ := hA.at (i := i) (r := x.cs) (by rw [List.getElem?_map, hx]; rfl)
    injection e' with e'
    injection e' with u1 u2
    subst u1 u2
    exact ⟨h 0 _ rfl, h 1 _ rfl⟩
  have HCb : Hid (∀ (i : Nat) x, lb[i]? = some x → w.cell? ⟨bb, ob + i * 4, none⟩ = some (.int .i64 x.at_) ∧ w.cell? ⟨bb, ob + i * 4 + 1, none⟩ = some (.int .i64 x.offset)) := fun i x hx => by
    obtain ⟨b', o', e', h⟩ := hAb.at (i := i) (r := x.cs) (by rw [List.getElem?_map, hx]; rfl)
    injection e' with e'
    injection e' with u1 u2
    subst u1 u2
    exact ⟨h 0 _ rfl, h 1 _ rfl⟩
  have HTa : Hid (TabR la) := hTa
  have HTb : Hid (TabR lb) := hTb
  clear ca cb hfa hfb hTa hTb
  have hBA := ((Below.refl w.heap.size w).alloc (Nat.le_refl _) (.cells #[.slice (some ⟨ba, oa, none⟩) la.length cap] 25)).alloc (by simp) (.cells #[.slice (some ⟨bb, ob, none⟩) lb.length capb] 25)
  have x0 : ((w.alloc (.cells #[.slice (some ⟨ba, oa, none⟩) la.length cap] 25)).alloc (.cells #[.slice (some ⟨bb, ob, none⟩) lb.length capb] 25)).cell? ⟨w.heap.size, 0, none⟩ = some (.slice (some ⟨ba, oa, none⟩) la.length cap) := by simp [go_sem]
  have y0 : ((w.alloc (.cells #[.slice (some ⟨ba, oa, none⟩) la.length cap] 25)).alloc (.cells #[.slice (some ⟨bb, ob, none⟩) lb.length capb] 25)).cell? ⟨w.heap.size + 1, 0, none⟩ = some (.slice (some ⟨bb, ob, none⟩) lb.length capb) := by simp [go_sem]
  go_enter Try.func62, Try.ntmps62
  go_wp2
  obtain ⟨wA, hwA⟩ : ∃ wA, ((w.alloc (.cells #[.slice (some ⟨ba, oa, none⟩) la.length cap] 25)).alloc (.cells #[.slice (some ⟨bb, ob, none⟩) lb.length capb] 25)) = wA := ⟨_, rfl⟩
  have hsA : wA.heap.size = w.heap.size + 1 + 1 := by rw [← hwA]; simp
  rw [hwA] at hBA x0 y0 ⊢
  clear hwA
  have hE := own_emptyI wA 2
  have hsA' := hsA
  rw [hsA] at hE
  go_loopw [5, 6] (fun s5 s6 wr => ∃ k : Nat, k ≤ la.length ∧ s6 = .int .i64 k ∧ OwnsI wr (w.heap.size + 1 + 1) s5 ((la.take k).map TurnD.at_) ∧ Below (w.heap.size + 1 + 1) wA wr) (fun _ s6 _ => la.length - (intOf s6).toNat)
  case atStart => exact ⟨0, by omega, rfl, hE, (Below.refl _ _).alloc (by omega) _⟩
  case round =>
    clear hE
    obtain ⟨k, hk, rfl, hown, hBr⟩ := hrel
    have hsW := hBr.size
    have hBw := hBA.trans (hBr.mono (show w.heap.size ≤ w.heap.size + 1 + 1 by omega))
    have xr : wr.cell? ⟨w.heap.size, 0, none⟩ = some (.slice (some ⟨ba, oa, none⟩) la.length cap) := (hBr.cell (p := ⟨w.heap.size, 0, none⟩) (show w.heap.size < w.heap.size + 1 + 1 by omega)).trans x0
    have yr : wr.cell? ⟨w.heap.size + 1, 0, none⟩ = some (.slice (some ⟨bb, ob, none⟩) lb.length capb) := (hBr.cell (p := ⟨w.heap.size + 1, 0, none⟩) (show w.heap.size + 1 < w.heap.size + 1 + 1 by omega)).trans y0
    obtain ⟨a5, n5, c5, rfl⟩ := row_shape3 hown
    by_cases hlt : k < la.length
    · obtain ⟨x, hx⟩ : ∃ x, la[k]? = some x := ⟨_, List.getElem?_eq_getElem hlt⟩
      have c0 := (hBw.cell (p := ⟨ba, oa + k * 4, none⟩) hba).trans (HCa.out k x hx).1
      have HS : Hid ((la.take (k + 1)).map TurnD.at_ = (la.take k).map TurnD.at_ ++ [x.at_]) := by simp only [Hid]; rw [List.take_add_one, hx, List.map_append]; rfl
      have hsl : ((la.take k).map TurnD.at_).length ≤ 600 := by simp; omega
      obtain ⟨L, hL⟩ : ∃ L, (la.take k).map TurnD.at_ = L := ⟨_, rfl⟩
      rw [hL] at hown HS hsl
      clear hL hx
      go_wp2_with (first
        | (at_builtin; refine wpList_append_own _ rfl _ _ 36 rfl (w.heap.size + 1 + 1) 2 i0 (.int .i64 0) 1 8 Try.underlying36 hi hz0 hz1 hz2 rfl (by decide) _ _ _ rfl (World.ownsRow.alloc hown _) ⟨wr.heap.size, 0, none⟩ 1 1 [.int .i64 x.at_] rfl rfl ?c1 ?c2 ?c3 ?c4 ?c5 ?_)
        | fail)
      case c1 => exact cell_one_new _ _ _
      case c2 => intro u hu; simp at hu; subst hu; rfl
      case c3 => unfold maxLen; omega
      case c4 => omega
      case c5 => simp; omega
      · intro v' w1 hown' hgrow _
        have hB1 : Below (w.heap.size + 1 + 1) wA w1 := (hBr.alloc (by omega) _).grown hgrow (by simp; omega) (fun j hj => (hown.lt j hj).1)
        have HO : Hid (OwnsI w1 (w.heap.size + 1 + 1) v' ((la.take (k + 1)).map TurnD.at_)) := by simp only [Hid]; rw [HS.out]; exact OwnsI.add (M := [x.at_]) hown'
        clear hgrow hown' hown
        go_wp2
        go_roundw
        case rel => exact ⟨k + 1, by omega, by go_num, HO.out, hB1⟩
        case measure => simp [intOf]; omega
    · obtain rfl : k = la.length := by omega
      rw [List.take_length] at hown
      have hown0 : OwnsI wr (w.heap.size + 1 + 1) (.slice a5 n5 c5) (uniI (la.map TurnD.at_) ((lb.map TurnD.at_).take 0)) := hown
      clear hown
      go_wp2
      clear xr yr hBw
      go_loopw [5, 7] (fun s5 s7 wr => ∃ k : Nat, k ≤ lb.length ∧ s7 = .int .i64 k ∧ OwnsI wr (w.heap.size + 1 + 1) s5 (uniI (la.map TurnD.at_) ((lb.map TurnD.at_).take k)) ∧ Below (w.heap.size + 1 + 1) wA wr) (fun _ s7 _ => lb.length - (intOf s7).toNat)
      case atStart => exact ⟨0, by omega, rfl, hown0, hBr⟩
      case round =>
        clear hown0 hBr hsW
        obtain ⟨k, hk2, rfl, hown, hBr⟩ := hrel
        have hsW := hBr.size
        have hBw := hBA.trans (hBr.mono (show w.heap.size ≤ w.heap.size + 1 + 1 by omega))
        obtain ⟨wr2, hwr2⟩ : ∃ x : World, x = wr := ⟨_, rfl⟩
        subst hwr2
        have xr : wr2.cell? ⟨w.heap.size, 0, none⟩ = some (.slice (some ⟨ba, oa, none⟩) la.length cap) := (hBr.cell (p := ⟨w.heap.size, 0, none⟩) (show w.heap.size < w.heap.size + 1 + 1 by omega)).trans x0
        have yr : wr2.cell? ⟨w.heap.size + 1, 0, none⟩ = some (.slice (some ⟨bb, ob, none⟩) lb.length capb) := (hBr.cell (p := ⟨w.heap.size + 1, 0, none⟩) (show w.heap.size + 1 < w.heap.size + 1 + 1 by omega)).trans y0
        obtain ⟨a6, n6, c6, rfl⟩ := row_shape3 hown
        by_cases hlt2 : k < lb.length
        · obtain ⟨x, hx⟩ : ∃ x, lb[k]? = some x := ⟨_, List.getElem?_eq_getElem hlt2⟩
          have c0 := (hBw.cell (p := ⟨bb, ob + k * 4, none⟩) hbb).trans (HCb.out k x hx).1
          have HS : Hid (uniI (la.map TurnD.at_) ((lb.map TurnD.at_).take (k + 1)) = insI (uniI (la.map TurnD.at_) ((lb.map TurnD.at_).take k)) x.at_) := uniI_take (ats_at hx)
          have hpos : 0 < (uniI (la.map TurnD.at_) ((lb.map TurnD.at_).take k)).length := uniI_pos (by simp; omega)
          have hlen : (uniI (la.map TurnD.at_) ((lb.map TurnD.at_).take k)).length ≤ 1200 := by
            have := uniI_len (A := la.map TurnD.at_) (B := (lb.map TurnD.at_).take k)
            simp at this
            omega
          have hup : (uniI (la.map TurnD.at_) ((lb.map TurnD.at_).take k)).Pairwise (· < ·) := uniI_up (ats_up HTa.out.up)
          generalize uniI (la.map TurnD.at_) ((lb.map TurnD.at_).take k) = L at *
          have hI := fun w2 h1 h2 => spec_l03Ahead L (.slice a6 n6 c6) x.at_ (w.heap.size + 1 + 1) w2 h1 h2 hpos hlen hup
          clear hx
          go_wp2_with fail
          refine (hI _ hown (by omega)).mono ?_
          rintro e w2 ⟨v2, rfl, hown2, hb2⟩
          have hB2 : Below (w.heap.size + 1 + 1) wA w2 := hBr.trans hb2
          have HO : Hid (OwnsI w2 (w.heap.size + 1 + 1) v2 (uniI (la.map TurnD.at_) ((lb.map TurnD.at_).take (k + 1)))) := by simp only [Hid]; rw [HS.out]; exact hown2
          obtain ⟨a7, n7, c7, rfl⟩ := row_shape3 hown2
          clear hown2 hown hI hb2 hup hpos hlen
          go_wp2
          go_roundw
          case rel => exact ⟨k + 1, by omega, by go_num, HO.out, hB2⟩
          case measure => simp [intOf]; omega
        · obtain rfl : k = lb.length := by omega
          rw [show (lb.map TurnD.at_).take lb.length = lb.map TurnD.at_ by rw [← List.length_map (f := TurnD.at_), List.take_length]] at hown
          have HU : Hid (uniI (la.map TurnD.at_) (lb.map TurnD.at_) = uniT la lb) := rfl
          rw [HU.out] at hown
          clear HU
          obtain ⟨D, hD⟩ : ∃ D, diffR la lb = D := ⟨_, rfl⟩
          obtain ⟨P, hP⟩ : ∃ P, piecesD la lb (uniT la lb) = P := ⟨_, rfl⟩
          have HDD : Hid (diffR la lb = (foldS P).1) := by simp only [Hid]; rw [← hP]; rfl
          have HPl : Hid (P.length = (uniT la lb).length) := by simp only [Hid]; rw [← hP, pieces_len]
          have HPa : Hid (∀ (k : Nat) x, (uniT la lb)[k]? = some x → P[k]? = some ⟨x, endOf (uniT la lb) k, offAt la x != offAt lb x⟩) := fun k x h => by rw [← hP]; exact pieces_at h
          have hUl := uniT_len HTa.out HTb.out
          have HLow : Hid (∀ (k : Nat) n, (uniT la lb)[k]? = some n → -62135596800 ≤ n ∧ n ≤ 253402300799) := fun k n h => uni_low HTa.out HTb.out h
          clear hD hP
          have hpos : 0 < (uniT la lb).length := uniI_pos (by simp; omega)
          generalize uniT la lb = U at *
          obtain ⟨g, c7, e7, hcap, hg, hgb, hcell⟩ := hown.open hpos
          injection e7 with e71 e72 e73
          subst e71 e72 e73
          have HCU : Hid (∀ (i : Nat) x, U[i]? = some x → wr2.cell? ⟨g, i, none⟩ = some (.int .i64 x)) := hcell
          clear hcell hpos
          have hE2 : OwnsS (wr2.alloc (.cells #[] 86)) wr2.heap.size (.slice (some ⟨wr2.heap.size, 0, none⟩) 0 0) (foldS (P.take 0)).1 := ⟨rfl, .inr ⟨wr2.heap.size, 0, #[], rfl, Nat.le_refl _, World.alloc_heap_new wr2 _, Nat.le_refl _, by unfold maxLen; omega, rfl, rfl⟩⟩
          have hsw1 : w.heap.size + 1 < wr2.heap.size := World.block_lt_of_cell? _ _ yr
          go_wp2
          go_loopw [8, 9, 10] (fun s8 s9 s10 wq => ∃ k : Nat, k ≤ U.length ∧ s10 = .int .i64 k ∧ s9 = .bool (foldS (P.take k)).2 ∧ OwnsS wq wr2.heap.size s8 (foldS (P.take k)).1 ∧ Below wr2.heap.size wr2 wq) (fun _ _ s10 _ => U.length - (intOf s10).toNat)
          case atStart => exact ⟨0, by omega, rfl, rfl, hE2, (Below.refl _ _).alloc (Nat.le_refl _) _⟩
          case round =>
            clear hE2
            obtain ⟨wq, hwq⟩ : ∃ x : World, x = wr := ⟨_, rfl⟩
            subst hwq
            obtain ⟨k, hk3, rfl, rfl, hown3, hBq⟩ := hrel
            have hsQ := hBq.size
            have hBwq := hBw.trans (hBq.mono hBw.size)
            have xq := keepC hBq xr
            have yq := keepC hBq yr
            obtain ⟨a8, n8, c8, rfl⟩ := row_shape3 hown3
            by_cases hlt3 : k < U.length
            · obtain ⟨x, hx⟩ : ∃ x, U[k]? = some x := ⟨_, List.getElem?_eq_getElem hlt3⟩
              have cx := keepC hBq (HCU.out k x hx)
              obtain ⟨x1, x2⟩ := HLow.out k x hx
              have hp := HPa.out k x hx
              have HF := foldS_take hp
              obtain ⟨hsome, hflen⟩ := foldS_some P k (by rw [HPl.out]; omega)
              obtain ⟨ta, hta, ea⟩ := off_cnt HTa.out x1
              obtain ⟨tb, htb, eb⟩ := off_cnt HTb.out x1
              have ka := (hBwq.cell (p := ⟨ba, _, none⟩) hba).trans (HCa.out _ ta hta).2
              have kb := (hBwq.cell (p := ⟨bb, _, none⟩) hbb).trans (HCb.out _ tb htb).2
              have hIa := fun w (h : SeqAt w (some ⟨ba, oa, none⟩) 4 (la.map TurnD.cs)) => spec_l03At la (some ⟨ba, oa, none⟩) cap x w h HTa.out x1
              have hIb := fun w (h : SeqAt w (some ⟨bb, ob, none⟩) 4 (lb.map TurnD.cs)) => spec_l03At lb (some ⟨bb, ob, none⟩) capb x w h HTb.out x1
              have ja := (List.getElem?_eq_some_iff.mp hta).1
              have jb := (List.getElem?_eq_some_iff.mp htb).1
              rw [ea, eb] at HF
              clear ea eb hta htb hp
              generalize cntT la x - 1 = i at *
              generalize cntT lb x - 1 = j at *
              have hAq := hA.below hBwq
              have hAbq := hAb.below hBwq
              have cA : ∀ dd os, Calls Try.prog _ _ (grow (redrawn wq dd) os) fun e w'' => e = .returned (.int .i64 i) ∧ ∃ p : Regrown, w'' = grow (redrawn wq p.d) p.os := fun dd os => Calls.regrown_of (hIa _ (hAq.below (below_regrown wq dd os)))
              have cB : ∀ dd os, Calls Try.prog _ _ (grow (redrawn wq dd) os) fun e w'' => e = .returned (.int .i64 j) ∧ ∃ p : Regrown, w'' = grow (redrawn wq p.d) p.os := fun dd os => Calls.regrown_of (hIb _ (hAbq.below (below_regrown wq dd os)))
              have q0 := cell_regrown xq
              have q1 := cell_regrown yq
              have q2 := cell_regrown cx
              have q3 := cell_regrown ka
              have q4 := cell_regrown kb
              have bi : (0 : Int) ≤ (i : Int) := by omega
              have bi2 : (i : Int) < (la.length : Int) := by omega
              have bj : (0 : Int) ≤ (j : Int) := by omega
              have bj2 : (j : Int) < (lb.length : Int) := by omega
              have bk : (0 : Int) ≤ (k : Int) := by omega
              have bk2 : (k : Int) < (U.length : Int) := by omega
              obtain ⟨u, hu⟩ : ∃ u, (ta.offset != tb.offset) = u := ⟨_, rfl⟩
              rw [hu] at HF
              have HFF : Hid (foldS (P.take (k + 1)) = stepS (foldS (P.take k)) ⟨x, endOf U k, u⟩) := HF
              clear HF hIa hIb
              obtain ⟨⟨X, ws⟩, hX⟩ : ∃ R, foldS (P.take k) = R := ⟨_, rfl⟩
              rw [hX] at HFF hown3 hsome hflen
              rw [hX]
              simp only at hown3 hsome hflen
              clear hX
              by_cases hl4 : k + 1 < U.length
              · obtain ⟨y, hy⟩ : ∃ y, U[k + 1]? = some y := ⟨_, List.getElem?_eq_getElem hl4⟩
                have cy := keepC hBq (HCU.out (k + 1) y hy)
                obtain ⟨z1, z2⟩ := HLow.out (k + 1) y hy
                rw [show endOf U k = y - 1 by unfold endOf; rw [hy]] at HFF
                clear hy
                cases u
                · have HG : Hid (foldS (P.take (k + 1)) = (X, false)) := HFF.out.trans (step_no rfl)
                  clear hsome HFF
                  go_wp2_with fail
                  refine wp_region_quiet_below (by kernel_rfl) (by kernel_rfl) ?_
                  repeat (quiet_step ((go_at_call 43; first | with_reducible exact cA _ _ | with_reducible exact cB _ _)))
                  refine wpQuiet_nil ?_
                  intro w3 hw3
                  obtain ⟨⟨dq, osq⟩, hw3'⟩ := hw3
                  have hb3 : Below wq.heap.size wq w3 := hw3' ▸ below_regrown wq dq osq
                  have hB3 : Below wr2.heap.size wr2 w3 := hBq.trans (hb3.mono hBq.size)
                  have hs3 := hb3.size
                  have hown4 : OwnsS w3 wr2.heap.size (.slice a8 n8 c8) X := owns_below hown3 hb3
                  have cx3 := keepC hb3 cx
                  clear hw3' hb3 q0 q1 q2 q3 q4 cA cB
                  go_wp2
                  go_roundw
                  case rel => exact ⟨k + 1, by omega, by go_num, by rw [HG.out], by rw [HG.out]; exact hown4, hB3⟩
                  case measure => simp [intOf]; omega
                · cases ws
                  · have HG : Hid (foldS (P.take (k + 1)) = (X ++ [⟨x, y - 1⟩], true)) := HFF.out.trans (step_new rfl rfl)
                    clear hsome HFF
                    go_wp2_with fail
                    refine wp_region_quiet_below (by kernel_rfl) (by kernel_rfl) ?_
                    repeat (quiet_step ((go_at_call 43; first | with_reducible exact cA _ _ | with_reducible exact cB _ _)))
                    refine wpQuiet_nil ?_
                    intro w3 hw3
                    obtain ⟨⟨dq, osq⟩, hw3'⟩ := hw3
                    have hb3 : Below wq.heap.size wq w3 := hw3' ▸ below_regrown wq dq osq
                    have hB3 : Below wr2.heap.size wr2 w3 := hBq.trans (hb3.mono hBq.size)
                    have hs3 := hb3.size
                    have hown4 : OwnsS w3 wr2.heap.size (.slice a8 n8 c8) X := owns_below hown3 hb3
                    have cx3 := keepC hb3 cx
                    clear hw3' hb3 q0 q1 q2 q3 q4 cA cB
                    go_wp2_with (first
                      | (at_builtin; refine wpList_append_own _ rfl _ _ 47 rfl wr2.heap.size 86 s0 (.agg #[.int .i64 0, .int .i64 0]) 2 16 Try.underlying47 hs hy0 hy1 hy2 rfl (by decide) _ _ _ rfl (World.ownsRow.alloc hown4 _) ⟨w3.heap.size, 0, none⟩ 1 1 [.int .i64 x, .int .i64 (y - 1)] rfl rfl ?c1a ?c2a ?c3a ?c4a ?c5a ?_)
                      | fail)
                    case c1a => exact cells_new _ [.int .i64 x, .int .i64 (y - 1)] _
                    case c2a => intro u hu; simp at hu; rcases hu with rfl | rfl <;> rfl
                    case c3a => unfold maxLen; omega
                    case c4a => omega
                    case c5a => simp; omega
                    intro v' w4 hown5 hgrow _
                    have hB4 : Below wr2.heap.size wr2 w4 := (hB3.alloc (by omega) _).grown hgrow (by simp; omega) (fun j hj => (hown4.lt j hj).1)
                    have HO : Hid (OwnsS w4 wr2.heap.size v' (X ++ [⟨x, y - 1⟩])) := OwnsS.add (p := ⟨x, y - 1⟩) hown5
                    clear hgrow hown5 hown4 hown3
                    go_wp2
                    go_roundw
                    case rel => exact ⟨k + 1, by omega, by go_num, by rw [HG.out], by rw [HG.out]; exact HO.out, hB4⟩
                    case measure => simp [intOf]; omega
                  · obtain ⟨n, hn⟩ : ∃ n, X.length = n + 1 := ⟨X.length - 1, by have := List.length_pos_iff.mpr (hsome rfl); omega⟩
                    obtain ⟨s, hsx⟩ : ∃ s, X[n]? = some s := ⟨_, List.getElem?_eq_getElem (by omega)⟩
                    have HG : Hid (foldS (P.take (k + 1)) = (X.set n ⟨s.lo, y - 1⟩, true)) := HFF.out.trans (step_grow rfl rfl hn hsx)
                    obtain ⟨g8, cap8, e8, hg8⟩ := hown3.shape hn
                    injection e8 with e81 e82 e83
                    subst e81 e82 e83
                    have HN : Hid (X.length = n + 1) := hn
                    have hw1 : IntKind.i64.wrap ((n : Int) + 1 - 1) = n := by rw [show (n : Int) + 1 - 1 = n by omega]; exact wrap_small _ (by omega) (by omega)
                    have HX : Hid (X[n]? = some s) := hsx
                    have hn12 : n ≤ 1200 := by omega
                    clear hsome HFF hn hsx
                    go_wp2_with fail
                    refine wp_region_quiet_below (by kernel_rfl) (by kernel_rfl) ?_
                    repeat (quiet_step ((go_at_call 43; first | with_reducible exact cA _ _ | with_reducible exact cB _ _)))
                    refine wpQuiet_nil ?_
                    intro w3 hw3
                    obtain ⟨⟨dq, osq⟩, hw3'⟩ := hw3
                    have hb3 : Below wq.heap.size wq w3 := hw3' ▸ below_regrown wq dq osq
                    have hB3 : Below wr2.heap.size wr2 w3 := hBq.trans (hb3.mono hBq.size)
                    have hs3 := hb3.size
                    have hown4 : OwnsS w3 wr2.heap.size (.slice (some ⟨g8, 0, none⟩) (n + 1) c8) X := owns_below hown3 hb3
                    have cx3 := keepC hb3 cx
                    clear hw3' hb3 q0 q1 q2 q3 q4 cA cB
                    obtain ⟨f1, f2, f3⟩ := hown4.last HN.out HX.out (y - 1)
                    have hB4 : Below wr2.heap.size wr2 (w3.setCell ⟨g8, n * 2 + 1, none⟩ (.int .i64 (y - 1))) := hB3.setCell hg8 _
                    have HO : Hid (OwnsS (w3.setCell ⟨g8, n * 2 + 1, none⟩ (.int .i64 (y - 1))) wr2.heap.size (.slice (some ⟨g8, 0, none⟩) (n + 1) c8) (X.set n ⟨s.lo, y - 1⟩)) := f3
                    clear f3 hown4 hown3
                    go_wp2
                    go_roundw
                    case rel => exact ⟨k + 1, by omega, by go_num, by rw [HG.out], by rw [HG.out]; exact HO.out, hB4⟩
                    case measure => simp [intOf]; omega
              · rw [show endOf U k = 253402300799 by unfold endOf; rw [List.getElem?_eq_none (by omega)]] at HFF
                cases u
                · have HG : Hid (foldS (P.take (k + 1)) = (X, false)) := HFF.out.trans (step_no rfl)
                  clear hsome HFF
                  go_wp2_with fail
                  refine wp_region_quiet_below (by kernel_rfl) (by kernel_rfl) ?_
                  repeat (quiet_step ((go_at_call 43; first | with_reducible exact cA _ _ | with_reducible exact cB _ _)))
                  refine wpQuiet_nil ?_
                  intro w3 hw3
                  obtain ⟨⟨dq, osq⟩, hw3'⟩ := hw3
                  have hb3 : Below wq.heap.size wq w3 := hw3' ▸ below_regrown wq dq osq
                  have hB3 : Below wr2.heap.size wr2 w3 := hBq.trans (hb3.mono hBq.size)
                  have hs3 := hb3.size
                  have hown4 : OwnsS w3 wr2.heap.size (.slice a8 n8 c8) X := owns_below hown3 hb3
                  have cx3 := keepC hb3 cx
                  clear hw3' hb3 q0 q1 q2 q3 q4 cA cB
                  go_wp2
                  go_roundw
                  case rel => exact ⟨k + 1, by omega, by go_num, by rw [HG.out], by rw [HG.out]; exact hown4, hB3⟩
                  case measure => simp [intOf]; omega
                · cases ws
                  · have HG : Hid (foldS (P.take (k + 1)) = (X ++ [⟨x, 253402300799⟩], true)) := HFF.out.trans (step_new rfl rfl)
                    clear hsome HFF
                    go_wp2_with fail
                    refine wp_region_quiet_below (by kernel_rfl) (by kernel_rfl) ?_
                    repeat (quiet_step ((go_at_call 43; first | with_reducible exact cA _ _ | with_reducible exact cB _ _)))
                    refine wpQuiet_nil ?_
                    intro w3 hw3
                    obtain ⟨⟨dq, osq⟩, hw3'⟩ := hw3
                    have hb3 : Below wq.heap.size wq w3 := hw3' ▸ below_regrown wq dq osq
                    have hB3 : Below wr2.heap.size wr2 w3 := hBq.trans (hb3.mono hBq.size)
                    have hs3 := hb3.size
                    have hown4 : OwnsS w3 wr2.heap.size (.slice a8 n8 c8) X := owns_below hown3 hb3
                    have cx3 := keepC hb3 cx
                    clear hw3' hb3 q0 q1 q2 q3 q4 cA cB
                    go_wp2_with (first
                      | (at_builtin; refine wpList_append_own _ rfl _ _ 47 rfl wr2.heap.size 86 s0 (.agg #[.int .i64 0, .int .i64 0]) 2 16 Try.underlying47 hs hy0 hy1 hy2 rfl (by decide) _ _ _ rfl (World.ownsRow.alloc hown4 _) ⟨w3.heap.size, 0, none⟩ 1 1 [.int .i64 x, .int .i64 (253402300799)] rfl rfl ?c1b ?c2b ?c3b ?c4b ?c5b ?_)
                      | fail)
                    case c1b => exact cells_new _ [.int .i64 x, .int .i64 (253402300799)] _
                    case c2b => intro u hu; simp at hu; rcases hu with rfl | rfl <;> rfl
                    case c3b => unfold maxLen; omega
                    case c4b => omega
                    case c5b => simp; omega
                    intro v' w4 hown5 hgrow _
                    have hB4 : Below wr2.heap.size wr2 w4 := (hB3.alloc (by omega) _).grown hgrow (by simp; omega) (fun j hj => (hown4.lt j hj).1)
                    have HO : Hid (OwnsS w4 wr2.heap.size v' (X ++ [⟨x, 253402300799⟩])) := OwnsS.add (p := ⟨x, 253402300799⟩) hown5
                    clear hgrow hown5 hown4 hown3
                    go_wp2
                    go_roundw
                    case rel => exact ⟨k + 1, by omega, by go_num, by rw [HG.out], by rw [HG.out]; exact HO.out, hB4⟩
                    case measure => simp [intOf]; omega
                  · obtain ⟨n, hn⟩ : ∃ n, X.length = n + 1 := ⟨X.length - 1, by have := List.length_pos_iff.mpr (hsome rfl); omega⟩
                    obtain ⟨s, hsx⟩ : ∃ s, X[n]? = some s := ⟨_, List.getElem?_eq_getElem (by omega)⟩
                    have HG : Hid (foldS (P.take (k + 1)) = (X.set n ⟨s.lo, 253402300799⟩, true)) := HFF.out.trans (step_grow rfl rfl hn hsx)
                    obtain ⟨g8, cap8, e8, hg8⟩ := hown3.shape hn
                    injection e8 with e81 e82 e83
                    subst e81 e82 e83
                    have HN : Hid (X.length = n + 1) := hn
                    have hw1 : IntKind.i64.wrap ((n : Int) + 1 - 1) = n := by rw [show (n : Int) + 1 - 1 = n by omega]; exact wrap_small _ (by omega) (by omega)
                    have HX : Hid (X[n]? = some s) := hsx
                    have hn12 : n ≤ 1200 := by omega
                    clear hsome HFF hn hsx
                    go_wp2_with fail
                    refine wp_region_quiet_below (by kernel_rfl) (by kernel_rfl) ?_
                    repeat (quiet_step ((go_at_call 43; first | with_reducible exact cA _ _ | with_reducible exact cB _ _)))
                    refine wpQuiet_nil ?_
                    intro w3 hw3
                    obtain ⟨⟨dq, osq⟩, hw3'⟩ := hw3
                    have hb3 : Below wq.heap.size wq w3 := hw3' ▸ below_regrown wq dq osq
                    have hB3 : Below wr2.heap.size wr2 w3 := hBq.trans (hb3.mono hBq.size)
                    have hs3 := hb3.size
                    have hown4 : OwnsS w3 wr2.heap.size (.slice (some ⟨g8, 0, none⟩) (n + 1) c8) X := owns_below hown3 hb3
                    have cx3 := keepC hb3 cx
                    clear hw3' hb3 q0 q1 q2 q3 q4 cA cB
                    obtain ⟨f1, f2, f3⟩ := hown4.last HN.out HX.out (253402300799)
                    have hB4 : Below wr2.heap.size wr2 (w3.setCell ⟨g8, n * 2 + 1, none⟩ (.int .i64 (253402300799))) := hB3.setCell hg8 _
                    have HO : Hid (OwnsS (w3.setCell ⟨g8, n * 2 + 1, none⟩ (.int .i64 (253402300799))) wr2.heap.size (.slice (some ⟨g8, 0, none⟩) (n + 1) c8) (X.set n ⟨s.lo, 253402300799⟩)) := f3
                    clear f3 hown4 hown3
                    go_wp2
                    go_roundw
                    case rel => exact ⟨k + 1, by omega, by go_num, by rw [HG.out], by rw [HG.out]; exact HO.out, hB4⟩
                    case measure => simp [intOf]; omega
            · obtain rfl : k = U.length := by omega
              have HR : Hid (P.take U.length = P) := by simp only [Hid]; rw [← HPl.out, List.take_length]
              rw [HR.out] at hown3
              go_wp2
              go_ret
              exact ⟨_, rfl, by rw [HDD.out]; exact owns_mono hown3 hBw.size, hBwq⟩
end Go.Proofs.Ytjfonbnmdcpepaa
