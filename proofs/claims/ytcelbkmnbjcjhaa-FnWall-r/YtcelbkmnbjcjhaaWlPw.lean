/- Packed: WlLaw WWall. -/
import Derived.Test.YtcelbkmnbjcjhaaDw1w
import Derived.Test.YtcelbkmnbjcjhaaSmBw
import Derived.Test.YtcelbkmnbjcjhaaTabPw
import Derived.Test.YtcelbkmnbjcjhaaStrPw
import Derived.Lib.QuietBelow
namespace Go.Proofs.Ytcelbkmnbjcjhaa
open Go.RowKit

theorem wall_bd {l : List TurnD} {a N : Int} (h : wallD l a = (N, 0)) : (-62135596800 ≤ a ∧ a ≤ 253402300799) ∧ (-62135596800 ≤ N ∧ N ≤ 253402300799) := by
  unfold wallD at h
  split at h
  · rename_i hh
    refine ⟨tim_of hh.2, ?_⟩
    unfold timeD at h
    split at h
    · rename_i hN
      have := (Prod.mk.inj h).1
      subst this
      exact tim_of hN
    · cases (Prod.mk.inj h).2
  · cases (Prod.mk.inj h).2
theorem OwnsT.tab {w : World} {B n : Nat} {v : Value} {T : List TurnD} (h : OwnsT w B v T) (hn : T.length = n) : ∃ a c, v = .slice a n c ∧ TabAt w (.agg #[.slice a n c]) T := by
  obtain ⟨a, c, h1, h2⟩ := h.seq
  exact ⟨a, c, by rw [h1, hn], a, c, by rw [hn], h2⟩
/-- what is there between the questions. -/
structure WMid (b5 b7 : Nat) (bt : Option Addr) (n ct : Nat) (N cd : Int) (T : List TurnD) (a1 : Option Addr) (len1 : Nat) (w wx : World) : Prop where
  c : wx.cell? ⟨b5, 0, none⟩ = some (.slice bt n ct)
  d : wx.cell? ⟨b7, 0, none⟩ = some (.int .i64 N)
  e : wx.cell? ⟨b7, 1, none⟩ = some (.int .i64 cd)
  t : TabAt wx (.agg #[.slice bt n ct]) T
  r : RowOf wx a1 len1
  b : Below w.heap.size w wx
structure WEnd (a1 : Option Addr) (len1 : Nat) (w wx : World) : Prop where
  r : RowOf wx a1 len1
  b : Below w.heap.size w wx
/-- the answers at a table and an instant. -/
structure AtX (T : List TurnD) (tv : Value) (x N cd ya yo ys : Int) (yb : ByteArray) (tb : Bool) : Prop where
  wi : ∀ w, TabAt w tv T → Calls Try.prog 6 #[tv, .int .i64 x] w fun e w' => e = .returned (.agg #[.int .i64 N, .int .i64 cd]) ∧ Below w.heap.size w w'
  ws : ∀ w, TabAt w tv T → Calls Try.prog 7 #[tv, .int .i64 x] w fun e w' => e = .returned (.agg #[.int .i64 N, .int .i64 cd]) ∧ Below w.heap.size w w'
  ti : ∀ w, TabAt w tv T → Calls Try.prog 8 #[tv, .int .i64 x] w fun e w' => e = .returned (.agg #[.int .i64 ya, .int .i64 yo, .int .i64 ys, .string yb]) ∧ Below w.heap.size w w'
  ts : ∀ w, TabAt w tv T → Calls Try.prog 9 #[tv, .int .i64 x] w fun e w' => e = .returned (.agg #[.int .i64 ya, .int .i64 yo, .int .i64 ys, .string yb]) ∧ Below w.heap.size w w'
  ri : ∀ w, TabAt w tv T → Calls Try.prog 10 #[tv] w fun e w' => e = .returned (.bool tb) ∧ Below w.heap.size w w'
  rs : ∀ w, TabAt w tv T → Calls Try.prog 11 #[tv] w fun e w' => e = .returned (.bool tb) ∧ Below w.heap.size w w'
  ii : ∀ w, TabAt w tv T → Calls Try.prog 13 #[tv, .int .i64 N] w fun e w' => ∃ v', e = .returned v' ∧ w'.ownsRow w.heap.size 2 1 v' (instD T N).length ((instD T N).map (Value.int .i64)) ∧ Below w.heap.size w w'
  ok : cd = 0 → x ∈ instD T N ∧ yo = N - x ∧ (-62135596800 ≤ x ∧ x ≤ 253402300799) ∧ (-62135596800 ≤ N ∧ N ≤ 253402300799)
theorem at_x (T : List TurnD) (tv : Value) (x : Int) (hok : ∀ t ∈ T, t.ok) (hl : T.length ≤ 2000) : ∃ N cd ya yo ys yb tb, AtX T tv x N cd ya yo ys yb tb := by
  obtain ⟨⟨N, cd⟩, hw⟩ : ∃ o, wallD T x = o := ⟨_, rfl⟩
  obtain ⟨⟨ya, yo, ys, yb⟩, hy⟩ : ∃ o, turnAtD T x = o := ⟨_, rfl⟩
  refine ⟨N, cd, ya, yo, ys, yb, tabB T, ⟨fun w h => ?_, fun w h => ?_, fun w h => ?_, fun w h => ?_, fun w h => ?_, fun w h => ?_, fun w h => ?_, fun h => ?_⟩⟩
  · have := impl_WallOf T tv x w h hok (by omega); rw [hw] at this; exact this
  · have := spec_WallOf T tv x w h hok; rw [hw] at this; exact this
  · have := impl_TurnAt T tv x w h hok (by omega); rw [hy] at this; exact this
  · have := spec_TurnAt T tv x w h hok; rw [hy] at this; exact this
  · exact impl_TableRight T tv w h hok (by omega)
  · exact spec_TableRight T tv w h hok
  · exact impl_InstantsOf T tv N w h hok (by omega)
  · subst h
    have h1 := wall_inst hw
    rw [hy] at h1
    exact ⟨h1.1, h1.2, (wall_bd hw).1, (wall_bd hw).2⟩
/-- the instants at which a table shows a wall time. -/
structure AtU (U : List TurnD) (uv : Value) (m : Int) (L : List Int) : Prop where
  ii : ∀ w, TabAt w uv U → Calls Try.prog 13 #[uv, .int .i64 m] w fun e w' => ∃ v', e = .returned v' ∧ w'.ownsRow w.heap.size 2 1 v' L.length (L.map (Value.int .i64)) ∧ Below w.heap.size w w'
  is : ∀ w, TabAt w uv U → Calls Try.prog 15 #[uv, .int .i64 m] w fun e w' => ∃ v', e = .returned v' ∧ w'.ownsRow w.heap.size 2 1 v' L.length (L.map (Value.int .i64)) ∧ Below w.heap.size w w'
  wi : ∀ (i : Nat) (x : Int), L[i]? = some x → ∀ w, TabAt w uv U → Calls Try.prog 6 #[uv, .int .i64 x] w fun e w' => e = .returned (.agg #[.int .i64 m, .int .i64 0]) ∧ Below w.heap.size w w'
  up : ∀ (i : Nat) (x y : Int), L[i]? = some x → L[i + 1]? = some y → x < y
  len : L.length ≤ 600
theorem at_u (U : List TurnD) (uv : Value) (m : Int) (hok : ∀ t ∈ U, t.ok) (hl : U.length ≤ 2000) : AtU U uv m (instD U m) where
  ii w h := impl_InstantsOf U uv m w h hok (by omega)
  is w h := spec_InstantsOf U uv m w h hok
  wi i x hx w h := by
    have := impl_WallOf U uv x w h hok (by omega)
    rw [inst_wall (List.mem_of_getElem? hx)] at this
    exact this
  up i x y hx hy := by
    have hp := inst_up (l := U) m
    obtain ⟨h1, e1⟩ := List.getElem?_eq_some_iff.1 hx
    obtain ⟨h2, e2⟩ := List.getElem?_eq_some_iff.1 hy
    have := List.pairwise_iff_getElem.1 hp i (i + 1) h1 h2 (by omega)
    rw [e1, e2] at this
    exact this
  len := inst_short U m
set_option linter.unusedSimpArgs false in
set_option maxRecDepth 100000 in
set_option maxHeartbeats 8000000 in
theorem wall_walk (a0 a1 : Option Addr) (len0 cap0 len1 cap1 : Nat) (w : World) (h0 : len0 ≤ 1048576) (h1 : len1 ≤ 1048576) (r0 : RowOf w a0 len0) (r1 : RowOf w a1 len1) :
    Calls Try.prog 3 #[.slice a0 len0 cap0, .slice a1 len1 cap1] w fun e w' => e = .returned (.bool true) ∧ Below w.heap.size w w' := by
  have g0 : ¬ (1048576 : Int) < (len0 : Int) := by omega
  have g1 : ¬ (1048576 : Int) < (len1 : Int) := by omega
  have hneq := fun p1 p2 q1 q2 w => neq_outE p1 p2 q1 q2 w
  have hneqT := fun t o s b w => neq_turnE t o s b w
  have hgo := fun op x y v1 v2 w => guard_outE op x y v1 v2 w
  have hgt := fun op x y v1 v2 w => guard_turnE op x y v1 v2 w
  go_enter Try.func3, Try.ntmps3
  go_wp2_with fail
  refine (draw_TurnAt someC a0 len0 cap0 _ r0 h0).mono ?_
  intro e w1 hd
  obtain ⟨tv, T, x, rfl, O1, l1, ok1, B1⟩ := hd.ex
  clear hd r0
  obtain ⟨n, hn⟩ : ∃ n, T.length = n := ⟨_, rfl⟩
  obtain ⟨bt, ct, rfl, T1⟩ := O1.tab hn
  obtain ⟨N, cd, ya, yo, ys, yb, tb, hX⟩ := at_x T (.agg #[.slice bt n ct]) x ok1 l1
  have R1 := r1.grown B1
  clear hn r1 O1 ok1 l1
  have T2 := T1.below ((Below.refl w1.heap.size w1).alloc (Nat.le_refl _) (.cells #[.slice bt n ct] 25))
  have R2 := R1.grown ((Below.refl w1.heap.size w1).alloc (Nat.le_refl _) (.cells #[.slice bt n ct] 25))
  have B2 : Below w.heap.size w (w1.alloc (.cells #[.slice bt n ct] 25)) := B1.alloc B1.size _
  have c2 : (w1.alloc (.cells #[.slice bt n ct] 25)).cell? ⟨w1.heap.size, 0, none⟩ = some (.slice bt n ct) := by simp [go_sem]
  clear T1 R1 B1
  go_wp2_with fail
  refine (hX.wi _ T2).mono ?_
  rintro e w3 ⟨rfl, hb3⟩
  have c3 := keepC hb3 c2
  have T3 := T2.below hb3
  have R3 := R2.grown hb3
  have B3 := B2.trans (hb3.mono B2.size)
  clear hb3 c2 T2 R2 B2
  generalize w1.heap.size = b5 at *
  have hA4 := (Below.refl w3.heap.size w3).alloc (Nat.le_refl _) (.cells #[.int .i64 N, .int .i64 cd] 29)
  have c4 := keepC hA4 c3
  have T4 := T3.below hA4
  have R4 := R3.grown hA4
  have B4 : Below w.heap.size w (w3.alloc (.cells #[.int .i64 N, .int .i64 cd] 29)) := B3.alloc B3.size _
  have d4 : (w3.alloc (.cells #[.int .i64 N, .int .i64 cd] 29)).cell? ⟨w3.heap.size, 0, none⟩ = some (.int .i64 N) := by simp [go_sem]
  have e4 : (w3.alloc (.cells #[.int .i64 N, .int .i64 cd] 29)).cell? ⟨w3.heap.size, 1, none⟩ = some (.int .i64 cd) := by simp [go_sem]
  clear c3 T3 R3 B3 hA4
  go_upto_region 5 with fail
  have M4 : WMid b5 w3.heap.size bt n ct N cd T a1 len1 w (w3.alloc (.cells #[.int .i64 N, .int .i64 cd] 29)) := ⟨c4, d4, e4, T4, R4, B4⟩
  go_cut [48] from 28 to 48 (fun x wx => x = .bool false ∧ WMid b5 w3.heap.size bt n ct N cd T a1 len1 w wx)
  case first =>
    go_wp2_with fail
    refine wp_region_noPanic ?_
    refine wp_region_held_drew (S := fun w' => w'.cell? ⟨b5, 0, none⟩ = some (.slice bt n ct) ∧ w'.cell? ⟨w3.heap.size, 0, none⟩ = some (.int .i64 N) ∧ w'.cell? ⟨w3.heap.size, 1, none⟩ = some (.int .i64 cd)) (by kernel_rfl) ⟨(show (w3.alloc (.cells #[.int .i64 N, .int .i64 cd] 29)).drew.cell? ⟨b5, 0, none⟩ = _ from c4), (show (w3.alloc (.cells #[.int .i64 N, .int .i64 cd] 29)).drew.cell? ⟨w3.heap.size, 0, none⟩ = _ from d4), (show (w3.alloc (.cells #[.int .i64 N, .int .i64 cd] 29)).drew.cell? ⟨w3.heap.size, 1, none⟩ = _ from e4)⟩ (fun hHeld => ?_)
    have T5 : TabAt (w3.alloc (.cells #[.int .i64 N, .int .i64 cd] 29)).drew (.agg #[.slice bt n ct]) T := T4.below (below_drew _)
    have R5 := R4.grown (below_drew _)
    have B5 : Below w.heap.size w (w3.alloc (.cells #[.int .i64 N, .int .i64 cd] 29)).drew := B4.trans ((below_drew _).mono B4.size)
    clear c4 d4 e4 T4 R4 B4
    refine wpAnyH_take (i := 0) (v := ?v1) rfl (by kernel_rfl) (by kernel_rfl) (by kernel_rfl) (fun _ _ _ h => h) (Or.inl ⟨by kernel_rfl, ?y1⟩) hHeld ?z1
    case y1 => (intro wq hSw; (try dsimp only at hSw); go_simp; try with_reducible rfl)
    try simp only [Act.put, List.setIfInBounds_toArray, List.set_cons_zero, List.set_cons_succ]
    refine wpAnyH_take (i := 1) (v := ?v2) rfl (by kernel_rfl) (by kernel_rfl) (by kernel_rfl) (fun _ _ _ h => h) (Or.inl ⟨by kernel_rfl, ?y2⟩) hHeld ?z2
    case y2 => (intro wq hSw; (try dsimp only at hSw); go_simp; try with_reducible rfl)
    try simp only [Act.put, List.setIfInBounds_toArray, List.set_cons_zero, List.set_cons_succ]
    refine wpAnyH_take (i := 2) (v := ?v3) rfl (by kernel_rfl) (by kernel_rfl) (by kernel_rfl) (fun _ _ _ h => h) (Or.inl ⟨by kernel_rfl, ?y3⟩) hHeld ?z3
    case y3 => (intro wq hSw; (try dsimp only at hSw); go_simp; try with_reducible rfl)
    try simp only [Act.put, List.setIfInBounds_toArray, List.set_cons_zero, List.set_cons_succ]
    refine wpAnyH_ready (rs := [3]) (by kernel_rfl) (by simp) ?_
    refine AllReadyH.cons rfl (fun K hK => ?_) AllReadyH.nil
    go_simp
    refine (hX.ws _ T5).mono ?_
    rintro e v6 ⟨rfl, hb⟩
    have hH2 : (fun w' => w'.cell? ⟨b5, 0, none⟩ = some (.slice bt n ct) ∧ w'.cell? ⟨w3.heap.size, 0, none⟩ = some (.int .i64 N) ∧ w'.cell? ⟨w3.heap.size, 1, none⟩ = some (.int .i64 cd)) v6 := ⟨keepC hb hHeld.1, keepC hb hHeld.2.1, keepC hb hHeld.2.2⟩
    have T6 := T5.below hb
    have R6 := R5.grown hb
    have B6 := B5.trans (hb.mono B5.size)
    clear hb T5 R5 B5
    go_wp2_with fail
    refine hK.out _ _ hH2 (fun hHeld => ?_)
    clear hK K hH2
    try simp only [Act.put, List.setIfInBounds_toArray, List.set_cons_zero, List.set_cons_succ]
    refine wpAnyH_take (i := 4) (v := ?v4) rfl (by kernel_rfl) (by kernel_rfl) (by kernel_rfl) (fun _ _ _ h => h) (Or.inl ⟨by kernel_rfl, ?y4⟩) hHeld ?z4
    case y4 => (intro wq hSw; (try dsimp only at hSw); go_simp; try with_reducible rfl)
    try simp only [Act.put, List.setIfInBounds_toArray, List.set_cons_zero, List.set_cons_succ]
    refine wpAnyH_take (i := 5) (v := ?v5) rfl (by kernel_rfl) (by kernel_rfl) (by kernel_rfl) (fun _ _ _ h => h) (Or.inl ⟨by kernel_rfl, ?y5⟩) hHeld ?z5
    case y5 => (intro wq hSw; (try dsimp only at hSw); go_simp; try with_reducible rfl)
    try simp only [Act.put, List.setIfInBounds_toArray, List.set_cons_zero, List.set_cons_succ]
    refine wpAnyH_take (i := 6) (v := ?v6) rfl (by kernel_rfl) (by kernel_rfl) (by kernel_rfl) (fun _ _ _ h => h) (Or.inl ⟨by kernel_rfl, ?y6⟩) hHeld ?z6
    case y6 => (intro wq hSw; (try dsimp only at hSw); go_simp; try with_reducible rfl)
    try simp only [Act.put, List.setIfInBounds_toArray, List.set_cons_zero, List.set_cons_succ]
    refine wpAnyH_take (i := 7) (v := ?v7) rfl (by kernel_rfl) (by kernel_rfl) (by kernel_rfl) (fun _ _ _ h => h) (Or.inl ⟨by kernel_rfl, ?y7⟩) hHeld ?z7
    case y7 => (intro wq hSw; (try dsimp only at hSw); go_simp; try with_reducible rfl)
    try simp only [Act.put, List.setIfInBounds_toArray, List.set_cons_zero, List.set_cons_succ]
    refine wpAnyH_take (i := 9) (v := ?v8) rfl (by kernel_rfl) (by kernel_rfl) (by kernel_rfl) (fun _ _ _ h => h) (Or.inl ⟨by kernel_rfl, ?y8⟩) hHeld ?z8
    case y8 => (intro wq hSw; (try dsimp only at hSw); go_simp; try with_reducible rfl)
    try simp only [Act.put, List.setIfInBounds_toArray, List.set_cons_zero, List.set_cons_succ]
    refine wpAnyH_take (i := 10) (v := ?v9) rfl (by kernel_rfl) (by kernel_rfl) (by kernel_rfl) (fun _ _ _ h => h) (Or.inl ⟨by kernel_rfl, ?y9⟩) hHeld ?z9
    case y9 => (intro wq hSw; (try dsimp only at hSw); go_simp; try with_reducible rfl)
    try simp only [Act.put, List.setIfInBounds_toArray, List.set_cons_zero, List.set_cons_succ]
    refine wpAnyH_ready (rs := [8]) (by kernel_rfl) (by simp) ?_
    refine AllReadyH.cons rfl (fun K hK => ?_) AllReadyH.nil
    go_simp
    refine (hX.ti _ T6).mono ?_
    rintro e v7 ⟨rfl, hb⟩
    have hH2 : (fun w' => w'.cell? ⟨b5, 0, none⟩ = some (.slice bt n ct) ∧ w'.cell? ⟨w3.heap.size, 0, none⟩ = some (.int .i64 N) ∧ w'.cell? ⟨w3.heap.size, 1, none⟩ = some (.int .i64 cd)) v7 := ⟨keepC hb hHeld.1, keepC hb hHeld.2.1, keepC hb hHeld.2.2⟩
    have T7 := T6.below hb
    have R7 := R6.grown hb
    have B7 := B6.trans (hb.mono B6.size)
    clear hb T6 R6 B6
    go_wp2_with fail
    refine hK.out _ _ hH2 (fun hHeld => ?_)
    clear hK K hH2
    try simp only [Act.put, List.setIfInBounds_toArray, List.set_cons_zero, List.set_cons_succ]
    refine wpAnyH_ready (rs := [11]) (by kernel_rfl) (by simp) ?_
    refine AllReadyH.cons rfl (fun K hK => ?_) AllReadyH.nil
    go_simp
    refine (hX.ts _ T7).mono ?_
    rintro e v8 ⟨rfl, hb⟩
    have hH2 : (fun w' => w'.cell? ⟨b5, 0, none⟩ = some (.slice bt n ct) ∧ w'.cell? ⟨w3.heap.size, 0, none⟩ = some (.int .i64 N) ∧ w'.cell? ⟨w3.heap.size, 1, none⟩ = some (.int .i64 cd)) v8 := ⟨keepC hb hHeld.1, keepC hb hHeld.2.1, keepC hb hHeld.2.2⟩
    have T8 := T7.below hb
    have R8 := R7.grown hb
    have B8 := B7.trans (hb.mono B7.size)
    clear hb T7 R7 B7
    go_wp2_with fail
    refine hK.out _ _ hH2 (fun hHeld => ?_)
    clear hK K hH2
    try simp only [Act.put, List.setIfInBounds_toArray, List.set_cons_zero, List.set_cons_succ]
    refine wpAnyH_take (i := 12) (v := ?v10) rfl (by kernel_rfl) (by kernel_rfl) (by kernel_rfl) (fun _ _ _ h => h) (Or.inl ⟨by kernel_rfl, ?y10⟩) hHeld ?z10
    case y10 => (intro wq hSw; (try dsimp only at hSw); go_simp; try with_reducible rfl)
    try simp only [Act.put, List.setIfInBounds_toArray, List.set_cons_zero, List.set_cons_succ]
    refine wpAnyH_take (i := 13) (v := ?v11) rfl (by kernel_rfl) (by kernel_rfl) (by kernel_rfl) (fun _ _ _ h => h) (Or.inl ⟨by kernel_rfl, ?y11⟩) hHeld ?z11
    case y11 => (intro wq hSw; (try dsimp only at hSw); go_simp; try with_reducible rfl)
    try simp only [Act.put, List.setIfInBounds_toArray, List.set_cons_zero, List.set_cons_succ]
    refine wpAnyH_take (i := 14) (v := ?v12) rfl (by kernel_rfl) (by kernel_rfl) (by kernel_rfl) (fun _ _ _ h => h) (Or.inl ⟨by kernel_rfl, ?y12⟩) hHeld ?z12
    case y12 => (intro wq hSw; (try dsimp only at hSw); go_simp; try with_reducible rfl)
    try simp only [Act.put, List.setIfInBounds_toArray, List.set_cons_zero, List.set_cons_succ]
    refine wpAnyH_take (i := 15) (v := ?v13) rfl (by kernel_rfl) (by kernel_rfl) (by kernel_rfl) (fun _ _ _ h => h) (Or.inl ⟨by kernel_rfl, ?y13⟩) hHeld ?z13
    case y13 => (intro wq hSw; (try dsimp only at hSw); go_simp; try with_reducible rfl)
    try simp only [Act.put, List.setIfInBounds_toArray, List.set_cons_zero, List.set_cons_succ]
    refine wpAnyH_take (i := 17) (v := ?v14) rfl (by kernel_rfl) (by kernel_rfl) (by kernel_rfl) (fun _ _ _ h => h) (Or.inl ⟨by kernel_rfl, ?y14⟩) hHeld ?z14
    case y14 => (intro wq hSw; (try dsimp only at hSw); go_simp; try with_reducible rfl)
    try simp only [Act.put, List.setIfInBounds_toArray, List.set_cons_zero, List.set_cons_succ]
    refine wpAnyH_ready (rs := [16]) (by kernel_rfl) (by simp) ?_
    refine AllReadyH.cons rfl (fun K hK => ?_) AllReadyH.nil
    go_simp
    refine (hX.ri _ T8).mono ?_
    rintro e v9 ⟨rfl, hb⟩
    have hH2 : (fun w' => w'.cell? ⟨b5, 0, none⟩ = some (.slice bt n ct) ∧ w'.cell? ⟨w3.heap.size, 0, none⟩ = some (.int .i64 N) ∧ w'.cell? ⟨w3.heap.size, 1, none⟩ = some (.int .i64 cd)) v9 := ⟨keepC hb hHeld.1, keepC hb hHeld.2.1, keepC hb hHeld.2.2⟩
    have T9 := T8.below hb
    have R9 := R8.grown hb
    have B9 := B8.trans (hb.mono B8.size)
    clear hb T8 R8 B8
    go_wp2_with fail
    refine hK.out _ _ hH2 (fun hHeld => ?_)
    clear hK K hH2
    try simp only [Act.put, List.setIfInBounds_toArray, List.set_cons_zero, List.set_cons_succ]
    refine wpAnyH_ready (rs := [18]) (by kernel_rfl) (by simp) ?_
    refine AllReadyH.cons rfl (fun K hK => ?_) AllReadyH.nil
    go_simp
    refine (hX.rs _ T9).mono ?_
    rintro e v10 ⟨rfl, hb⟩
    have hH2 : (fun w' => w'.cell? ⟨b5, 0, none⟩ = some (.slice bt n ct) ∧ w'.cell? ⟨w3.heap.size, 0, none⟩ = some (.int .i64 N) ∧ w'.cell? ⟨w3.heap.size, 1, none⟩ = some (.int .i64 cd)) v10 := ⟨keepC hb hHeld.1, keepC hb hHeld.2.1, keepC hb hHeld.2.2⟩
    have T10 := T9.below hb
    have R10 := R9.grown hb
    have B10 := B9.trans (hb.mono B9.size)
    clear hb T9 R9 B9
    go_wp2_with fail
    refine hK.out _ _ hH2 (fun hHeld => ?_)
    clear hK K hH2
    try simp only [Act.put, List.setIfInBounds_toArray, List.set_cons_zero, List.set_cons_succ]
    refine wpAnyH_take (i := 19) (v := ?v15) rfl (by kernel_rfl) (by kernel_rfl) (by kernel_rfl) (fun _ _ _ h => h) (Or.inl ⟨by kernel_rfl, ?y15⟩) hHeld ?z15
    case y15 => (intro wq hSw; (try dsimp only at hSw); go_simp; try with_reducible rfl)
    try simp only [Act.put, List.setIfInBounds_toArray, List.set_cons_zero, List.set_cons_succ]
    refine wpAnyH_take (i := 20) (v := ?v16) rfl (by kernel_rfl) (by kernel_rfl) (by kernel_rfl) (fun _ _ _ h => h) (Or.inl ⟨by kernel_rfl, ?y16⟩) hHeld ?z16
    case y16 => (intro wq hSw; (try dsimp only at hSw); go_simp; try with_reducible rfl)
    try simp only [Act.put, List.setIfInBounds_toArray, List.set_cons_zero, List.set_cons_succ]
    have M10 : WMid b5 w3.heap.size bt n ct N cd T a1 len1 w v10 := ⟨hHeld.1, hHeld.2.1, hHeld.2.2, T10, R10, B10⟩
    clear T10 R10 B10
    try simp only [Act.put, List.getElem_toArray, List.getElem_cons_succ, List.getElem_cons_zero, List.setIfInBounds_toArray, List.set_cons_zero, List.set_cons_succ]
    refine wpAnyH_done (by kernel_rfl) ?_ _
    refine NoPanic.normal ?_
    clear hHeld
    go_wp2_with fail
    go_meet
    exact ⟨rfl, M10⟩
  case rest =>
    obtain ⟨rfl, M10⟩ := hcut
    obtain ⟨v10, hv10⟩ : ∃ x : World, x = wc := ⟨_, rfl⟩
    subst hv10
    clear M4 c4 d4 e4 T4 R4 B4 hneqT hgt
    generalize w3.heap.size = b7 at *
    go_upto_region 7 with fail
    obtain ⟨c10, d10, e10, T10, R10, B10⟩ := M10
    go_cut [71] from 49 to 71 (fun x wx => x = .bool false ∧ WEnd a1 len1 w wx)
    case first =>
      by_cases hcd : cd = 0
      · subst hcd
        obtain ⟨hmem, hyo, hxb, hNb⟩ := hX.ok rfl
        subst hyo
        have qs : IntKind.i64.wrap (N - x) = N - x := by rw [IntKind.wrap_i64]; omega
        have hfd : ∀ w : World, (Instr.field 32 (.agg #[.int .i64 ya, .int .i64 (N - x), .int .i64 ys, .string yb]) 1).run Try.prog w = .ok (.int .i64 (N - x)) w := fun _ => by kernel_rfl
        have HM : Hid (x ∈ instD T N) := hmem
        clear hmem
        go_wp2_with fail
        refine wp_region_noPanic ?_
        refine wp_region_held_drew (S := fun w' => w'.cell? ⟨b5, 0, none⟩ = some (.slice bt n ct) ∧ w'.cell? ⟨b7, 0, none⟩ = some (.int .i64 N) ∧ w'.cell? ⟨b7, 1, none⟩ = some (.int .i64 0)) (by kernel_rfl) ⟨(show v10.drew.cell? ⟨b5, 0, none⟩ = _ from c10), (show v10.drew.cell? ⟨b7, 0, none⟩ = _ from d10), (show v10.drew.cell? ⟨b7, 1, none⟩ = _ from e10)⟩ (fun hHeld => ?_)
        have T11 : TabAt v10.drew (.agg #[.slice bt n ct]) T := T10.below (below_drew _)
        have R11 := R10.grown (below_drew _)
        have B11 : Below w.heap.size w v10.drew := B10.trans ((below_drew _).mono B10.size)
        clear c10 d10 e10 T10 R10 B10
        refine wpAnyH_take (i := 0) (v := ?v17) rfl (by kernel_rfl) (by kernel_rfl) (by kernel_rfl) (fun _ _ _ h => h) (Or.inl ⟨by kernel_rfl, ?y17⟩) hHeld ?z17
        case y17 => (intro wq hSw; (try dsimp only at hSw); go_simp; try with_reducible rfl)
        try simp only [Act.put, List.setIfInBounds_toArray, List.set_cons_zero, List.set_cons_succ]
        refine wpAnyH_take (i := 1) (v := ?v18) rfl (by kernel_rfl) (by kernel_rfl) (by kernel_rfl) (fun _ _ _ h => h) (Or.inl ⟨by kernel_rfl, ?y18⟩) hHeld ?z18
        case y18 => (intro wq hSw; (try dsimp only at hSw); go_simp; try with_reducible rfl)
        try simp only [Act.put, List.setIfInBounds_toArray, List.set_cons_zero, List.set_cons_succ]
        refine wpAnyH_take (i := 2) (v := .bool true) rfl (by kernel_rfl) (by kernel_rfl) (by kernel_rfl) (fun _ _ _ h => h) (Or.inl ⟨by kernel_rfl, ?y19⟩) hHeld ?z19
        case y19 => (intro wq hSw; (try dsimp only at hSw); go_simp)
        try simp only [Act.put, List.setIfInBounds_toArray, List.set_cons_zero, List.set_cons_succ]
        refine wpAnyH_take (i := 3) (v := .bool true) rfl (by kernel_rfl) (by kernel_rfl) (by kernel_rfl) (fun _ _ _ h => h) (Or.inl ⟨by kernel_rfl, ?y20⟩) hHeld ?z20
        case y20 => (intro wq hSw; (try dsimp only at hSw); go_simp)
        try simp only [Act.put, List.setIfInBounds_toArray, List.set_cons_zero, List.set_cons_succ]
        refine wpAnyH_take (i := 4) (v := ?v21) rfl (by kernel_rfl) (by kernel_rfl) (by kernel_rfl) (fun _ _ _ h => h) (Or.inl ⟨by kernel_rfl, ?y21⟩) hHeld ?z21
        case y21 => (intro wq hSw; (try dsimp only at hSw); go_simp; try with_reducible rfl)
        try simp only [Act.put, List.setIfInBounds_toArray, List.set_cons_zero, List.set_cons_succ]
        refine wpAnyH_take (i := 5) (v := ?v22) rfl (by kernel_rfl) (by kernel_rfl) (by kernel_rfl) (fun _ _ _ h => h) (Or.inl ⟨by kernel_rfl, ?y22⟩) hHeld ?z22
        case y22 => (intro wq hSw; (try dsimp only at hSw); go_simp; try with_reducible rfl)
        try simp only [Act.put, List.setIfInBounds_toArray, List.set_cons_zero, List.set_cons_succ]
        refine wpAnyH_take (i := 6) (v := ?v23) rfl (by kernel_rfl) (by kernel_rfl) (by kernel_rfl) (fun _ _ _ h => h) (Or.inl ⟨by kernel_rfl, ?y23⟩) hHeld ?z23
        case y23 => (intro wq hSw; (try dsimp only at hSw); go_simp; try with_reducible rfl)
        try simp only [Act.put, List.setIfInBounds_toArray, List.set_cons_zero, List.set_cons_succ]
        refine wpAnyH_take (i := 8) (v := ?v24) rfl (by kernel_rfl) (by kernel_rfl) (by kernel_rfl) (fun _ _ _ h => h) (Or.inl ⟨by kernel_rfl, ?y24⟩) hHeld ?z24
        case y24 => (intro wq hSw; (try dsimp only at hSw); go_simp; try with_reducible rfl)
        try simp only [Act.put, List.setIfInBounds_toArray, List.set_cons_zero, List.set_cons_succ]
        refine wpAnyH_ready (rs := [7]) (by kernel_rfl) (by simp) ?_
        refine AllReadyH.cons rfl (fun K hK => ?_) AllReadyH.nil
        go_simp
        refine (hX.ii _ T11).mono ?_
        rintro e v12 ⟨z12, rfl, O12, hb⟩
        have hH2 : (fun w' => w'.cell? ⟨b5, 0, none⟩ = some (.slice bt n ct) ∧ w'.cell? ⟨b7, 0, none⟩ = some (.int .i64 N) ∧ w'.cell? ⟨b7, 1, none⟩ = some (.int .i64 0)) v12 := ⟨keepC hb hHeld.1, keepC hb hHeld.2.1, keepC hb hHeld.2.2⟩
        have T12 := T11.below hb
        have R12 := R11.grown hb
        have B12 := B11.trans (hb.mono B11.size)
        clear hb T11 R11 B11
        go_wp2_with fail
        refine hK.out _ _ hH2 (fun hHeld => ?_)
        clear hK K hH2
        try simp only [Act.put, List.setIfInBounds_toArray, List.set_cons_zero, List.set_cons_succ]
        refine wpAnyH_ready (rs := [9]) (by kernel_rfl) (by simp) ?_
        refine AllReadyH.cons rfl (fun K hK => ?_) AllReadyH.nil
        go_simp
        refine (laws_lwIn _ _ _ x _ O12 HM.out (inst_short T N)).mono ?_
        rintro e wx ⟨rfl, hwx⟩
        have hwy := hwx.symm
        clear hwx
        subst hwy
        go_wp2_with fail
        refine hK.out _ _ hHeld (fun hHeld => ?_)
        clear hK K O12
        try simp only [Act.put, List.setIfInBounds_toArray, List.set_cons_zero, List.set_cons_succ]
        refine wpAnyH_take (i := 10) (v := .bool false) rfl (by kernel_rfl) (by kernel_rfl) (by kernel_rfl) (fun _ _ _ h => h) (Or.inl ⟨by kernel_rfl, ?y25⟩) hHeld ?z25
        case y25 => (intro wq hSw; (try dsimp only at hSw); go_simp)
        try simp only [Act.put, List.setIfInBounds_toArray, List.set_cons_zero, List.set_cons_succ]
        refine wpAnyH_take (i := 11) (v := .bool false) rfl (by kernel_rfl) (by kernel_rfl) (by kernel_rfl) (fun _ _ _ h => h) (Or.inl ⟨by kernel_rfl, ?y26⟩) hHeld ?z26
        case y26 => (intro wq hSw; (try dsimp only at hSw); go_simp)
        try simp only [Act.put, List.setIfInBounds_toArray, List.set_cons_zero, List.set_cons_succ]
        refine wpAnyH_take (i := 12) (v := ?v27) rfl (by kernel_rfl) (by kernel_rfl) (by kernel_rfl) (fun _ _ _ h => h) (Or.inl ⟨by kernel_rfl, ?y27⟩) hHeld ?z27
        case y27 => (intro wq hSw; (try dsimp only at hSw); go_simp; try with_reducible rfl)
        try simp only [Act.put, List.setIfInBounds_toArray, List.set_cons_zero, List.set_cons_succ]
        refine wpAnyH_take (i := 13) (v := ?v28) rfl (by kernel_rfl) (by kernel_rfl) (by kernel_rfl) (fun _ _ _ h => h) (Or.inl ⟨by kernel_rfl, ?y28⟩) hHeld ?z28
        case y28 => (intro wq hSw; (try dsimp only at hSw); go_simp; try with_reducible rfl)
        try simp only [Act.put, List.setIfInBounds_toArray, List.set_cons_zero, List.set_cons_succ]
        refine wpAnyH_take (i := 16) (v := ?v29) rfl (by kernel_rfl) (by kernel_rfl) (by kernel_rfl) (fun _ _ _ h => h) (Or.inl ⟨by kernel_rfl, ?y29⟩) hHeld ?z29
        case y29 => (intro wq hSw; (try dsimp only at hSw); go_simp; try with_reducible rfl)
        try simp only [Act.put, List.setIfInBounds_toArray, List.set_cons_zero, List.set_cons_succ]
        refine wpAnyH_take (i := 17) (v := ?v30) rfl (by kernel_rfl) (by kernel_rfl) (by kernel_rfl) (fun _ _ _ h => h) (Or.inl ⟨by kernel_rfl, ?y30⟩) hHeld ?z30
        case y30 => (intro wq hSw; (try dsimp only at hSw); go_simp; try with_reducible rfl)
        try simp only [Act.put, List.setIfInBounds_toArray, List.set_cons_zero, List.set_cons_succ]
        refine wpAnyH_take (i := 18) (v := ?v31) rfl (by kernel_rfl) (by kernel_rfl) (by kernel_rfl) (fun _ _ _ h => h) (Or.inl ⟨by kernel_rfl, ?y31⟩) hHeld ?z31
        case y31 => (intro wq hSw; (try dsimp only at hSw); go_simp; try with_reducible rfl)
        try simp only [Act.put, List.setIfInBounds_toArray, List.set_cons_zero, List.set_cons_succ]
        refine wpAnyH_take (i := 19) (v := ?v32) rfl (by kernel_rfl) (by kernel_rfl) (by kernel_rfl) (fun _ _ _ h => h) (Or.inl ⟨by kernel_rfl, ?y32⟩) hHeld ?z32
        case y32 => (intro wq hSw; (try dsimp only at hSw); go_simp; try with_reducible rfl)
        try simp only [Act.put, List.setIfInBounds_toArray, List.set_cons_zero, List.set_cons_succ]
        refine wpAnyH_ready (rs := [14]) (by kernel_rfl) (by simp) ?_
        refine AllReadyH.cons rfl (fun K hK => ?_) AllReadyH.nil
        go_simp
        refine (hX.ti _ T12).mono ?_
        rintro e v13 ⟨rfl, hb⟩
        have hH2 : (fun w' => w'.cell? ⟨b5, 0, none⟩ = some (.slice bt n ct) ∧ w'.cell? ⟨b7, 0, none⟩ = some (.int .i64 N) ∧ w'.cell? ⟨b7, 1, none⟩ = some (.int .i64 0)) v13 := ⟨keepC hb hHeld.1, keepC hb hHeld.2.1, keepC hb hHeld.2.2⟩
        have R13 := R12.grown hb
        have B13 := B12.trans (hb.mono B12.size)
        clear hb T12 R12 B12
        go_wp2_with fail
        refine hK.out _ _ hH2 (fun hHeld => ?_)
        clear hK K hH2
        try simp only [Act.put, List.setIfInBounds_toArray, List.set_cons_zero, List.set_cons_succ]
        refine wpAnyH_take (i := 15) (v := ?v33) rfl (by kernel_rfl) (by kernel_rfl) (by kernel_rfl) (fun _ _ _ h => h) (Or.inl ⟨by kernel_rfl, ?y33⟩) hHeld ?z33
        case y33 => (intro wq hSw; (try dsimp only at hSw); go_simp; try with_reducible rfl)
        try simp only [Act.put, List.setIfInBounds_toArray, List.set_cons_zero, List.set_cons_succ]
        refine wpAnyH_take (i := 20) (v := ?v34) rfl (by kernel_rfl) (by kernel_rfl) (by kernel_rfl) (fun _ _ _ h => h) (Or.inl ⟨by kernel_rfl, ?y34⟩) hHeld ?z34
        case y34 => (intro wq hSw; (try dsimp only at hSw); go_simp; try with_reducible rfl)
        try simp only [Act.put, List.setIfInBounds_toArray, List.set_cons_zero, List.set_cons_succ]
        refine wpAnyH_take (i := 21) (v := ?v35) rfl (by kernel_rfl) (by kernel_rfl) (by kernel_rfl) (fun _ _ _ h => h) (Or.inl ⟨by kernel_rfl, ?y35⟩) hHeld ?z35
        case y35 => (intro wq hSw; (try dsimp only at hSw); go_simp; try with_reducible rfl)
        try simp only [Act.put, List.setIfInBounds_toArray, List.set_cons_zero, List.set_cons_succ]
        refine wpAnyH_take (i := 22) (v := ?v36) rfl (by kernel_rfl) (by kernel_rfl) (by kernel_rfl) (fun _ _ _ h => h) (Or.inl ⟨by kernel_rfl, ?y36⟩) hHeld ?z36
        case y36 => (intro wq hSw; (try dsimp only at hSw); go_simp; try with_reducible rfl)
        try simp only [Act.put, List.setIfInBounds_toArray, List.set_cons_zero, List.set_cons_succ]
        try simp only [Act.put, List.getElem_toArray, List.getElem_cons_succ, List.getElem_cons_zero, List.setIfInBounds_toArray, List.set_cons_zero, List.set_cons_succ]
        refine wpAnyH_done (by kernel_rfl) ?_ _
        refine NoPanic.normal ?_
        clear hHeld hX
        go_wp2_with fail
        go_meet
        exact ⟨rfl, ⟨R13, B13⟩⟩
      · have hcd' : (cd == 0) = false := by simp [hcd]
        go_wp2_with fail
        refine wp_region_noPanic ?_
        refine wp_region_held_drew (S := fun w' => w'.cell? ⟨b5, 0, none⟩ = some (.slice bt n ct) ∧ w'.cell? ⟨b7, 0, none⟩ = some (.int .i64 N) ∧ w'.cell? ⟨b7, 1, none⟩ = some (.int .i64 cd)) (by kernel_rfl) ⟨(show v10.drew.cell? ⟨b5, 0, none⟩ = _ from c10), (show v10.drew.cell? ⟨b7, 0, none⟩ = _ from d10), (show v10.drew.cell? ⟨b7, 1, none⟩ = _ from e10)⟩ (fun hHeld => ?_)
        have R13 := R10.grown (below_drew _)
        have B13 : Below w.heap.size w v10.drew := B10.trans ((below_drew _).mono B10.size)
        clear c10 d10 e10 T10 R10 B10
        refine wpAnyH_take (i := 0) (v := ?v37) rfl (by kernel_rfl) (by kernel_rfl) (by kernel_rfl) (fun _ _ _ h => h) (Or.inl ⟨by kernel_rfl, ?y37⟩) hHeld ?z37
        case y37 => (intro wq hSw; (try dsimp only at hSw); go_simp; try with_reducible rfl)
        try simp only [Act.put, List.setIfInBounds_toArray, List.set_cons_zero, List.set_cons_succ]
        refine wpAnyH_take (i := 1) (v := ?v38) rfl (by kernel_rfl) (by kernel_rfl) (by kernel_rfl) (fun _ _ _ h => h) (Or.inl ⟨by kernel_rfl, ?y38⟩) hHeld ?z38
        case y38 => (intro wq hSw; (try dsimp only at hSw); go_simp; try with_reducible rfl)
        try simp only [Act.put, List.setIfInBounds_toArray, List.set_cons_zero, List.set_cons_succ]
        refine wpAnyH_take (i := 2) (v := .bool false) rfl (by kernel_rfl) (by kernel_rfl) (by kernel_rfl) (fun _ _ _ h => h) (Or.inl ⟨by kernel_rfl, ?y39⟩) hHeld ?z39
        case y39 => (intro wq hSw; (try dsimp only at hSw); go_simp)
        try simp only [Act.put, List.setIfInBounds_toArray, List.set_cons_zero, List.set_cons_succ]
        refine wpAnyH_take (i := 3) (v := .bool false) rfl (by kernel_rfl) (by kernel_rfl) (by kernel_rfl) (fun _ _ _ h => h) (Or.inl ⟨by kernel_rfl, ?y40⟩) hHeld ?z40
        case y40 => (intro wq hSw; (try dsimp only at hSw); go_simp)
        try simp only [Act.put, List.setIfInBounds_toArray, List.set_cons_zero, List.set_cons_succ]
        refine wpAnyH_take (i := 4) (v := undef) rfl (by kernel_rfl) (by kernel_rfl) (by kernel_rfl) (fun _ _ _ h => h) (Or.inr ⟨by kernel_rfl, rfl⟩) hHeld ?z41
        try simp only [Act.put, List.setIfInBounds_toArray, List.set_cons_zero, List.set_cons_succ]
        refine wpAnyH_take (i := 5) (v := undef) rfl (by kernel_rfl) (by kernel_rfl) (by kernel_rfl) (fun _ _ _ h => h) (Or.inr ⟨by kernel_rfl, rfl⟩) hHeld ?z42
        try simp only [Act.put, List.setIfInBounds_toArray, List.set_cons_zero, List.set_cons_succ]
        refine wpAnyH_take (i := 6) (v := undef) rfl (by kernel_rfl) (by kernel_rfl) (by kernel_rfl) (fun _ _ _ h => h) (Or.inr ⟨by kernel_rfl, rfl⟩) hHeld ?z43
        try simp only [Act.put, List.setIfInBounds_toArray, List.set_cons_zero, List.set_cons_succ]
        refine wpAnyH_take (i := 7) (v := undef) rfl (by kernel_rfl) (by kernel_rfl) (by kernel_rfl) (fun _ _ _ h => h) (Or.inr ⟨by kernel_rfl, rfl⟩) hHeld ?z44
        try simp only [Act.put, List.setIfInBounds_toArray, List.set_cons_zero, List.set_cons_succ]
        refine wpAnyH_take (i := 8) (v := undef) rfl (by kernel_rfl) (by kernel_rfl) (by kernel_rfl) (fun _ _ _ h => h) (Or.inr ⟨by kernel_rfl, rfl⟩) hHeld ?z45
        try simp only [Act.put, List.setIfInBounds_toArray, List.set_cons_zero, List.set_cons_succ]
        refine wpAnyH_take (i := 9) (v := undef) rfl (by kernel_rfl) (by kernel_rfl) (by kernel_rfl) (fun _ _ _ h => h) (Or.inr ⟨by kernel_rfl, rfl⟩) hHeld ?z46
        try simp only [Act.put, List.setIfInBounds_toArray, List.set_cons_zero, List.set_cons_succ]
        refine wpAnyH_take (i := 10) (v := undef) rfl (by kernel_rfl) (by kernel_rfl) (by kernel_rfl) (fun _ _ _ h => h) (Or.inr ⟨by kernel_rfl, rfl⟩) hHeld ?z47
        try simp only [Act.put, List.setIfInBounds_toArray, List.set_cons_zero, List.set_cons_succ]
        refine wpAnyH_take (i := 11) (v := undef) rfl (by kernel_rfl) (by kernel_rfl) (by kernel_rfl) (fun _ _ _ h => h) (Or.inr ⟨by kernel_rfl, rfl⟩) hHeld ?z48
        try simp only [Act.put, List.setIfInBounds_toArray, List.set_cons_zero, List.set_cons_succ]
        refine wpAnyH_take (i := 12) (v := undef) rfl (by kernel_rfl) (by kernel_rfl) (by kernel_rfl) (fun _ _ _ h => h) (Or.inr ⟨by kernel_rfl, rfl⟩) hHeld ?z49
        try simp only [Act.put, List.setIfInBounds_toArray, List.set_cons_zero, List.set_cons_succ]
        refine wpAnyH_take (i := 13) (v := undef) rfl (by kernel_rfl) (by kernel_rfl) (by kernel_rfl) (fun _ _ _ h => h) (Or.inr ⟨by kernel_rfl, rfl⟩) hHeld ?z50
        try simp only [Act.put, List.setIfInBounds_toArray, List.set_cons_zero, List.set_cons_succ]
        refine wpAnyH_take (i := 14) (v := undef) rfl (by kernel_rfl) (by kernel_rfl) (by kernel_rfl) (fun _ _ _ h => h) (Or.inr ⟨by kernel_rfl, rfl⟩) hHeld ?z51
        try simp only [Act.put, List.setIfInBounds_toArray, List.set_cons_zero, List.set_cons_succ]
        refine wpAnyH_take (i := 15) (v := undef) rfl (by kernel_rfl) (by kernel_rfl) (by kernel_rfl) (fun _ _ _ h => h) (Or.inr ⟨by kernel_rfl, rfl⟩) hHeld ?z52
        try simp only [Act.put, List.setIfInBounds_toArray, List.set_cons_zero, List.set_cons_succ]
        refine wpAnyH_take (i := 16) (v := undef) rfl (by kernel_rfl) (by kernel_rfl) (by kernel_rfl) (fun _ _ _ h => h) (Or.inr ⟨by kernel_rfl, rfl⟩) hHeld ?z53
        try simp only [Act.put, List.setIfInBounds_toArray, List.set_cons_zero, List.set_cons_succ]
        refine wpAnyH_take (i := 17) (v := undef) rfl (by kernel_rfl) (by kernel_rfl) (by kernel_rfl) (fun _ _ _ h => h) (Or.inr ⟨by kernel_rfl, rfl⟩) hHeld ?z54
        try simp only [Act.put, List.setIfInBounds_toArray, List.set_cons_zero, List.set_cons_succ]
        refine wpAnyH_take (i := 18) (v := undef) rfl (by kernel_rfl) (by kernel_rfl) (by kernel_rfl) (fun _ _ _ h => h) (Or.inr ⟨by kernel_rfl, rfl⟩) hHeld ?z55
        try simp only [Act.put, List.setIfInBounds_toArray, List.set_cons_zero, List.set_cons_succ]
        refine wpAnyH_take (i := 19) (v := undef) rfl (by kernel_rfl) (by kernel_rfl) (by kernel_rfl) (fun _ _ _ h => h) (Or.inr ⟨by kernel_rfl, rfl⟩) hHeld ?z56
        try simp only [Act.put, List.setIfInBounds_toArray, List.set_cons_zero, List.set_cons_succ]
        refine wpAnyH_take (i := 20) (v := undef) rfl (by kernel_rfl) (by kernel_rfl) (by kernel_rfl) (fun _ _ _ h => h) (Or.inr ⟨by kernel_rfl, rfl⟩) hHeld ?z57
        try simp only [Act.put, List.setIfInBounds_toArray, List.set_cons_zero, List.set_cons_succ]
        refine wpAnyH_take (i := 21) (v := undef) rfl (by kernel_rfl) (by kernel_rfl) (by kernel_rfl) (fun _ _ _ h => h) (Or.inr ⟨by kernel_rfl, rfl⟩) hHeld ?z58
        try simp only [Act.put, List.setIfInBounds_toArray, List.set_cons_zero, List.set_cons_succ]
        refine wpAnyH_take (i := 22) (v := ?v59) rfl (by kernel_rfl) (by kernel_rfl) (by kernel_rfl) (fun _ _ _ h => h) (Or.inl ⟨by kernel_rfl, ?y59⟩) hHeld ?z59
        case y59 => (intro wq hSw; (try dsimp only at hSw); go_simp; try with_reducible rfl)
        try simp only [Act.put, List.setIfInBounds_toArray, List.set_cons_zero, List.set_cons_succ]
        try simp only [Act.put, List.getElem_toArray, List.getElem_cons_succ, List.getElem_cons_zero, List.setIfInBounds_toArray, List.set_cons_zero, List.set_cons_succ]
        refine wpAnyH_done (by kernel_rfl) ?_ _
        refine NoPanic.normal ?_
        clear hHeld hX hcd
        go_wp2_with fail
        go_meet
        exact ⟨rfl, ⟨R13, B13⟩⟩
    case rest =>
      obtain ⟨rfl, R13, B13⟩ := hcut
      obtain ⟨v13, hv13⟩ : ∃ x : World, x = wc := ⟨_, rfl⟩
      subst hv13
      clear c10 d10 e10 T10 R10 B10 hX
      go_wp2_with fail
      refine (draw_InstantsOf someC a1 len1 cap1 _ R13 h1).mono ?_
      intro e q1 hd
      obtain ⟨uv, U, m, rfl, O1, l1, ok1, hb1⟩ := hd.ex
      clear hd
      have D1 := B13.trans (hb1.mono B13.size)
      obtain ⟨nu, hn⟩ : ∃ n, U.length = n := ⟨_, rfl⟩
      obtain ⟨bu, cu, rfl, T1⟩ := O1.tab hn
      have hU := at_u U (.agg #[.slice bu nu cu]) m ok1 l1
      clear hn O1 ok1 l1 hb1 R13 B13
      have hA2 := (Below.refl q1.heap.size q1).alloc (Nat.le_refl _) (.cells #[.slice bu nu cu] 25)
      have T2 := T1.below hA2
      have D2 : Below w.heap.size w (q1.alloc (.cells #[.slice bu nu cu] 25)) := D1.alloc D1.size _
      have c2 : (q1.alloc (.cells #[.slice bu nu cu] 25)).cell? ⟨q1.heap.size, 0, none⟩ = some (.slice bu nu cu) := by simp [go_sem]
      clear T1 D1 hA2
      go_wp2_with fail
      refine (hU.ii _ T2).mono ?_
      rintro e q3 ⟨v3, rfl, O3, hb3⟩
      have c3 := keepC hb3 c2
      have T3 := T2.below hb3
      have D3 := D2.trans (hb3.mono D2.size)
      clear hb3 c2 T2 D2
      generalize q1.heap.size = b8 at *
      generalize instD U m = L at *
      obtain ⟨al, cl, rfl⟩ := ints_slice O3
      go_wp2_with fail
      refine (hU.is _ T3).mono ?_
      rintro e q4 ⟨v4, rfl, O4, hb4⟩
      have c4 := keepC hb4 c3
      have T4 := T3.below hb4
      have D4 := D3.trans (hb4.mono D3.size)
      have O5 := owns_below O3 hb4
      obtain ⟨al4, cl4, rfl⟩ := ints_slice O4
      clear hb4 c3 T3 D3 O3 O4
      obtain ⟨nl, hnl⟩ : ∃ n, L.length = n := ⟨_, rfl⟩
      have HNL : Hid (L.length = nl) := hnl
      have hlen := hU.len
      have HG : Hid (∀ (i : Nat) x, L[i]? = some x → ∃ g, al = some ⟨g, 0, none⟩ ∧ q4.cell? ⟨g, i, none⟩ = some (.int .i64 x)) := fun i x hx => by
        obtain ⟨g, c, e, hc⟩ := ints_get O5 hx
        injection e with e _ _
        exact ⟨g, e, hc⟩
      rw [hnl] at hlen
      rw [hnl]
      clear hnl O5
      go_wp2
      go_loopw [11] (fun s wr => ∃ k : Nat, k ≤ nl ∧ s = .int .i64 k ∧ Below q4.heap.size q4 wr) (fun s _ => nl - (intOf s).toNat)
      case atStart => exact ⟨0, by omega, rfl, Below.refl _ _⟩
      case round =>
        obtain ⟨wa, hwa⟩ : ∃ x : World, x = wr := ⟨_, rfl⟩
        subst hwa
        obtain ⟨k, hk, rfl, hB⟩ := hrel
        have hkn0 : (0 : Int) ≤ (k : Int) := by omega
        by_cases hlt : k < nl
        · obtain ⟨x9, hx⟩ : ∃ x, L[k]? = some x := ⟨_, List.getElem?_eq_getElem (by have := HNL.out; omega)⟩
          have hkn : (k : Int) < (nl : Int) := by omega
          obtain ⟨g, rfl, cg⟩ := HG.out k x9 hx
          have hW9 := hU.wi k x9 hx
          have c6 := keepC hB c4
          have x6 := keepC hB cg
          have T6 := T4.below hB
          by_cases hk0 : k = 0
          · subst hk0
            clear hx
            go_wp2_with fail
            refine wp_region_noPanic ?_
            refine wp_region_held_drew (S := fun w' => w'.cell? ⟨b8, 0, none⟩ = some (.slice bu nu cu) ∧ w'.cell? ⟨g, 0, none⟩ = some (.int .i64 x9)) (by kernel_rfl) ⟨(show wa.drew.cell? ⟨b8, 0, none⟩ = _ from c6), (show wa.drew.cell? ⟨g, 0, none⟩ = _ from x6)⟩ (fun hHeld => ?_)
            have T7 : TabAt wa.drew (.agg #[.slice bu nu cu]) U := T6.below (below_drew _)
            have B7 : Below q4.heap.size q4 wa.drew := hB.trans ((below_drew _).mono hB.size)
            clear c6 x6 T6 hB
            refine wpAnyH_take (i := 0) (v := ?v60) rfl (by kernel_rfl) (by kernel_rfl) (by kernel_rfl) (fun _ _ _ h => h) (Or.inl ⟨by kernel_rfl, ?y60⟩) hHeld ?z60
            case y60 => (intro wq hSw; (try dsimp only at hSw); go_simp; try with_reducible rfl)
            try simp only [Act.put, List.setIfInBounds_toArray, List.set_cons_zero, List.set_cons_succ]
            refine wpAnyH_take (i := 1) (v := ?v61) rfl (by kernel_rfl) (by kernel_rfl) (by kernel_rfl) (fun _ _ _ h => h) (Or.inl ⟨by kernel_rfl, ?y61⟩) hHeld ?z61
            case y61 => (intro wq hSw; (try dsimp only at hSw); go_simp; try with_reducible rfl)
            try simp only [Act.put, List.setIfInBounds_toArray, List.set_cons_zero, List.set_cons_succ]
            refine wpAnyH_take (i := 2) (v := ?v62) rfl (by kernel_rfl) (by kernel_rfl) (by kernel_rfl) (fun _ _ _ h => h) (Or.inl ⟨by kernel_rfl, ?y62⟩) hHeld ?z62
            case y62 => (intro wq hSw; (try dsimp only at hSw); go_simp; try with_reducible rfl)
            try simp only [Act.put, List.setIfInBounds_toArray, List.set_cons_zero, List.set_cons_succ]
            refine wpAnyH_take (i := 3) (v := ?v63) rfl (by kernel_rfl) (by kernel_rfl) (by kernel_rfl) (fun _ _ _ h => h) (Or.inl ⟨by kernel_rfl, ?y63⟩) hHeld ?z63
            case y63 => (intro wq hSw; (try dsimp only at hSw); go_simp; try with_reducible rfl)
            try simp only [Act.put, List.setIfInBounds_toArray, List.set_cons_zero, List.set_cons_succ]
            refine wpAnyH_take (i := 4) (v := ?v64) rfl (by kernel_rfl) (by kernel_rfl) (by kernel_rfl) (fun _ _ _ h => h) (Or.inl ⟨by kernel_rfl, ?y64⟩) hHeld ?z64
            case y64 => (intro wq hSw; (try dsimp only at hSw); go_simp; try with_reducible rfl)
            try simp only [Act.put, List.setIfInBounds_toArray, List.set_cons_zero, List.set_cons_succ]
            refine wpAnyH_take (i := 6) (v := ?v65) rfl (by kernel_rfl) (by kernel_rfl) (by kernel_rfl) (fun _ _ _ h => h) (Or.inl ⟨by kernel_rfl, ?y65⟩) hHeld ?z65
            case y65 => (intro wq hSw; (try dsimp only at hSw); go_simp; try with_reducible rfl)
            try simp only [Act.put, List.setIfInBounds_toArray, List.set_cons_zero, List.set_cons_succ]
            refine wpAnyH_take (i := 7) (v := ?v66) rfl (by kernel_rfl) (by kernel_rfl) (by kernel_rfl) (fun _ _ _ h => h) (Or.inl ⟨by kernel_rfl, ?y66⟩) hHeld ?z66
            case y66 => (intro wq hSw; (try dsimp only at hSw); go_simp; try with_reducible rfl)
            try simp only [Act.put, List.setIfInBounds_toArray, List.set_cons_zero, List.set_cons_succ]
            refine wpAnyH_ready (rs := [5]) (by kernel_rfl) (by simp) ?_
            refine AllReadyH.cons rfl (fun K hK => ?_) AllReadyH.nil
            go_simp
            refine (hW9 _ T7).mono ?_
            rintro e v8 ⟨rfl, hb⟩
            have hH2 : (fun w' => w'.cell? ⟨b8, 0, none⟩ = some (.slice bu nu cu) ∧ w'.cell? ⟨g, 0, none⟩ = some (.int .i64 x9)) v8 := ⟨keepC hb hHeld.1, keepC hb hHeld.2⟩
            have B8 := B7.trans (hb.mono B7.size)
            clear hb T7 B7 hW9
            go_wp2_with fail
            refine hK.out _ _ hH2 (fun hHeld => ?_)
            clear hK K hH2
            try simp only [Act.put, List.setIfInBounds_toArray, List.set_cons_zero, List.set_cons_succ]
            refine wpAnyH_take (i := 8) (v := .bool false) rfl (by kernel_rfl) (by kernel_rfl) (by kernel_rfl) (fun _ _ _ h => h) (Or.inl ⟨by kernel_rfl, ?y67⟩) hHeld ?z67
            case y67 => (intro wq hSw; (try dsimp only at hSw); go_simp)
            try simp only [Act.put, List.setIfInBounds_toArray, List.set_cons_zero, List.set_cons_succ]
            refine wpAnyH_take (i := 9) (v := .bool false) rfl (by kernel_rfl) (by kernel_rfl) (by kernel_rfl) (fun _ _ _ h => h) (Or.inl ⟨by kernel_rfl, ?y68⟩) hHeld ?z68
            case y68 => (intro wq hSw; (try dsimp only at hSw); go_simp)
            try simp only [Act.put, List.setIfInBounds_toArray, List.set_cons_zero, List.set_cons_succ]
            refine wpAnyH_take (i := 10) (v := ?v69) rfl (by kernel_rfl) (by kernel_rfl) (by kernel_rfl) (fun _ _ _ h => h) (Or.inl ⟨by kernel_rfl, ?y69⟩) hHeld ?z69
            case y69 => (intro wq hSw; (try dsimp only at hSw); go_simp; try with_reducible rfl)
            try simp only [Act.put, List.setIfInBounds_toArray, List.set_cons_zero, List.set_cons_succ]
            refine wpAnyH_take (i := 11) (v := .bool false) rfl (by kernel_rfl) (by kernel_rfl) (by kernel_rfl) (fun _ _ _ h => h) (Or.inl ⟨by kernel_rfl, ?y70⟩) hHeld ?z70
            case y70 => (intro wq hSw; (try dsimp only at hSw); go_simp; try omega)
            try simp only [Act.put, List.setIfInBounds_toArray, List.set_cons_zero, List.set_cons_succ]
            refine wpAnyH_take (i := 12) (v := .bool false) rfl (by kernel_rfl) (by kernel_rfl) (by kernel_rfl) (fun _ _ _ h => h) (Or.inl ⟨by kernel_rfl, ?y71⟩) hHeld ?z71
            case y71 => (intro wq hSw; (try dsimp only at hSw); go_simp)
            try simp only [Act.put, List.setIfInBounds_toArray, List.set_cons_zero, List.set_cons_succ]
            refine wpAnyH_take (i := 13) (v := undef) rfl (by kernel_rfl) (by kernel_rfl) (by kernel_rfl) (fun _ _ _ h => h) (Or.inr ⟨by kernel_rfl, rfl⟩) hHeld ?z72
            try simp only [Act.put, List.setIfInBounds_toArray, List.set_cons_zero, List.set_cons_succ]
            refine wpAnyH_take (i := 14) (v := undef) rfl (by kernel_rfl) (by kernel_rfl) (by kernel_rfl) (fun _ _ _ h => h) (Or.inr ⟨by kernel_rfl, rfl⟩) hHeld ?z73
            try simp only [Act.put, List.setIfInBounds_toArray, List.set_cons_zero, List.set_cons_succ]
            refine wpAnyH_take (i := 15) (v := undef) rfl (by kernel_rfl) (by kernel_rfl) (by kernel_rfl) (fun _ _ _ h => h) (Or.inr ⟨by kernel_rfl, rfl⟩) hHeld ?z74
            try simp only [Act.put, List.setIfInBounds_toArray, List.set_cons_zero, List.set_cons_succ]
            refine wpAnyH_take (i := 16) (v := undef) rfl (by kernel_rfl) (by kernel_rfl) (by kernel_rfl) (fun _ _ _ h => h) (Or.inr ⟨by kernel_rfl, rfl⟩) hHeld ?z75
            try simp only [Act.put, List.setIfInBounds_toArray, List.set_cons_zero, List.set_cons_succ]
            refine wpAnyH_take (i := 17) (v := undef) rfl (by kernel_rfl) (by kernel_rfl) (by kernel_rfl) (fun _ _ _ h => h) (Or.inr ⟨by kernel_rfl, rfl⟩) hHeld ?z76
            try simp only [Act.put, List.setIfInBounds_toArray, List.set_cons_zero, List.set_cons_succ]
            refine wpAnyH_take (i := 18) (v := undef) rfl (by kernel_rfl) (by kernel_rfl) (by kernel_rfl) (fun _ _ _ h => h) (Or.inr ⟨by kernel_rfl, rfl⟩) hHeld ?z77
            try simp only [Act.put, List.setIfInBounds_toArray, List.set_cons_zero, List.set_cons_succ]
            refine wpAnyH_take (i := 19) (v := undef) rfl (by kernel_rfl) (by kernel_rfl) (by kernel_rfl) (fun _ _ _ h => h) (Or.inr ⟨by kernel_rfl, rfl⟩) hHeld ?z78
            try simp only [Act.put, List.setIfInBounds_toArray, List.set_cons_zero, List.set_cons_succ]
            refine wpAnyH_take (i := 20) (v := undef) rfl (by kernel_rfl) (by kernel_rfl) (by kernel_rfl) (fun _ _ _ h => h) (Or.inr ⟨by kernel_rfl, rfl⟩) hHeld ?z79
            try simp only [Act.put, List.setIfInBounds_toArray, List.set_cons_zero, List.set_cons_succ]
            refine wpAnyH_take (i := 21) (v := undef) rfl (by kernel_rfl) (by kernel_rfl) (by kernel_rfl) (fun _ _ _ h => h) (Or.inr ⟨by kernel_rfl, rfl⟩) hHeld ?z80
            try simp only [Act.put, List.setIfInBounds_toArray, List.set_cons_zero, List.set_cons_succ]
            refine wpAnyH_take (i := 22) (v := undef) rfl (by kernel_rfl) (by kernel_rfl) (by kernel_rfl) (fun _ _ _ h => h) (Or.inr ⟨by kernel_rfl, rfl⟩) hHeld ?z81
            try simp only [Act.put, List.setIfInBounds_toArray, List.set_cons_zero, List.set_cons_succ]
            refine wpAnyH_take (i := 23) (v := ?v82) rfl (by kernel_rfl) (by kernel_rfl) (by kernel_rfl) (fun _ _ _ h => h) (Or.inl ⟨by kernel_rfl, ?y82⟩) hHeld ?z82
            case y82 => (intro wq hSw; (try dsimp only at hSw); go_simp; try with_reducible rfl)
            try simp only [Act.put, List.setIfInBounds_toArray, List.set_cons_zero, List.set_cons_succ]
            refine wpAnyH_take (i := 24) (v := ?v83) rfl (by kernel_rfl) (by kernel_rfl) (by kernel_rfl) (fun _ _ _ h => h) (Or.inl ⟨by kernel_rfl, ?y83⟩) hHeld ?z83
            case y83 => (intro wq hSw; (try dsimp only at hSw); go_simp; try with_reducible rfl)
            try simp only [Act.put, List.setIfInBounds_toArray, List.set_cons_zero, List.set_cons_succ]
            try simp only [Act.put, List.getElem_toArray, List.getElem_cons_succ, List.getElem_cons_zero, List.setIfInBounds_toArray, List.set_cons_zero, List.set_cons_succ]
            refine wpAnyH_done (by kernel_rfl) ?_ _
            refine NoPanic.normal ?_
            clear hHeld
            go_wp2
            go_roundw
            case rel => exact ⟨0 + 1, by omega, by go_num, B8⟩
            case measure => simp [intOf]; omega
          · obtain ⟨k, rfl⟩ : ∃ j, k = j + 1 := ⟨k - 1, by omega⟩
            obtain ⟨z9, hz⟩ : ∃ x, L[k]? = some x := ⟨_, List.getElem?_eq_getElem (by have := HNL.out; omega)⟩
            have hzx := hU.up k z9 x9 hz hx
            obtain ⟨g2, e2, cz⟩ := HG.out k z9 hz
            injection e2 with e2
            injection e2 with e2 _ _
            subst e2
            have z6 := keepC hB cz
            clear hx hz cz
            have qk : IntKind.i64.wrap (((k + 1 : Nat) : Int) - 1) = (k : Int) := by rw [IntKind.wrap_i64]; omega
            have hk2 : (k : Int) < (nl : Int) := by omega
            have hk3 : (0 : Int) ≤ (k : Int) := by omega
            have hk4 : (0 : Int) ≤ (k : Int) + 1 := by omega
            have hk5 : (k : Int) + 1 < (nl : Int) := by omega
            have qk2 : IntKind.i64.wrap (k : Int) = (k : Int) := by rw [IntKind.wrap_i64]; omega
            have qk3 : IntKind.i64.wrap ((k : Int) + 1 - 1) = (k : Int) := by rw [IntKind.wrap_i64]; omega
            have hge : ¬ (x9 ≤ z9) := by omega
            go_wp2_with fail
            refine wp_region_noPanic ?_
            refine wp_region_held_drew (S := fun w' => w'.cell? ⟨b8, 0, none⟩ = some (.slice bu nu cu) ∧ w'.cell? ⟨g, k + 1, none⟩ = some (.int .i64 x9) ∧ w'.cell? ⟨g, k, none⟩ = some (.int .i64 z9)) (by kernel_rfl) ⟨(show wa.drew.cell? ⟨b8, 0, none⟩ = _ from c6), (show wa.drew.cell? ⟨g, k + 1, none⟩ = _ from x6), (show wa.drew.cell? ⟨g, k, none⟩ = _ from z6)⟩ (fun hHeld => ?_)
            have T7 : TabAt wa.drew (.agg #[.slice bu nu cu]) U := T6.below (below_drew _)
            have B7 : Below q4.heap.size q4 wa.drew := hB.trans ((below_drew _).mono hB.size)
            clear c6 x6 z6 T6 hB
            refine wpAnyH_take (i := 0) (v := ?v84) rfl (by kernel_rfl) (by kernel_rfl) (by kernel_rfl) (fun _ _ _ h => h) (Or.inl ⟨by kernel_rfl, ?y84⟩) hHeld ?z84
            case y84 => (intro wq hSw; (try dsimp only at hSw); go_simp; try with_reducible rfl)
            try simp only [Act.put, List.setIfInBounds_toArray, List.set_cons_zero, List.set_cons_succ]
            refine wpAnyH_take (i := 1) (v := ?v85) rfl (by kernel_rfl) (by kernel_rfl) (by kernel_rfl) (fun _ _ _ h => h) (Or.inl ⟨by kernel_rfl, ?y85⟩) hHeld ?z85
            case y85 => (intro wq hSw; (try dsimp only at hSw); go_simp; try with_reducible rfl)
            try simp only [Act.put, List.setIfInBounds_toArray, List.set_cons_zero, List.set_cons_succ]
            refine wpAnyH_take (i := 2) (v := ?v86) rfl (by kernel_rfl) (by kernel_rfl) (by kernel_rfl) (fun _ _ _ h => h) (Or.inl ⟨by kernel_rfl, ?y86⟩) hHeld ?z86
            case y86 => (intro wq hSw; (try dsimp only at hSw); go_simp; try with_reducible rfl)
            try simp only [Act.put, List.setIfInBounds_toArray, List.set_cons_zero, List.set_cons_succ]
            refine wpAnyH_take (i := 3) (v := ?v87) rfl (by kernel_rfl) (by kernel_rfl) (by kernel_rfl) (fun _ _ _ h => h) (Or.inl ⟨by kernel_rfl, ?y87⟩) hHeld ?z87
            case y87 => (intro wq hSw; (try dsimp only at hSw); go_simp; try with_reducible rfl)
            try simp only [Act.put, List.setIfInBounds_toArray, List.set_cons_zero, List.set_cons_succ]
            refine wpAnyH_take (i := 4) (v := ?v88) rfl (by kernel_rfl) (by kernel_rfl) (by kernel_rfl) (fun _ _ _ h => h) (Or.inl ⟨by kernel_rfl, ?y88⟩) hHeld ?z88
            case y88 => (intro wq hSw; (try dsimp only at hSw); go_simp; try with_reducible rfl)
            try simp only [Act.put, List.setIfInBounds_toArray, List.set_cons_zero, List.set_cons_succ]
            refine wpAnyH_take (i := 6) (v := ?v89) rfl (by kernel_rfl) (by kernel_rfl) (by kernel_rfl) (fun _ _ _ h => h) (Or.inl ⟨by kernel_rfl, ?y89⟩) hHeld ?z89
            case y89 => (intro wq hSw; (try dsimp only at hSw); go_simp; try with_reducible rfl)
            try simp only [Act.put, List.setIfInBounds_toArray, List.set_cons_zero, List.set_cons_succ]
            refine wpAnyH_take (i := 7) (v := ?v90) rfl (by kernel_rfl) (by kernel_rfl) (by kernel_rfl) (fun _ _ _ h => h) (Or.inl ⟨by kernel_rfl, ?y90⟩) hHeld ?z90
            case y90 => (intro wq hSw; (try dsimp only at hSw); go_simp; try with_reducible rfl)
            try simp only [Act.put, List.setIfInBounds_toArray, List.set_cons_zero, List.set_cons_succ]
            refine wpAnyH_ready (rs := [5]) (by kernel_rfl) (by simp) ?_
            refine AllReadyH.cons rfl (fun K hK => ?_) AllReadyH.nil
            go_simp
            refine (hW9 _ T7).mono ?_
            rintro e v8 ⟨rfl, hb⟩
            have hH2 : (fun w' => w'.cell? ⟨b8, 0, none⟩ = some (.slice bu nu cu) ∧ w'.cell? ⟨g, k + 1, none⟩ = some (.int .i64 x9) ∧ w'.cell? ⟨g, k, none⟩ = some (.int .i64 z9)) v8 := ⟨keepC hb hHeld.1, keepC hb hHeld.2.1, keepC hb hHeld.2.2⟩
            have B8 := B7.trans (hb.mono B7.size)
            clear hb T7 B7 hW9
            go_wp2_with fail
            refine hK.out _ _ hH2 (fun hHeld => ?_)
            clear hK K hH2
            try simp only [Act.put, List.setIfInBounds_toArray, List.set_cons_zero, List.set_cons_succ]
            refine wpAnyH_take (i := 8) (v := .bool false) rfl (by kernel_rfl) (by kernel_rfl) (by kernel_rfl) (fun _ _ _ h => h) (Or.inl ⟨by kernel_rfl, ?y91⟩) hHeld ?z91
            case y91 => (intro wq hSw; (try dsimp only at hSw); go_simp)
            try simp only [Act.put, List.setIfInBounds_toArray, List.set_cons_zero, List.set_cons_succ]
            refine wpAnyH_take (i := 9) (v := .bool false) rfl (by kernel_rfl) (by kernel_rfl) (by kernel_rfl) (fun _ _ _ h => h) (Or.inl ⟨by kernel_rfl, ?y92⟩) hHeld ?z92
            case y92 => (intro wq hSw; (try dsimp only at hSw); go_simp)
            try simp only [Act.put, List.setIfInBounds_toArray, List.set_cons_zero, List.set_cons_succ]
            refine wpAnyH_take (i := 10) (v := ?v93) rfl (by kernel_rfl) (by kernel_rfl) (by kernel_rfl) (fun _ _ _ h => h) (Or.inl ⟨by kernel_rfl, ?y93⟩) hHeld ?z93
            case y93 => (intro wq hSw; (try dsimp only at hSw); go_simp; try with_reducible rfl)
            try simp only [Act.put, List.setIfInBounds_toArray, List.set_cons_zero, List.set_cons_succ]
            refine wpAnyH_take (i := 11) (v := .bool true) rfl (by kernel_rfl) (by kernel_rfl) (by kernel_rfl) (fun _ _ _ h => h) (Or.inl ⟨by kernel_rfl, ?y94⟩) hHeld ?z94
            case y94 => (intro wq hSw; (try dsimp only at hSw); go_simp; try omega)
            try simp only [Act.put, List.setIfInBounds_toArray, List.set_cons_zero, List.set_cons_succ]
            refine wpAnyH_take (i := 12) (v := .bool true) rfl (by kernel_rfl) (by kernel_rfl) (by kernel_rfl) (fun _ _ _ h => h) (Or.inl ⟨by kernel_rfl, ?y95⟩) hHeld ?z95
            case y95 => (intro wq hSw; (try dsimp only at hSw); go_simp)
            try simp only [Act.put, List.setIfInBounds_toArray, List.set_cons_zero, List.set_cons_succ]
            refine wpAnyH_take (i := 13) (v := ?v96) rfl (by kernel_rfl) (by kernel_rfl) (by kernel_rfl) (fun _ _ _ h => h) (Or.inl ⟨by kernel_rfl, ?y96⟩) hHeld ?z96
            case y96 => (intro wq hSw; (try dsimp only at hSw); go_simp; try with_reducible rfl)
            try simp only [Act.put, List.setIfInBounds_toArray, List.set_cons_zero, List.set_cons_succ]
            refine wpAnyH_take (i := 14) (v := ?v97) rfl (by kernel_rfl) (by kernel_rfl) (by kernel_rfl) (fun _ _ _ h => h) (Or.inl ⟨by kernel_rfl, ?y97⟩) hHeld ?z97
            case y97 => (intro wq hSw; (try dsimp only at hSw); go_simp; try with_reducible rfl)
            try simp only [Act.put, List.setIfInBounds_toArray, List.set_cons_zero, List.set_cons_succ]
            refine wpAnyH_take (i := 15) (v := ?v98) rfl (by kernel_rfl) (by kernel_rfl) (by kernel_rfl) (fun _ _ _ h => h) (Or.inl ⟨by kernel_rfl, ?y98⟩) hHeld ?z98
            case y98 => (intro wq hSw; (try dsimp only at hSw); go_simp; try with_reducible rfl)
            try simp only [Act.put, List.setIfInBounds_toArray, List.set_cons_zero, List.set_cons_succ]
            refine wpAnyH_take (i := 16) (v := ?v99) rfl (by kernel_rfl) (by kernel_rfl) (by kernel_rfl) (fun _ _ _ h => h) (Or.inl ⟨by kernel_rfl, ?y99⟩) hHeld ?z99
            case y99 => (intro wq hSw; (try dsimp only at hSw); go_simp; try with_reducible rfl)
            try simp only [Act.put, List.setIfInBounds_toArray, List.set_cons_zero, List.set_cons_succ]
            refine wpAnyH_take (i := 17) (v := ?v100) rfl (by kernel_rfl) (by kernel_rfl) (by kernel_rfl) (fun _ _ _ h => h) (Or.inl ⟨by kernel_rfl, ?y100⟩) hHeld ?z100
            case y100 => (intro wq hSw; (try dsimp only at hSw); go_simp; try with_reducible rfl)
            try simp only [Act.put, List.setIfInBounds_toArray, List.set_cons_zero, List.set_cons_succ]
            refine wpAnyH_take (i := 18) (v := ?v101) rfl (by kernel_rfl) (by kernel_rfl) (by kernel_rfl) (fun _ _ _ h => h) (Or.inl ⟨by kernel_rfl, ?y101⟩) hHeld ?z101
            case y101 => (intro wq hSw; (try dsimp only at hSw); go_simp; try with_reducible rfl)
            try simp only [Act.put, List.setIfInBounds_toArray, List.set_cons_zero, List.set_cons_succ]
            refine wpAnyH_take (i := 19) (v := ?v102) rfl (by kernel_rfl) (by kernel_rfl) (by kernel_rfl) (fun _ _ _ h => h) (Or.inl ⟨by kernel_rfl, ?y102⟩) hHeld ?z102
            case y102 => (intro wq hSw; (try dsimp only at hSw); go_simp; try with_reducible rfl)
            try simp only [Act.put, List.setIfInBounds_toArray, List.set_cons_zero, List.set_cons_succ]
            refine wpAnyH_take (i := 20) (v := ?v103) rfl (by kernel_rfl) (by kernel_rfl) (by kernel_rfl) (fun _ _ _ h => h) (Or.inl ⟨by kernel_rfl, ?y103⟩) hHeld ?z103
            case y103 => (intro wq hSw; (try dsimp only at hSw); go_simp; try with_reducible rfl)
            try simp only [Act.put, List.setIfInBounds_toArray, List.set_cons_zero, List.set_cons_succ]
            refine wpAnyH_take (i := 21) (v := ?v104) rfl (by kernel_rfl) (by kernel_rfl) (by kernel_rfl) (fun _ _ _ h => h) (Or.inl ⟨by kernel_rfl, ?y104⟩) hHeld ?z104
            case y104 => (intro wq hSw; (try dsimp only at hSw); go_simp; try with_reducible rfl)
            try simp only [Act.put, List.setIfInBounds_toArray, List.set_cons_zero, List.set_cons_succ]
            refine wpAnyH_take (i := 22) (v := ?v105) rfl (by kernel_rfl) (by kernel_rfl) (by kernel_rfl) (fun _ _ _ h => h) (Or.inl ⟨by kernel_rfl, ?y105⟩) hHeld ?z105
            case y105 => (intro wq hSw; (try dsimp only at hSw); go_simp; try with_reducible rfl)
            try simp only [Act.put, List.setIfInBounds_toArray, List.set_cons_zero, List.set_cons_succ]
            refine wpAnyH_take (i := 23) (v := ?v106) rfl (by kernel_rfl) (by kernel_rfl) (by kernel_rfl) (fun _ _ _ h => h) (Or.inl ⟨by kernel_rfl, ?y106⟩) hHeld ?z106
            case y106 => (intro wq hSw; (try dsimp only at hSw); go_simp; try with_reducible rfl)
            try simp only [Act.put, List.setIfInBounds_toArray, List.set_cons_zero, List.set_cons_succ]
            refine wpAnyH_take (i := 24) (v := ?v107) rfl (by kernel_rfl) (by kernel_rfl) (by kernel_rfl) (fun _ _ _ h => h) (Or.inl ⟨by kernel_rfl, ?y107⟩) hHeld ?z107
            case y107 => (intro wq hSw; (try dsimp only at hSw); go_simp; try with_reducible rfl)
            try simp only [Act.put, List.setIfInBounds_toArray, List.set_cons_zero, List.set_cons_succ]
            try simp only [Act.put, List.getElem_toArray, List.getElem_cons_succ, List.getElem_cons_zero, List.setIfInBounds_toArray, List.set_cons_zero, List.set_cons_succ]
            refine wpAnyH_done (by kernel_rfl) ?_ _
            refine NoPanic.normal ?_
            clear hHeld
            go_wp2
            go_roundw
            case rel => exact ⟨k + 1 + 1, by omega, by go_num, B8⟩
            case measure => simp [intOf]; omega
        · have e : k = nl := by omega
          subst e
          have DE := D4.trans (hB.mono D4.size)
          go_wp2
          go_ret
          exact ⟨rfl, DE⟩
end Go.Proofs.Ytcelbkmnbjcjhaa
namespace Go.Proofs.Ytcelbkmnbjcjhaa.wall
open Go.RowKit

set_option maxRecDepth 100000 in
set_option maxHeartbeats 1000000 in
theorem walk (a0 : Option Addr) (len0 cap0 : Nat) (a1 : Option Addr) (len1 cap1 : Nat) (w : World) (r0 : RowOf w a0 len0) (r1 : RowOf w a1 len1) :
    Calls Try.prog 3 #[.slice a0 len0 cap0, .slice a1 len1 cap1] w fun e w' => e = .returned (.bool true) ∧ Below w.heap.size w w' := by
  by_cases h0 : 1048576 < len0
  · have g0 : (1048576 : Int) < (len0 : Int) := by omega
    clear h0 r0 r1
    go_enter Try.func3, Try.ntmps3
    go_wp2
    go_ret
    exact ⟨rfl, Below.refl _ _⟩
  by_cases h1 : 1048576 < len1
  · have g0 : ¬ (1048576 : Int) < (len0 : Int) := by omega
    have g1 : (1048576 : Int) < (len1 : Int) := by omega
    clear h0 h1 r0 r1
    go_enter Try.func3, Try.ntmps3
    go_wp2
    go_ret
    exact ⟨rfl, Below.refl _ _⟩
  exact wall_walk a0 a1 len0 cap0 len1 cap1 w (by omega) (by omega) r0 r1
end Go.Proofs.Ytcelbkmnbjcjhaa.wall
