/- A turn put behind the others: the model's. -/
import Derived.Test.YtbbhpfobcelbfaaGreatDoorTsQt
import Derived.Test.YtbbhpfobcelbfaaGreatDoorHpPt
namespace Go.Proofs.YtbbhpfobcelbfaaGreatDoor
open Go.RowKit Go.Sort

/-- what l03Add tells, in memory. -/
structure AddP (T : List TurnD) (x : TurnD) (base : Nat) (v : Value) (w : World) (q : Ending) (W' : World) : Prop where
  ex : ∃ v', q = .returned (.agg #[v']) ∧ OwnsT W' base v' (addT T x) ∧ Fr (fun b => v.ownBlock = some b) w W' ∧ (v'.ownBlock = v.ownBlock ∨ ∃ g, v'.ownBlock = some g ∧ w.heap.size ≤ g)
theorem Fr.of_below_base {S : Nat → Prop} {w w' : World} (h : Below w.heap.size w w') : Fr S w w' := Fr.of_below h
theorem kept_sets {w1 : World} {base : Nat} {v : Value} {T : List TurnD} {b0 o0 : Nat} {u0 : Value} (h : OwnsT w1 base v T) (hne : v.ownBlock ≠ some b0) : OwnsT (w1.setCell ⟨b0, o0, none⟩ u0) base v T := World.ownsRow.kept h (grown_set w1 b0 o0 u0) (by cases hv : v.ownBlock with
  | none => exact .inl rfl
  | some g => exact .inr (by rw [← hv]; exact hne))
theorem fr_set {S : Nat → Prop} {w w1 : World} {b o : Nat} {u : Value} (h : Fr S w w1) (hb : w.heap.size ≤ b) : Fr S w (w1.setCell ⟨b, o, none⟩ u) := ⟨h.os, h.tape, h.output, by simpa using h.size, fun k hk hs => by
  rw [heap_setCell_other w1 ⟨b, o, none⟩ k u (fun e => by simp at e; omega)]
  exact h.block k hk hs⟩
set_option maxRecDepth 20000 in
set_option maxHeartbeats 4000000 in
theorem spec_l03Add (T : List TurnD) (x : TurnD) (v : Value) (base : Nat) (w : World) (hT : OwnsT w base v T) (hb : base ≤ w.heap.size) (hl : T.length ≤ 100000) :
    Calls Tryz.prog 165 #[.agg #[v], x.v] w fun q W' => AddP T x base v w q W' := by
  obtain ⟨i0, hi, hz0, hz1, hz2⟩ := info_parts infoTurn2
  obtain ⟨A, cap, hvv, hS⟩ := hT.seq
  obtain ⟨n, hn⟩ : ∃ n, T.length = n := ⟨_, rfl⟩
  rw [hn] at hvv hl
  subst hvv
  have hTo : w.ownsRow base 53 4 (.slice A n cap) n (T.map TurnD.cs).flatten := by unfold OwnsT at hT; rw [hn] at hT; exact hT
  have hB0 := (((Below.refl w.heap.size w).alloc (Nat.le_refl _) (.cells #[.slice A n cap] 42)).alloc (by simp) (.cells #[.int .i64 x.at_, .int .i64 x.offset, .int .i64 x.save, .string x.abbr] 53)).alloc (by simp; omega) (.cells #[.slice none 0 0] 42)
  have hlt : ∀ g, (Value.slice A n cap).ownBlock = some g → g < w.heap.size := fun g hg => (World.ownsRow.lt hT g hg).2
  have hT0 : OwnsT (((w.alloc (.cells #[.slice A n cap] 42)).alloc (.cells #[.int .i64 x.at_, .int .i64 x.offset, .int .i64 x.save, .string x.abbr] 53)).alloc (.cells #[.slice none 0 0] 42)) base (.slice A n cap) T := World.ownsRow.alloc (World.ownsRow.alloc (World.ownsRow.alloc hT _) _) _
  have hF0 : Fr (fun b => (Value.slice A n cap).ownBlock = some b) w (((w.alloc (.cells #[.slice A n cap] 42)).alloc (.cells #[.int .i64 x.at_, .int .i64 x.offset, .int .i64 x.save, .string x.abbr] 53)).alloc (.cells #[.slice none 0 0] 42)) := Fr.of_below hB0
  have r0 : (((w.alloc (.cells #[.slice A n cap] 42)).alloc (.cells #[.int .i64 x.at_, .int .i64 x.offset, .int .i64 x.save, .string x.abbr] 53)).alloc (.cells #[.slice none 0 0] 42)).cell? ⟨w.heap.size + 1 + 1, 0, none⟩ = some (.slice none 0 0) := by simp [go_sem]
  have b0 : (((w.alloc (.cells #[.slice A n cap] 42)).alloc (.cells #[.int .i64 x.at_, .int .i64 x.offset, .int .i64 x.save, .string x.abbr] 53)).alloc (.cells #[.slice none 0 0] 42)).cell? ⟨w.heap.size, 0, none⟩ = some (.slice A n cap) := by simp [go_sem]
  have p0 : (((w.alloc (.cells #[.slice A n cap] 42)).alloc (.cells #[.int .i64 x.at_, .int .i64 x.offset, .int .i64 x.save, .string x.abbr] 53)).alloc (.cells #[.slice none 0 0] 42)).cell? ⟨w.heap.size + 1, 0, none⟩ = some (.int .i64 x.at_) := by simp [go_sem]
  have p1 : (((w.alloc (.cells #[.slice A n cap] 42)).alloc (.cells #[.int .i64 x.at_, .int .i64 x.offset, .int .i64 x.save, .string x.abbr] 53)).alloc (.cells #[.slice none 0 0] 42)).cell? ⟨w.heap.size + 1, 1, none⟩ = some (.int .i64 x.offset) := by simp [go_sem]
  have p2 : (((w.alloc (.cells #[.slice A n cap] 42)).alloc (.cells #[.int .i64 x.at_, .int .i64 x.offset, .int .i64 x.save, .string x.abbr] 53)).alloc (.cells #[.slice none 0 0] 42)).cell? ⟨w.heap.size + 1, 2, none⟩ = some (.int .i64 x.save) := by simp [go_sem]
  have p3 : (((w.alloc (.cells #[.slice A n cap] 42)).alloc (.cells #[.int .i64 x.at_, .int .i64 x.offset, .int .i64 x.save, .string x.abbr] 53)).alloc (.cells #[.slice none 0 0] 42)).cell? ⟨w.heap.size + 1, 3, none⟩ = some (.string x.abbr) := by simp [go_sem]
  have fr0 : (((w.alloc (.cells #[.slice A n cap] 42)).alloc (.cells #[.int .i64 x.at_, .int .i64 x.offset, .int .i64 x.save, .string x.abbr] 53)).alloc (.cells #[.slice none 0 0] 42)).frozen? ⟨w.heap.size + 1 + 1, 0, none⟩ = false := by simp [go_sem]
  have fb0 : (((w.alloc (.cells #[.slice A n cap] 42)).alloc (.cells #[.int .i64 x.at_, .int .i64 x.offset, .int .i64 x.save, .string x.abbr] 53)).alloc (.cells #[.slice none 0 0] 42)).frozen? ⟨w.heap.size, 0, none⟩ = false := by simp [go_sem]
  have hs0 : (((w.alloc (.cells #[.slice A n cap] 42)).alloc (.cells #[.int .i64 x.at_, .int .i64 x.offset, .int .i64 x.save, .string x.abbr] 53)).alloc (.cells #[.slice none 0 0] 42)).heap.size = w.heap.size + 1 + 1 + 1 := by simp
  have hFin : ∀ (g1 cap1 : Nat) (w1 wp : World) (o : Obj), Below w.heap.size w wp → w.heap.size ≤ wp.heap.size → (((w.alloc (.cells #[.slice A n cap] 42)).alloc (.cells #[.int .i64 x.at_, .int .i64 x.offset, .int .i64 x.save, .string x.abbr] 53)).alloc (.cells #[.slice none 0 0] 42)).heap.size ≤ wp.heap.size → (∀ bb oo vv, (((w.alloc (.cells #[.slice A n cap] 42)).alloc (.cells #[.int .i64 x.at_, .int .i64 x.offset, .int .i64 x.save, .string x.abbr] 53)).alloc (.cells #[.slice none 0 0] 42)).cell? ⟨bb, oo, none⟩ = some vv → wp.cell? ⟨bb, oo, none⟩ = some vv) → (∀ bb oo, bb < (((w.alloc (.cells #[.slice A n cap] 42)).alloc (.cells #[.int .i64 x.at_, .int .i64 x.offset, .int .i64 x.save, .string x.abbr] 53)).alloc (.cells #[.slice none 0 0] 42)).heap.size → wp.frozen? ⟨bb, oo, none⟩ = (((w.alloc (.cells #[.slice A n cap] 42)).alloc (.cells #[.int .i64 x.at_, .int .i64 x.offset, .int .i64 x.save, .string x.abbr] 53)).alloc (.cells #[.slice none 0 0] 42)).frozen? ⟨bb, oo, none⟩) → w1.ownsRow base 53 4 (.slice (some ⟨g1, 0, none⟩) (n + 1) cap1) (n + 1) ((T.map TurnD.cs).flatten ++ [.int .i64 x.at_, .int .i64 x.offset, .int .i64 x.save, .string x.abbr]) → (wp.alloc o).grownBy w1 (Value.slice A n cap).ownBlock → ((Value.slice A n cap).ownBlock = some g1 ∨ w.heap.size + 1 + 1 + 1 ≤ g1) → addT T x = T ++ [x] →
      AddP T x base (.slice A n cap) w (.returned (.agg #[.slice (some ⟨g1, 0, none⟩) (n + 1) cap1])) ((w1.setCell ⟨w.heap.size, 0, none⟩ (.slice (some ⟨g1, 0, none⟩) (n + 1) cap1)).setCell ⟨w.heap.size + 1 + 1, 0, none⟩ (.slice (some ⟨g1, 0, none⟩) (n + 1) cap1)) ∧ (w1.cell? ⟨w.heap.size, 0, none⟩ = some (.slice A n cap) ∧ w1.cell? ⟨w.heap.size + 1 + 1, 0, none⟩ = some (.slice none 0 0)) ∧ (w1.frozen? ⟨w.heap.size, 0, none⟩ = false ∧ w1.frozen? ⟨w.heap.size + 1 + 1, 0, none⟩ = false) := fun g1 cap1 w1 wp o hBp hsp hsA hcp hfp hown hgr hat hadd => by
    have hnA : ∀ k, w.heap.size ≤ k → some k ≠ (Value.slice A n cap).ownBlock := fun k hk e => by have := hlt k e.symm; omega
    have hc : ∀ (k : Nat) oo vv, w.heap.size ≤ k → (((w.alloc (.cells #[.slice A n cap] 42)).alloc (.cells #[.int .i64 x.at_, .int .i64 x.offset, .int .i64 x.save, .string x.abbr] 53)).alloc (.cells #[.slice none 0 0] 42)).cell? ⟨k, oo, none⟩ = some vv → w1.cell? ⟨k, oo, none⟩ = some vv := fun k oo vv hk h => hgr.cell (keepC ((Below.refl _ wp).alloc (Nat.le_refl _) _) (hcp k oo vv h)) (hnA k hk)
    have hg1 : g1 ≠ w.heap.size ∧ g1 ≠ w.heap.size + 1 + 1 := by
      rcases hat with h | h
      · have := hlt g1 h; omega
      · omega
    have hfz : ∀ k, w.heap.size ≤ k → k < (((w.alloc (.cells #[.slice A n cap] 42)).alloc (.cells #[.int .i64 x.at_, .int .i64 x.offset, .int .i64 x.save, .string x.abbr] 53)).alloc (.cells #[.slice none 0 0] 42)).heap.size → w1.frozen? ⟨k, 0, none⟩ = (((w.alloc (.cells #[.slice A n cap] 42)).alloc (.cells #[.int .i64 x.at_, .int .i64 x.offset, .int .i64 x.save, .string x.abbr] 53)).alloc (.cells #[.slice none 0 0] 42)).frozen? ⟨k, 0, none⟩ := fun k hk hk2 => (hgr.frozen_far ⟨k, 0, none⟩ (by simp; omega) (hnA k hk)).trans (((bcell ((Below.refl _ wp).alloc (Nat.le_refl _) o)).2 _ _ (by omega)).trans (hfp k 0 hk2))
    have hO : OwnsT w1 base (.slice (some ⟨g1, 0, none⟩) (n + 1) cap1) (T ++ [x]) := OwnsT.add (by rw [hn]; exact hown)
    refine ⟨⟨_, rfl, ?_, ?_, ?_⟩, ⟨hc _ 0 _ (Nat.le_refl _) b0, hc _ 0 _ (by omega) r0⟩, (hfz _ (Nat.le_refl _) (by rw [hs0]; omega)).trans fb0, (hfz _ (by omega) (by rw [hs0]; omega)).trans fr0⟩
    · rw [hadd]
      exact kept_sets (kept_sets hO (by simp [Value.ownBlock]; omega)) (by simp [Value.ownBlock]; omega)
    · exact fr_set (fr_set (((Fr.of_below_base hBp).trans (Fr.of_below ((Below.refl _ wp).alloc (Nat.le_refl _) _))).trans (Fr.of_grown hgr)) (Nat.le_refl _)) (by omega)
    · rcases hat with h | h
      · exact .inl h.symm
      · exact .inr ⟨g1, rfl, by omega⟩
  cases hL : T.getLast? with
  | none =>
    have hTn : T = [] := by simpa using hL
    have hn0 : n = 0 := by rw [← hn, hTn]; rfl
    have hadd : addT T x = T ++ [x] := by rw [hTn]; rfl
    subst hn0
    have hT1 : ((((w.alloc (.cells #[.slice A 0 cap] 42)).alloc (.cells #[.int .i64 x.at_, .int .i64 x.offset, .int .i64 x.save, .string x.abbr] 53)).alloc (.cells #[.slice none 0 0] 42)).alloc (.cells #[.int .i64 x.at_, .int .i64 x.offset, .int .i64 x.save, .string x.abbr] 53)).ownsRow base 53 4 (.slice A 0 cap) 0 (T.map TurnD.cs).flatten := World.ownsRow.alloc (World.ownsRow.alloc (World.ownsRow.alloc (World.ownsRow.alloc hTo _) _) _) _
    have HFin : Hid _ := fun g1 cap1 w1 => hFin g1 cap1 w1 (((w.alloc (.cells #[.slice A 0 cap] 42)).alloc (.cells #[.int .i64 x.at_, .int .i64 x.offset, .int .i64 x.save, .string x.abbr] 53)).alloc (.cells #[.slice none 0 0] 42)) (.cells #[.int .i64 x.at_, .int .i64 x.offset, .int .i64 x.save, .string x.abbr] 53) hB0 hB0.size (Nat.le_refl _) (fun _ _ _ h => h) (fun _ _ _ => rfl)
    clear hL hTn hFin hT0 hF0 hTo hS
    unfold TurnD.v
    go_enter Tryz.func165, Tryz.ntmps165
    go_wp2_with (first
      | (at_builtin; refine wpList_append_lies _ rfl _ _ 40 rfl base 53 i0 (.agg #[.int .i64 0, .int .i64 0, .int .i64 0, .string ⟨#[]⟩]) 4 40 Tryz.underlying40 hi hz0 hz1 hz2 rfl (by decide) (.slice A 0 cap) 0 (T.map TurnD.cs).flatten rfl hT1 ⟨w.heap.size + 1 + 1 + 1, 0, none⟩ 1 1 [.int .i64 x.at_, .int .i64 x.offset, .int .i64 x.save, .string x.abbr] rfl rfl ?c1 ?c2 (by decide) ?c3 ?c4 ?c5 _ rfl ?_)
      | fail)
    case c1 => simpa using cells_new (((w.alloc (.cells #[.slice A 0 cap] 42)).alloc (.cells #[.int .i64 x.at_, .int .i64 x.offset, .int .i64 x.save, .string x.abbr] 53)).alloc (.cells #[.slice none 0 0] 42)) [.int .i64 x.at_, .int .i64 x.offset, .int .i64 x.save, .string x.abbr] 53
    case c2 => intro u hu; simp at hu; rcases hu with rfl | rfl | rfl | rfl <;> rfl
    case c3 => unfold maxLen; simp
    case c4 => simp
    case c5 => simp; omega
    intro g1 cap1 w1 hown1 hgrow hat hlt1
    obtain ⟨hP, ⟨q0, q1⟩, z0, z1⟩ := HFin.out g1 cap1 w1 hown1 hgrow (hat.imp id fun h => by rw [h]; omega) hadd
    have HP : Hid _ := hP
    have t0 : (w1.setCell ⟨w.heap.size, 0, none⟩ (.slice (some ⟨g1, 0, none⟩) (0 + 1) cap1)).cell? ⟨w.heap.size, 0, none⟩ = some (.slice (some ⟨g1, 0, none⟩) (0 + 1) cap1) := World.cell?_setCell_same _ _ _ q0
    have t2 : (w1.setCell ⟨w.heap.size, 0, none⟩ (.slice (some ⟨g1, 0, none⟩) (0 + 1) cap1)).cell? ⟨w.heap.size + 1 + 1, 0, none⟩ = some (.slice none 0 0) := by rw [World.cell?_setCell_other _ _ _ _ (by simp)]; exact q1
    have t1 : ((w1.setCell ⟨w.heap.size, 0, none⟩ (.slice (some ⟨g1, 0, none⟩) (0 + 1) cap1)).setCell ⟨w.heap.size + 1 + 1, 0, none⟩ (.slice (some ⟨g1, 0, none⟩) (0 + 1) cap1)).cell? ⟨w.heap.size + 1 + 1, 0, none⟩ = some (.slice (some ⟨g1, 0, none⟩) (0 + 1) cap1) := World.cell?_setCell_same _ _ _ t2
    clear hown1 hgrow hat hlt1 hP HFin hT1 r0 b0 p0 p1 p2 p3 fr0 fb0
    go_wp2
    exact bodyPost_ret (v := .agg #[.slice (some ⟨g1, 0, none⟩) (0 + 1) cap1]) (by simp [results, Tryz.results165, go_sem, t1]) rfl HP.out
  | some y =>
    obtain ⟨m, hm⟩ : ∃ m, n = m + 1 := by
      cases T with
      | nil => simp at hL
      | cons z Z => exact ⟨Z.length, by rw [← hn]; rfl⟩
    have hy : T[m]? = some y := by rw [List.getLast?_eq_getElem?, hn, hm] at hL; exact hL
    subst hm
    obtain ⟨b, o, ha, hc⟩ := hS.at (i := m) (r := y.cs) (by rw [List.getElem?_map, hy]; rfl)
    subst ha
    have c0 : (((w.alloc (.cells #[.slice (some ⟨b, o, none⟩) (m + 1) cap] 42)).alloc (.cells #[.int .i64 x.at_, .int .i64 x.offset, .int .i64 x.save, .string x.abbr] 53)).alloc (.cells #[.slice none 0 0] 42)).cell? ⟨b, o + m * 4, none⟩ = some (.int .i64 y.at_) := keepC hB0 (hc 0 _ rfl)
    have c1 := keepC hB0 (hc 1 _ rfl)
    have c2 := keepC hB0 (hc 2 _ rfl)
    have c3 := keepC hB0 (hc 3 _ rfl)
    have hcmp := fun w => eql_turn x.at_ y.offset y.save x.offset x.save y.abbr x.abbr w
    have hgrd := guard_turn
    have e1 : likeT ⟨x.at_, y.offset, y.save, y.abbr⟩ ⟨x.at_, x.offset, x.save, x.abbr⟩ = likeT y x := rfl
    rw [e1] at hcmp
    have hmn : (m : Int) < ((m + 1 : Nat) : Int) := by omega
    have hbY := (Below.refl _ (((w.alloc (.cells #[.slice (some ⟨b, o, none⟩) (m + 1) cap] 42)).alloc (.cells #[.int .i64 x.at_, .int .i64 x.offset, .int .i64 x.save, .string x.abbr] 53)).alloc (.cells #[.slice none 0 0] 42))).alloc (Nat.le_refl _) (.cells #[.int .i64 x.at_, .int .i64 y.offset, .int .i64 y.save, .string y.abbr] 53)
    clear hc
    cases hl : likeT y x
    · have hadd : addT T x = T ++ [x] := addT_new hL hl
      rw [hl] at hcmp
      have hT1 : (((((w.alloc (.cells #[.slice (some ⟨b, o, none⟩) (m + 1) cap] 42)).alloc (.cells #[.int .i64 x.at_, .int .i64 x.offset, .int .i64 x.save, .string x.abbr] 53)).alloc (.cells #[.slice none 0 0] 42)).alloc (.cells #[.int .i64 x.at_, .int .i64 y.offset, .int .i64 y.save, .string y.abbr] 53)).alloc (.cells #[.int .i64 x.at_, .int .i64 x.offset, .int .i64 x.save, .string x.abbr] 53)).ownsRow base 53 4 (.slice (some ⟨b, o, none⟩) (m + 1) cap) (m + 1) (T.map TurnD.cs).flatten := World.ownsRow.alloc (World.ownsRow.alloc (World.ownsRow.alloc (World.ownsRow.alloc (World.ownsRow.alloc hTo _) _) _) _) _
      have HFin : Hid _ := fun g1 cap1 w1 => hFin g1 cap1 w1 ((((w.alloc (.cells #[.slice (some ⟨b, o, none⟩) (m + 1) cap] 42)).alloc (.cells #[.int .i64 x.at_, .int .i64 x.offset, .int .i64 x.save, .string x.abbr] 53)).alloc (.cells #[.slice none 0 0] 42)).alloc (.cells #[.int .i64 x.at_, .int .i64 y.offset, .int .i64 y.save, .string y.abbr] 53)) (.cells #[.int .i64 x.at_, .int .i64 x.offset, .int .i64 x.save, .string x.abbr] 53) (hB0.trans (hbY.mono hB0.size)) (Nat.le_trans hB0.size hbY.size) hbY.size (fun _ _ _ h => keepC hbY h) (fun _ _ h => (bcell hbY).2 _ _ h)
      clear hl hL e1 hS hy hFin hT0 hF0 hTo
      unfold TurnD.v
      go_enter Tryz.func165, Tryz.ntmps165
      go_wp2_with (first
        | (at_builtin; refine wpList_append_lies _ rfl _ _ 40 rfl base 53 i0 (.agg #[.int .i64 0, .int .i64 0, .int .i64 0, .string ⟨#[]⟩]) 4 40 Tryz.underlying40 hi hz0 hz1 hz2 rfl (by decide) (.slice (some ⟨b, o, none⟩) (m + 1) cap) (m + 1) (T.map TurnD.cs).flatten rfl hT1 ⟨w.heap.size + 1 + 1 + 1 + 1, 0, none⟩ 1 1 [.int .i64 x.at_, .int .i64 x.offset, .int .i64 x.save, .string x.abbr] rfl rfl ?d1 ?d2 (by decide) ?d3 ?d4 ?d5 _ rfl ?_)
        | fail)
      case d1 => simpa using cells_new ((((w.alloc (.cells #[.slice (some ⟨b, o, none⟩) (m + 1) cap] 42)).alloc (.cells #[.int .i64 x.at_, .int .i64 x.offset, .int .i64 x.save, .string x.abbr] 53)).alloc (.cells #[.slice none 0 0] 42)).alloc (.cells #[.int .i64 x.at_, .int .i64 y.offset, .int .i64 y.save, .string y.abbr] 53)) [.int .i64 x.at_, .int .i64 x.offset, .int .i64 x.save, .string x.abbr] 53
      case d2 => intro u hu; simp at hu; rcases hu with rfl | rfl | rfl | rfl <;> rfl
      case d3 => unfold maxLen; omega
      case d4 => omega
      case d5 => simp; omega
      intro g1 cap1 w1 hown1 hgrow hat hlt1
      obtain ⟨hP, ⟨q0, q1⟩, z0, z1⟩ := HFin.out g1 cap1 w1 hown1 hgrow (hat.imp id fun h => by rw [h]; omega) hadd
      have HP : Hid _ := hP
      have t0 : (w1.setCell ⟨w.heap.size, 0, none⟩ (.slice (some ⟨g1, 0, none⟩) (m + 1 + 1) cap1)).cell? ⟨w.heap.size, 0, none⟩ = some (.slice (some ⟨g1, 0, none⟩) (m + 1 + 1) cap1) := World.cell?_setCell_same _ _ _ q0
      have t2 : (w1.setCell ⟨w.heap.size, 0, none⟩ (.slice (some ⟨g1, 0, none⟩) (m + 1 + 1) cap1)).cell? ⟨w.heap.size + 1 + 1, 0, none⟩ = some (.slice none 0 0) := by rw [World.cell?_setCell_other _ _ _ _ (by simp)]; exact q1
      have t1 : ((w1.setCell ⟨w.heap.size, 0, none⟩ (.slice (some ⟨g1, 0, none⟩) (m + 1 + 1) cap1)).setCell ⟨w.heap.size + 1 + 1, 0, none⟩ (.slice (some ⟨g1, 0, none⟩) (m + 1 + 1) cap1)).cell? ⟨w.heap.size + 1 + 1, 0, none⟩ = some (.slice (some ⟨g1, 0, none⟩) (m + 1 + 1) cap1) := World.cell?_setCell_same _ _ _ t2
      clear hown1 hgrow hat hlt1 hP HFin hT1 r0 b0 p0 p1 p2 p3 fr0 fb0 hcmp c0 c1 c2 c3
      go_wp2
      exact bodyPost_ret (v := .agg #[.slice (some ⟨g1, 0, none⟩) (m + 1 + 1) cap1]) (by simp [results, Tryz.results165, go_sem, t1]) rfl HP.out
    · have hadd : addT T x = T := addT_like hL hl
      rw [hl] at hcmp
      have hT2 : OwnsT ((((w.alloc (.cells #[.slice (some ⟨b, o, none⟩) (m + 1) cap] 42)).alloc (.cells #[.int .i64 x.at_, .int .i64 x.offset, .int .i64 x.save, .string x.abbr] 53)).alloc (.cells #[.slice (some ⟨b, o, none⟩) (m + 1) cap] 42)).alloc (.cells #[.int .i64 x.at_, .int .i64 y.offset, .int .i64 y.save, .string y.abbr] 53)) base (.slice (some ⟨b, o, none⟩) (m + 1) cap) T := World.ownsRow.alloc (World.ownsRow.alloc (World.ownsRow.alloc (World.ownsRow.alloc hT _) _) _) _
      have hF2 : Fr (fun b_1 => (Value.slice (some ⟨b, o, none⟩) (m + 1) cap).ownBlock = some b_1) w ((((w.alloc (.cells #[.slice (some ⟨b, o, none⟩) (m + 1) cap] 42)).alloc (.cells #[.int .i64 x.at_, .int .i64 x.offset, .int .i64 x.save, .string x.abbr] 53)).alloc (.cells #[.slice (some ⟨b, o, none⟩) (m + 1) cap] 42)).alloc (.cells #[.int .i64 x.at_, .int .i64 y.offset, .int .i64 y.save, .string y.abbr] 53)) := Fr.of_below ((((((Below.refl w.heap.size w).alloc (Nat.le_refl _) _).alloc (by simp) _).alloc (by simp; omega) _)).alloc (by simp; omega) _)
      have HP : Hid (AddP T x base (.slice (some ⟨b, o, none⟩) (m + 1) cap) w (.returned (.agg #[.slice (some ⟨b, o, none⟩) (m + 1) cap])) ((((w.alloc (.cells #[.slice (some ⟨b, o, none⟩) (m + 1) cap] 42)).alloc (.cells #[.int .i64 x.at_, .int .i64 x.offset, .int .i64 x.save, .string x.abbr] 53)).alloc (.cells #[.slice (some ⟨b, o, none⟩) (m + 1) cap] 42)).alloc (.cells #[.int .i64 x.at_, .int .i64 y.offset, .int .i64 y.save, .string y.abbr] 53))) := ⟨_, rfl, by rw [hadd]; exact hT2, hF2, .inl rfl⟩
      clear hl hL e1 hS hy hFin hT0 hF0 hTo hT2 hF2
      unfold TurnD.v
      go_enter Tryz.func165, Tryz.ntmps165
      go_wp2
      exact bodyPost_ret (v := .agg #[.slice (some ⟨b, o, none⟩) (m + 1) cap]) (by simp [results, Tryz.results165, go_sem]) rfl HP.out
end Go.Proofs.YtbbhpfobcelbfaaGreatDoor
