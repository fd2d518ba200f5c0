/- What happens by rules, at an offset: the program's hapsAt. -/
import Derived.Test.YtbbhpfobcelbfaaGreatDoorHpPq
import Derived.Test.YtbbhpfobcelbfaaGreatDoorHp13q
namespace Go.Proofs.YtbbhpfobcelbfaaGreatDoor
open Go.RowKit Go.Sort

theorem owns_fr {S : Nat → Prop} {w w' : World} {base : Nat} {e : TypeId} {size : Nat} {v : Value} {n : Nat} {xs : List Value} (h : w.ownsRow base e size v n xs) (hf : Fr S w w') (hs : ∀ b, v.ownBlock = some b → ¬ S b) : w'.ownsRow base e size v n xs := by
  refine ⟨h.1, ?_⟩
  rcases h.2 with h | ⟨g, cap, cur, rfl, e2, e3, e4⟩
  · exact .inl h
  · exact .inr ⟨g, cap, cur, rfl, e2, (hf.block g (Array.getElem?_eq_some_iff.1 e3).1 (hs g rfl)).trans e3, e4⟩
theorem heapB_fr {S : Nat → Prop} {w w' : World} {hp : Nat} {rb : Option Nat} {X : List WallD} (h : HeapB w hp rb X) (hf : Fr S w w') (h1 : ¬ S hp) (h2 : ∀ b, rb = some b → ¬ S b) : HeapB w' hp rb X := by
  obtain ⟨a, c, c1, c2, c3, c4, c5⟩ := h
  exact ⟨a, c, hf.cell h1 c1, (hf.frozen (World.block_lt_of_cell? _ _ c1) h1).trans c2, owns_fr c3 hf (fun b hb => h2 b (c5.symm.trans hb)), c4, c5⟩
theorem HeapB.lt_row {w : World} {hp g : Nat} {X : List WallD} (h : HeapB w hp (some g) X) : g < w.heap.size := heapB_lt h rfl
/-- a heap that is not empty, opened. -/
theorem heapB_open {w : World} {hp n : Nat} {rb : Option Nat} {X : List WallD} (h : HeapB w hp rb X) (hn : X.length = n + 1) : ∃ g cap, w.cell? ⟨hp, 0, none⟩ = some (.slice (some ⟨g, 0, none⟩) (n + 1) cap) ∧ w.frozen? ⟨hp, 0, none⟩ = false ∧ OwnsG w hp (.slice (some ⟨g, 0, none⟩) (n + 1) cap) X ∧ hp ≠ g ∧ rb = some g ∧ n + 1 ≤ cap := by
  obtain ⟨a, c, c1, c2, c3, c4, c5⟩ := h
  have c3' := c3
  unfold OwnsG at c3'
  rw [hn] at c1 c3 c4 c5 c3'
  rcases c3'.2 with ⟨_, h0⟩ | ⟨g, cap, cur, e, _, _, hc, _⟩
  · omega
  · injection e with e1 e2 e3
    subst e1 e3
    exact ⟨g, c, c1, c2, c3, fun e => c4 (by rw [e]; rfl), c5.symm, hc⟩
theorem foldH_snoc {l : List RuleD} {off : Int} {D : List WallD} {m : WallD} {x : RuleD} (hx : l[m.place]? = some x) : foldH l off (D ++ [m]) = ((foldH l off D).1 ++ [hapOf x m.wall off (foldH l off D).2], x.save) := by
  unfold foldH
  rw [List.foldl_append]
  show stepH l off _ m = _
  unfold stepH
  rw [hx]
theorem wallsA_mem {l : List RuleD} (hl : ∀ x ∈ l, RuleR x) {m : WallD} : ∀ {k : Nat}, m ∈ wallsA l k → m.place < k ∧ -100000000000 ≤ m.wall ∧ m.wall ≤ 300000000000 := by
  intro k
  induction k with
  | zero => intro h; simp [wallsA] at h
  | succ k ih =>
    intro h
    rw [wallsA, List.mem_append] at h
    rcases h with h | h
    · obtain ⟨h2, h3⟩ := ih h
      exact ⟨by omega, h3⟩
    · split at h
      · rename_i x hx
        by_cases hy : yrs x = 0
        · unfold wallsX at h; rw [hy] at h; simp [wallsN] at h
        · obtain ⟨p1, p2⟩ := wallsN_mem (hl x (List.mem_of_getElem? hx)) (by omega) (by unfold yrs at *; omega) h
          exact ⟨by omega, p2⟩
      · simp at h
/-- what is told of what happens by rules of one name. -/
def HapsA (l : List RuleD) (off : Int) (H : List HapD) (b : Bool) : Prop := ((wallsA l l.length).length ≤ 2000 ∧ b = true ∧ ∃ P : List WallD, P.Pairwise LeW ∧ P.Perm (wallsA l l.length) ∧ H = (foldH l off P).1) ∨ (¬ (wallsA l l.length).length ≤ 2000 ∧ b = false ∧ H = [])
/-- what has been taken out of a heap, and what is in it. -/
structure PopS (l : List RuleD) (D X : List WallD) : Prop where
  up : D.Pairwise LeW
  all : ∀ d ∈ D, ∀ y ∈ X, LeW d y
  perm : (D ++ X).Perm (wallsA l l.length)
theorem pop_step {l : List RuleD} {D X Y : List WallD} {m : WallD} (h : PopS l D X) (hP : X.Perm (m :: Y)) (hm : ∀ y ∈ Y, LeW m y) : PopS l (D ++ [m]) Y := by
  refine ⟨List.pairwise_append.mpr ⟨h.up, by simp, fun d hd y hy => ?_⟩, fun d hd y hy => ?_, ?_⟩
  · simp at hy; subst hy
    exact h.all d hd y (hP.mem_iff.mpr (by simp))
  · rcases List.mem_append.mp hd with e | e
    · exact h.all d e y (hP.mem_iff.mpr (List.mem_cons_of_mem _ hy))
    · simp at e; subst e; exact hm y hy
  · rw [List.append_assoc]
    exact (List.Perm.append_left D hP.symm).trans h.perm
set_option maxRecDepth 20000 in
set_option maxHeartbeats 4000000 in
theorem impl_hapsAt (l : List RuleD) (a : Option Addr) (ca : Nat) (off : Int) (w : World) (hA : SeqAt w a 9 (l.map RuleD.cs)) (hT : Tab w) (hMx : Mx w) (hr : ∀ x ∈ l, RuleR x) (hl : l.length ≤ 40) (hon : ∀ x ∈ l, x.on.size ≤ 8000) (f1 : -86400 ≤ off) (f2 : off ≤ 86400) :
    Calls Tryz.prog 35 #[.slice a l.length ca, .int .i64 off] w fun e W' => ∃ v' H b, e = .returned (.tuple #[v', .bool b]) ∧ OwnsH W' w.heap.size v' H ∧ HapsA l off H b ∧ Below w.heap.size w W' := by
  obtain ⟨i0, hi, hz0, hz1, hz2⟩ := info_parts infoHap2
  have HRR : Hid (∀ x ∈ l, RuleR x) := hr
  have hH := impl_happenings l a ca w hA hT hMx hr hl hon
  have hWl := wallsA_len l l.length
  clear hr hon hT hMx
  go_enter Tryz.func35, Tryz.ntmps35
  go_wp2_with fail
  refine hH.mono ?_
  rintro e w1 ⟨rb, X, rfl, hB, hX, hXP, hb1⟩
  have hXl := hXP.length_eq
  have hcell : ∃ a c, w1.cell? ⟨w.heap.size, 0, none⟩ = some (.slice a X.length c) := by obtain ⟨a, c, h, _⟩ := hB; exact ⟨a, c, h⟩
  obtain ⟨a1, c1, hc1⟩ := hcell
  by_cases h2 : (wallsA l l.length).length ≤ 2000
  · have HS0 : Hid (PopS l [] X) := ⟨List.Pairwise.nil, fun d hd => by simp at hd, hXP⟩
    have HX0 : Hid (HeapX X) := hX
    have h2' : X.length ≤ 2000 := by omega
    have HW : Hid ((wallsA l l.length).length ≤ 2000) := h2
    have h2n : ¬ (2000 : Int) < (X.length : Int) := by omega
    clear hX hXP hXl hWl hH h2
    go_wp2
    go_loopw [7, 8] (fun s7 s8 wr => ∃ (rb : Option Nat) (D X : List WallD) (a7 : Option Addr) (n7 c7 : Nat), s7 = .slice a7 n7 c7 ∧ s8 = .int .i64 (foldH l off D).2 ∧ HeapB wr w.heap.size rb X ∧ Hid (HeapX X) ∧ Hid (PopS l D X) ∧ X.length ≤ 2000 ∧ D.length + X.length ≤ 2000 ∧ OwnsH wr w.heap.size (.slice a7 n7 c7) (foldH l off D).1 ∧ (∀ b, (Value.slice a7 n7 c7).ownBlock = some b → b ≠ w.heap.size ∧ rb ≠ some b) ∧ Below w.heap.size w wr) (fun _ _ wr => match wr.cell? ⟨w.heap.size, 0, none⟩ with | some (.slice _ n _) => n | _ => 0)
    case atStart => exact ⟨rb, [], X, none, 0, 0, rfl, rfl, hB, HX0, HS0, h2', by simpa using h2', World.ownsRow_nil _ _ _ _, fun b hb => by simp [Value.ownBlock] at hb, hb1⟩
    case round =>
      clear hB HS0 HX0 h2' hb1 hc1 h2n
      obtain ⟨rb, D, X, a7, n7, c7, rfl, rfl, hB, HX, HS, hX2, hDX, hown, hnb, hBr⟩ := hrel
      have hsW := hBr.size
      have hsv : -7200 ≤ (foldH l off D).2 ∧ (foldH l off D).2 ≤ 7200 := by
        have := foldH_save (off := off) (s := D) (l := l) (fun m hm => (wallsA_mem HRR.out (HS.out.perm.mem_iff.mp (List.mem_append_left _ hm))).1) (fun x hx => (HRR.out x hx).save) D.length (Nat.le_refl _)
        rw [List.take_length] at this
        exact this
      have hfl : (foldH l off D).1.length = D.length := by
        have := foldH_len (off := off) (s := D) (l := l) (fun m hm => (wallsA_mem HRR.out (HS.out.perm.mem_iff.mp (List.mem_append_left _ hm))).1) D.length (Nat.le_refl _)
        rw [List.take_length] at this
        exact this
      by_cases hpos : X.length = 0
      · have hXn : X = [] := List.length_eq_zero_iff.mp hpos
        subst hXn
        obtain ⟨a2, c2, hc2, _⟩ := hB
        have HR : Hid (HapsA l off (foldH l off D).1 true) := .inl ⟨HW.out, rfl, D, HS.out.up, by have := HS.out.perm; rw [List.append_nil] at this; exact this, rfl⟩
        clear HS HX hsv hfl
        generalize foldH l off D = F at *
        go_wp2
        exact bodyPost_ret (v := .tuple #[.slice a7 n7 c7, .bool true]) (by simp [results, Tryz.results35, go_sem]) rfl ⟨_, _, true, rfl, hown, HR.out, hBr⟩
      · obtain ⟨n, hn⟩ : ∃ n, X.length = n + 1 := ⟨X.length - 1, by omega⟩
        obtain ⟨g, cap, c2, c3, c4, hne, hrb, hcap⟩ := heapB_open hB hn
        have hPo := impl_pop X n w.heap.size g cap wr c2 c3 c4 hn hne HX.out (by omega) hcap
        have hpn : (0 : Int) < (n : Int) + 1 := by omega
        have HN : Hid (X.length = n + 1) := hn
        clear hn hB hpos
        simp only [WallD.v] at hPo
        go_wp2_with fail
        refine hPo.mono ?_
        rintro e w2 ⟨m, Y, rfl, hYX, hYP, hYm, hYl, d1, d2, d3, fr⟩
        have hgl := (c4.lt g rfl)
        have hszp := World.block_lt_of_cell? _ _ c2
        have HS2 : Hid (PopS l (D ++ [m]) Y) := pop_step HS.out hYP hYm
        have HYX : Hid (HeapX Y) := hYX
        obtain ⟨hpl, wb1, wb2⟩ := wallsA_mem HRR.out (HS.out.perm.mem_iff.mp (List.mem_append_right _ (hYP.mem_iff.mpr (by simp : m ∈ m :: Y))))
        obtain ⟨x, hx⟩ : ∃ x, l[m.place]? = some x := ⟨_, List.getElem?_eq_getElem hpl⟩
        have hB2 : Below w.heap.size w w2 := hBr.trans (fr.below (fun b hb => by rcases hb with e | e <;> omega) (by omega))
        have hown2 : OwnsH w2 w.heap.size (.slice a7 n7 c7) (foldH l off D).1 := owns_fr hown fr (fun b hb hs => by
          obtain ⟨q1, q2⟩ := hnb b hb
          rcases hs with e | e
          · exact q1 e
          · exact q2 (by rw [e]; exact hrb))
        have HB2 : HeapB w2 w.heap.size (some g) Y := heapB_of (cap := cap) (by rw [hYl]; exact d1) d2 (by rw [hYl]; exact d3) hne
        have hgn : ∀ b, (Value.slice a7 n7 c7).ownBlock = some b → b ≠ w.heap.size ∧ b ≠ g := fun b hb => ⟨(hnb b hb).1, fun e => (hnb b hb).2 (by rw [e]; exact hrb)⟩
        have hF := foldH_snoc (off := off) (D := D) hx
        have HF : Hid (foldH l off (D ++ [m]) = ((foldH l off D).1 ++ [hapOf x m.wall off (foldH l off D).2], x.save)) := hF
        obtain ⟨b9, o9, rfl, hc⟩ := (hA.below hB2).at (i := m.place) (r := x.cs) (by rw [List.getElem?_map, hx]; rfl)
        have hbN := (Below.refl w2.heap.size w2).alloc (Nat.le_refl _) (.cells #[.int .i64 m.wall, .int .i64 m.place] 134)
        have c0' : (w2.alloc (.cells #[.int .i64 m.wall, .int .i64 m.place] 134)).cell? ⟨b9, o9 + m.place * 9, none⟩ = some (.string x.name) := keepC hbN (hc 0 _ rfl)
        have c1' : (w2.alloc (.cells #[.int .i64 m.wall, .int .i64 m.place] 134)).cell? ⟨b9, o9 + m.place * 9 + 1, none⟩ = some (.int .i64 x.lo) := keepC hbN (hc 1 _ rfl)
        have c2' : (w2.alloc (.cells #[.int .i64 m.wall, .int .i64 m.place] 134)).cell? ⟨b9, o9 + m.place * 9 + 2, none⟩ = some (.int .i64 x.hi) := keepC hbN (hc 2 _ rfl)
        have c3' : (w2.alloc (.cells #[.int .i64 m.wall, .int .i64 m.place] 134)).cell? ⟨b9, o9 + m.place * 9 + 3, none⟩ = some (.int .i64 x.month) := keepC hbN (hc 3 _ rfl)
        have c4' : (w2.alloc (.cells #[.int .i64 m.wall, .int .i64 m.place] 134)).cell? ⟨b9, o9 + m.place * 9 + 4, none⟩ = some (.string x.on) := keepC hbN (hc 4 _ rfl)
        have c5' : (w2.alloc (.cells #[.int .i64 m.wall, .int .i64 m.place] 134)).cell? ⟨b9, o9 + m.place * 9 + 5, none⟩ = some (.int .i64 x.at_) := keepC hbN (hc 5 _ rfl)
        have c6' : (w2.alloc (.cells #[.int .i64 m.wall, .int .i64 m.place] 134)).cell? ⟨b9, o9 + m.place * 9 + 6, none⟩ = some (.string x.of) := keepC hbN (hc 6 _ rfl)
        have c7' : (w2.alloc (.cells #[.int .i64 m.wall, .int .i64 m.place] 134)).cell? ⟨b9, o9 + m.place * 9 + 7, none⟩ = some (.int .i64 x.save) := keepC hbN (hc 7 _ rfl)
        have c8' : (w2.alloc (.cells #[.int .i64 m.wall, .int .i64 m.place] 134)).cell? ⟨b9, o9 + m.place * 9 + 8, none⟩ = some (.string x.letter) := keepC hbN (hc 8 _ rfl)
        obtain ⟨⟨F, sv⟩, hFF⟩ : ∃ R, foldH l off D = R := ⟨_, rfl⟩
        rw [hFF] at HF hown2 hsv hfl
        rw [hFF]
        simp only at hown2 hsv hfl
        have hFl2 : F.length ≤ 2000 := by omega
        clear hfl
        have hYl2 : D.length + 1 + Y.length ≤ 2000 := by have := HN.out; omega
        have hm0 : (0 : Int) ≤ (m.place : Int) := by omega
        have hm1 : (m.place : Int) < (l.length : Int) := by omega
        obtain ⟨sv1, sv2⟩ := hsv
        clear hF hFF hc hx hown fr hnb HS HX hYX hYP hYm c3 c4 d2 d3
        cases hs : (x.of.toList == [115])
        · cases hw : (x.of.toList == [119])
          · have HP : Hid (hapOf x m.wall off sv = ⟨m.wall, x.save, x.letter⟩) := hap_u hs hw
            go_wp2_with (first
              | (at_builtin; refine wpList_append_lies _ rfl _ _ 30 rfl w.heap.size 36 i0 (.agg #[.int .i64 0, .int .i64 0, .string ⟨#[]⟩]) 3 32 Tryz.underlying30 hi hz0 hz1 hz2 rfl (by decide) _ _ _ rfl (World.ownsRow.alloc (World.ownsRow.alloc (World.ownsRow.alloc hown2 _) _) _) ⟨w2.heap.size + 1 + 1, 0, none⟩ 1 1 [.int .i64 (m.wall), .int .i64 x.save, .string x.letter] rfl rfl ?c1a ?c2a (by omega) ?c3a ?c4a ?c5a _ rfl ?_)
              | fail)
            case c1a => simpa using cells_new ((w2.alloc (.cells #[.int .i64 m.wall, .int .i64 m.place] 134)).alloc (.cells #[.string x.name, .int .i64 x.lo, .int .i64 x.hi, .int .i64 x.month, .string x.on, .int .i64 x.at_, .string x.of, .int .i64 x.save, .string x.letter] 120)) [.int .i64 (m.wall), .int .i64 x.save, .string x.letter] 36
            case c2a => intro u hu; simp at hu; rcases hu with rfl | rfl | rfl <;> rfl
            case c3a => unfold maxLen; omega
            case c4a => omega
            case c5a => simp; have := hB2.size; omega
            intro g5 cap5 w5 hown5 hgrow hat hlt5
            have hbA := ((hbN.alloc (by simp) (.cells #[.string x.name, .int .i64 x.lo, .int .i64 x.hi, .int .i64 x.month, .string x.on, .int .i64 x.at_, .string x.of, .int .i64 x.save, .string x.letter] 120)).alloc (by simp; omega) (.cells #[.int .i64 (m.wall), .int .i64 x.save, .string x.letter] 36))
            have hB5 : Below w.heap.size w w5 := (hB2.trans (hbA.mono hB2.size)).grown hgrow (by have := hB2.size; have := hbA.size; omega) (fun k hk => (hown2.lt k hk).1)
            have HO : Hid (OwnsH w5 w.heap.size (.slice (some ⟨g5, 0, none⟩) (F.length + 1) cap5) (F ++ [⟨m.wall, x.save, x.letter⟩])) := OwnsH.add (p := ⟨m.wall, x.save, x.letter⟩) hown5
            have HB5 : HeapB w5 w.heap.size (some g) Y := heapB_fr (HB2.below hbA) (Fr.of_grown hgrow) (fun e => (hgn _ e).1 rfl) (fun b hb e => by injection hb with hb; subst hb; exact (hgn _ e).2 rfl)
            have cell5 : w5.cell? ⟨w.heap.size, 0, none⟩ = some (.slice (some ⟨g, 0, none⟩) n cap) := hgrow.cell (keepC hbA d1) (fun e => (hgn _ e.symm).1 rfl)
            have r7 : w5.cell? ⟨w2.heap.size + 1, 7, none⟩ = some (.int .i64 x.save) := hgrow.cell (by simp [go_sem]) (fun e => absurd (show w2.heap.size + 1 < w2.heap.size from (hown2.lt _ e.symm).2) (by omega))
            have nb5 : ∀ b, (Value.slice (some ⟨g5, 0, none⟩) (F.length + 1) cap5).ownBlock = some b → b ≠ w.heap.size ∧ some g ≠ some b := fun b hb => by
              have e : g5 = b := by simpa [Value.ownBlock] using hb
              subst e
              rcases hat with hh | hh
              · exact ⟨(hgn _ hh).1, fun e => by injection e with e; exact (hgn _ hh).2 e.symm⟩
              · have hz := hbA.size
                have hd := World.block_lt_of_cell? _ _ d1
                have hg2 : g < w2.heap.size := (HB2.lt_row)
                exact ⟨by omega, fun e => by injection e with e; omega⟩
            clear hgrow hown5 hown2 hat hlt5 hbA HB2 hbN
            go_wp2
            go_roundw
            case rel => exact ⟨some g, D ++ [m], Y, some ⟨g5, 0, none⟩, F.length + 1, cap5, rfl, by rw [HF.out], HB5, HYX, HS2, by omega, by simp; omega, by rw [HF.out]; simp only; rw [HP.out]; exact HO.out, nb5, hB5⟩
            case measure => rw [cell5, c2]; simp
          · have HP : Hid (hapOf x m.wall off sv = ⟨m.wall - (off + sv), x.save, x.letter⟩) := by simp only [Hid]; rw [hap_w hs hw, show m.wall - off - sv = m.wall - (off + sv) by omega]
            go_wp2_with (first
              | (at_builtin; refine wpList_append_lies _ rfl _ _ 30 rfl w.heap.size 36 i0 (.agg #[.int .i64 0, .int .i64 0, .string ⟨#[]⟩]) 3 32 Tryz.underlying30 hi hz0 hz1 hz2 rfl (by decide) _ _ _ rfl (World.ownsRow.alloc (World.ownsRow.alloc (World.ownsRow.alloc hown2 _) _) _) ⟨w2.heap.size + 1 + 1, 0, none⟩ 1 1 [.int .i64 (m.wall - (off + sv)), .int .i64 x.save, .string x.letter] rfl rfl ?c1b ?c2b (by omega) ?c3b ?c4b ?c5b _ rfl ?_)
              | fail)
            case c1b => simpa using cells_new ((w2.alloc (.cells #[.int .i64 m.wall, .int .i64 m.place] 134)).alloc (.cells #[.string x.name, .int .i64 x.lo, .int .i64 x.hi, .int .i64 x.month, .string x.on, .int .i64 x.at_, .string x.of, .int .i64 x.save, .string x.letter] 120)) [.int .i64 (m.wall - (off + sv)), .int .i64 x.save, .string x.letter] 36
            case c2b => intro u hu; simp at hu; rcases hu with rfl | rfl | rfl <;> rfl
            case c3b => unfold maxLen; omega
            case c4b => omega
            case c5b => simp; have := hB2.size; omega
            intro g5 cap5 w5 hown5 hgrow hat hlt5
            have hbA := ((hbN.alloc (by simp) (.cells #[.string x.name, .int .i64 x.lo, .int .i64 x.hi, .int .i64 x.month, .string x.on, .int .i64 x.at_, .string x.of, .int .i64 x.save, .string x.letter] 120)).alloc (by simp; omega) (.cells #[.int .i64 (m.wall - (off + sv)), .int .i64 x.save, .string x.letter] 36))
            have hB5 : Below w.heap.size w w5 := (hB2.trans (hbA.mono hB2.size)).grown hgrow (by have := hB2.size; have := hbA.size; omega) (fun k hk => (hown2.lt k hk).1)
            have HO : Hid (OwnsH w5 w.heap.size (.slice (some ⟨g5, 0, none⟩) (F.length + 1) cap5) (F ++ [⟨m.wall - (off + sv), x.save, x.letter⟩])) := OwnsH.add (p := ⟨m.wall - (off + sv), x.save, x.letter⟩) hown5
            have HB5 : HeapB w5 w.heap.size (some g) Y := heapB_fr (HB2.below hbA) (Fr.of_grown hgrow) (fun e => (hgn _ e).1 rfl) (fun b hb e => by injection hb with hb; subst hb; exact (hgn _ e).2 rfl)
            have cell5 : w5.cell? ⟨w.heap.size, 0, none⟩ = some (.slice (some ⟨g, 0, none⟩) n cap) := hgrow.cell (keepC hbA d1) (fun e => (hgn _ e.symm).1 rfl)
            have r7 : w5.cell? ⟨w2.heap.size + 1, 7, none⟩ = some (.int .i64 x.save) := hgrow.cell (by simp [go_sem]) (fun e => absurd (show w2.heap.size + 1 < w2.heap.size from (hown2.lt _ e.symm).2) (by omega))
            have nb5 : ∀ b, (Value.slice (some ⟨g5, 0, none⟩) (F.length + 1) cap5).ownBlock = some b → b ≠ w.heap.size ∧ some g ≠ some b := fun b hb => by
              have e : g5 = b := by simpa [Value.ownBlock] using hb
              subst e
              rcases hat with hh | hh
              · exact ⟨(hgn _ hh).1, fun e => by injection e with e; exact (hgn _ hh).2 e.symm⟩
              · have hz := hbA.size
                have hd := World.block_lt_of_cell? _ _ d1
                have hg2 : g < w2.heap.size := (HB2.lt_row)
                exact ⟨by omega, fun e => by injection e with e; omega⟩
            clear hgrow hown5 hown2 hat hlt5 hbA HB2 hbN
            go_wp2
            go_roundw
            case rel => exact ⟨some g, D ++ [m], Y, some ⟨g5, 0, none⟩, F.length + 1, cap5, rfl, by rw [HF.out], HB5, HYX, HS2, by omega, by simp; omega, by rw [HF.out]; simp only; rw [HP.out]; exact HO.out, nb5, hB5⟩
            case measure => rw [cell5, c2]; simp
        · have HP : Hid (hapOf x m.wall off sv = ⟨m.wall - off, x.save, x.letter⟩) := hap_s hs
          go_wp2_with (first
            | (at_builtin; refine wpList_append_lies _ rfl _ _ 30 rfl w.heap.size 36 i0 (.agg #[.int .i64 0, .int .i64 0, .string ⟨#[]⟩]) 3 32 Tryz.underlying30 hi hz0 hz1 hz2 rfl (by decide) _ _ _ rfl (World.ownsRow.alloc (World.ownsRow.alloc (World.ownsRow.alloc hown2 _) _) _) ⟨w2.heap.size + 1 + 1, 0, none⟩ 1 1 [.int .i64 (m.wall - off), .int .i64 x.save, .string x.letter] rfl rfl ?c1c ?c2c (by omega) ?c3c ?c4c ?c5c _ rfl ?_)
            | fail)
          case c1c => simpa using cells_new ((w2.alloc (.cells #[.int .i64 m.wall, .int .i64 m.place] 134)).alloc (.cells #[.string x.name, .int .i64 x.lo, .int .i64 x.hi, .int .i64 x.month, .string x.on, .int .i64 x.at_, .string x.of, .int .i64 x.save, .string x.letter] 120)) [.int .i64 (m.wall - off), .int .i64 x.save, .string x.letter] 36
          case c2c => intro u hu; simp at hu; rcases hu with rfl | rfl | rfl <;> rfl
          case c3c => unfold maxLen; omega
          case c4c => omega
          case c5c => simp; have := hB2.size; omega
          intro g5 cap5 w5 hown5 hgrow hat hlt5
          have hbA := ((hbN.alloc (by simp) (.cells #[.string x.name, .int .i64 x.lo, .int .i64 x.hi, .int .i64 x.month, .string x.on, .int .i64 x.at_, .string x.of, .int .i64 x.save, .string x.letter] 120)).alloc (by simp; omega) (.cells #[.int .i64 (m.wall - off), .int .i64 x.save, .string x.letter] 36))
          have hB5 : Below w.heap.size w w5 := (hB2.trans (hbA.mono hB2.size)).grown hgrow (by have := hB2.size; have := hbA.size; omega) (fun k hk => (hown2.lt k hk).1)
          have HO : Hid (OwnsH w5 w.heap.size (.slice (some ⟨g5, 0, none⟩) (F.length + 1) cap5) (F ++ [⟨m.wall - off, x.save, x.letter⟩])) := OwnsH.add (p := ⟨m.wall - off, x.save, x.letter⟩) hown5
          have HB5 : HeapB w5 w.heap.size (some g) Y := heapB_fr (HB2.below hbA) (Fr.of_grown hgrow) (fun e => (hgn _ e).1 rfl) (fun b hb e => by injection hb with hb; subst hb; exact (hgn _ e).2 rfl)
          have cell5 : w5.cell? ⟨w.heap.size, 0, none⟩ = some (.slice (some ⟨g, 0, none⟩) n cap) := hgrow.cell (keepC hbA d1) (fun e => (hgn _ e.symm).1 rfl)
          have r7 : w5.cell? ⟨w2.heap.size + 1, 7, none⟩ = some (.int .i64 x.save) := hgrow.cell (by simp [go_sem]) (fun e => absurd (show w2.heap.size + 1 < w2.heap.size from (hown2.lt _ e.symm).2) (by omega))
          have nb5 : ∀ b, (Value.slice (some ⟨g5, 0, none⟩) (F.length + 1) cap5).ownBlock = some b → b ≠ w.heap.size ∧ some g ≠ some b := fun b hb => by
            have e : g5 = b := by simpa [Value.ownBlock] using hb
            subst e
            rcases hat with hh | hh
            · exact ⟨(hgn _ hh).1, fun e => by injection e with e; exact (hgn _ hh).2 e.symm⟩
            · have hz := hbA.size
              have hd := World.block_lt_of_cell? _ _ d1
              have hg2 : g < w2.heap.size := (HB2.lt_row)
              exact ⟨by omega, fun e => by injection e with e; omega⟩
          clear hgrow hown5 hown2 hat hlt5 hbA HB2 hbN
          go_wp2
          go_roundw
          case rel => exact ⟨some g, D ++ [m], Y, some ⟨g5, 0, none⟩, F.length + 1, cap5, rfl, by rw [HF.out], HB5, HYX, HS2, by omega, by simp; omega, by rw [HF.out]; simp only; rw [HP.out]; exact HO.out, nb5, hB5⟩
          case measure => rw [cell5, c2]; simp
  · have h2n : (2000 : Int) < (X.length : Int) := by omega
    have HR : Hid (HapsA l off [] false) := .inr ⟨h2, rfl, rfl⟩
    clear hX hXP hXl hWl hH h2
    go_wp2
    exact bodyPost_ret (v := .tuple #[.slice none 0 0, .bool false]) (by simp [results, Tryz.results35, go_sem]) rfl ⟨_, [], false, rfl, World.ownsRow_nil _ _ _ _, HR.out, hb1⟩
end Go.Proofs.YtbbhpfobcelbfaaGreatDoor
