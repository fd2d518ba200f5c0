/- Packed: Hp13 Hp14 Hp15. -/
import Derived.Test.YtbbhpfobcelbfaaGreatDoorHpPt
import Derived.Test.YtbbhpfobcelbfaaGreatDoorHpQt
import Derived.Test.YtbbhpfobcelbfaaGreatDoorOnPt
import Derived.Lib.MinMax
namespace Go.Proofs.YtbbhpfobcelbfaaGreatDoor
open Go.RowKit Go.Sort

/-- of the first k rules what happens. -/
def wallsA (l : List RuleD) : Nat → List WallD
  | 0 => []
  | k + 1 => wallsA l k ++ (match l[k]? with | some x => wallsX k x | none => [])
theorem wallsA_step {l : List RuleD} {k : Nat} {x : RuleD} (hx : l[k]? = some x) : wallsA l (k + 1) = wallsA l k ++ wallsX k x := by rw [wallsA, hx]
theorem wallsA_len (l : List RuleD) : ∀ k, (wallsA l k).length ≤ 78 * k := by
  intro k
  induction k with
  | zero => simp [wallsA]
  | succ k ih =>
    rw [wallsA, List.length_append]
    have h78 : ∀ x, (wallsX k x).length ≤ 78 := fun x => Nat.le_trans (wallsN_len _ _ _ _) (yrs_le x)
    split
    · rename_i x _; have := h78 x; omega
    · simp; omega
theorem told_mo {y m : Int} (hy : ymB y m = true) (s : ByteArray) : toldV y m s = moV y m s := by unfold toldV; rw [hy, if_pos rfl, on_same hy]
theorem heapB_len {w : World} {hp : Nat} {rb : Option Nat} {X L : List WallD} (_h : HeapB w hp rb X) (hP : X.Perm L) : X.length = L.length := hP.length_eq
/-- all that a heap writes lies from its pointer on. -/
theorem heapB_low {w : World} {hp b : Nat} {rb : Option Nat} {X : List WallD} (h : HeapB w hp rb X) (hb : b = hp ∨ rb = some b) : hp ≤ b := by
  rcases hb with e | e
  · omega
  · obtain ⟨a, c, _, _, h3, _, h5⟩ := h
    exact (h3.lt b (h5.trans e)).1
theorem heapB_lt {w : World} {hp b : Nat} {rb : Option Nat} {X : List WallD} (h : HeapB w hp rb X) (hb : rb = some b) : b < w.heap.size := by
  obtain ⟨a, c, _, _, h3, _, h5⟩ := h
  exact (h3.lt b (h5.trans hb)).2
set_option maxRecDepth 20000 in
set_option maxHeartbeats 4000000 in
theorem impl_happenings (l : List RuleD) (a : Option Addr) (ca : Nat) (w : World) (hA : SeqAt w a 9 (l.map RuleD.cs)) (hT : Tab w) (hMx : Mx w) (hr : ∀ x ∈ l, RuleR x) (hl : l.length ≤ 40) (hon : ∀ x ∈ l, x.on.size ≤ 8000) :
    Calls Tryz.prog 80 #[.slice a l.length ca] w fun e W' => ∃ rb X, e = .returned (.pointer (some ⟨w.heap.size, 0, none⟩)) ∧ HeapB W' w.heap.size rb X ∧ HeapX X ∧ X.Perm (wallsA l l.length) ∧ Below w.heap.size w W' := by
  have HRR : Hid (∀ x ∈ l, RuleR x) := hr
  have HON : Hid (∀ x ∈ l, x.on.size ≤ 8000) := hon
  clear hr hon
  have H0 : HeapB (w.alloc (.cells #[.slice none 0 0] 132)) w.heap.size none [] := ⟨none, 0, by simp [go_sem], by simp [go_sem], World.ownsRow_nil _ _ _ _, by simp [Value.ownBlock], rfl⟩
  have X0 : Hid (HeapX []) := fun i p c _ hp => by simp at hp
  go_enter Tryz.func80, Tryz.ntmps80
  go_wp2
  go_loopw [12] (fun s12 wr => ∃ (k : Nat) (rb : Option Nat) (X : List WallD), k ≤ l.length ∧ s12 = .int .i64 k ∧ HeapB wr w.heap.size rb X ∧ Hid (HeapX X) ∧ Hid (X.Perm (wallsA l k)) ∧ Below w.heap.size w wr) (fun s12 _ => l.length - (intOf s12).toNat)
  case atStart => exact ⟨0, none, [], by omega, rfl, H0, X0, List.Perm.refl _, (Below.refl _ _).alloc (Nat.le_refl _) _⟩
  case round =>
    clear H0 X0
    obtain ⟨k, rb, X, hk, rfl, hH, HX, HP, hBr⟩ := hrel
    have hsW := hBr.size
    have hlen := wallsA_len l k
    by_cases hlt : k < l.length
    · obtain ⟨x, hx⟩ : ∃ x, l[k]? = some x := ⟨_, List.getElem?_eq_getElem hlt⟩
      have hRx := HRR.out x (List.mem_of_getElem? hx)
      have hox := HON.out x (List.mem_of_getElem? hx)
      obtain ⟨b9, o9, rfl, hc⟩ := (hA.below hBr).at (i := k) (r := x.cs) (by rw [List.getElem?_map, hx]; rfl)
      have c0 : wr.cell? ⟨b9, o9 + k * 9, none⟩ = some (.string x.name) := hc 0 _ rfl
      have c1 := hc 1 _ rfl
      have c2 := hc 2 _ rfl
      have c3 := hc 3 _ rfl
      have c4 := hc 4 _ rfl
      have c5 := hc 5 _ rfl
      have c6 := hc 6 _ rfl
      have c7 := hc 7 _ rfl
      have c8 := hc 8 _ rfl
      clear hc
      have HT : Hid (wallsA l (k + 1) = wallsA l k ++ wallsX k x) := wallsA_step hx
      obtain ⟨L, hL⟩ : ∃ L, wallsA l k = L := ⟨_, rfl⟩
      rw [hL] at HT HP hlen
      clear hL hx
      obtain ⟨ya, hya⟩ : ∃ y, max x.lo 1960 = y := ⟨_, rfl⟩
      obtain ⟨ye, hye⟩ : ∃ y, min x.hi 2037 = y := ⟨_, rfl⟩
      have ya1 : 1960 ≤ ya := by omega
      have ye1 : ye ≤ 2037 := by omega
      have HXn : Hid (∀ n : Nat, ¬ ya + n ≤ ye → ya + n ≤ ye + 1 ∨ n = 0 → wallsX k x = wallsN k x ya n) := fun n h1 h2 => by
        unfold wallsX yrs
        rw [hya, hye]
        congr 1
        omega
      have hbB := (Below.refl wr.heap.size wr).alloc (Nat.le_refl _) (.cells #[.string x.name, .int .i64 x.lo, .int .i64 x.hi, .int .i64 x.month, .string x.on, .int .i64 x.at_, .string x.of, .int .i64 x.save, .string x.letter] 120)
      have own1 := hH.below hbB
      have B1 : Below w.heap.size w (wr.alloc (.cells #[.string x.name, .int .i64 x.lo, .int .i64 x.hi, .int .i64 x.month, .string x.on, .int .i64 x.at_, .string x.of, .int .i64 x.save, .string x.letter] 120)) := hBr.alloc hsW _
      have nbx : rb ≠ some wr.heap.size := fun e => by have := heapB_lt hH e; omega
      have hph : w.heap.size < wr.heap.size := by obtain ⟨_, _, h1, _⟩ := hH; exact World.block_lt_of_cell? _ _ h1
      have hsb : (wr.alloc (.cells #[.string x.name, .int .i64 x.lo, .int .i64 x.hi, .int .i64 x.month, .string x.on, .int .i64 x.at_, .string x.of, .int .i64 x.save, .string x.letter] 120)).heap.size = wr.heap.size + 1 := by simp
      have e1 : (wr.alloc (.cells #[.string x.name, .int .i64 x.lo, .int .i64 x.hi, .int .i64 x.month, .string x.on, .int .i64 x.at_, .string x.of, .int .i64 x.save, .string x.letter] 120)).cell? ⟨wr.heap.size, 1, none⟩ = some (.int .i64 x.lo) := by simp [go_sem]
      have e2 : (wr.alloc (.cells #[.string x.name, .int .i64 x.lo, .int .i64 x.hi, .int .i64 x.month, .string x.on, .int .i64 x.at_, .string x.of, .int .i64 x.save, .string x.letter] 120)).cell? ⟨wr.heap.size, 2, none⟩ = some (.int .i64 x.hi) := by simp [go_sem]
      have e3 : (wr.alloc (.cells #[.string x.name, .int .i64 x.lo, .int .i64 x.hi, .int .i64 x.month, .string x.on, .int .i64 x.at_, .string x.of, .int .i64 x.save, .string x.letter] 120)).cell? ⟨wr.heap.size, 3, none⟩ = some (.int .i64 x.month) := by simp [go_sem]
      have e4 : (wr.alloc (.cells #[.string x.name, .int .i64 x.lo, .int .i64 x.hi, .int .i64 x.month, .string x.on, .int .i64 x.at_, .string x.of, .int .i64 x.save, .string x.letter] 120)).cell? ⟨wr.heap.size, 4, none⟩ = some (.string x.on) := by simp [go_sem]
      have e5 : (wr.alloc (.cells #[.string x.name, .int .i64 x.lo, .int .i64 x.hi, .int .i64 x.month, .string x.on, .int .i64 x.at_, .string x.of, .int .i64 x.save, .string x.letter] 120)).cell? ⟨wr.heap.size, 5, none⟩ = some (.int .i64 x.at_) := by simp [go_sem]
      have HP1 : Hid (X.Perm (L ++ wallsN k x ya 0)) := by rw [show L ++ wallsN k x ya 0 = L from List.append_nil _]; exact HP
      go_wp2
      obtain ⟨wB, hwB⟩ : ∃ wB, (wr.alloc (.cells #[.string x.name, .int .i64 x.lo, .int .i64 x.hi, .int .i64 x.month, .string x.on, .int .i64 x.at_, .string x.of, .int .i64 x.save, .string x.letter] 120)) = wB := ⟨_, rfl⟩
      obtain ⟨bx, hbx⟩ : ∃ bx, wr.heap.size = bx := ⟨_, rfl⟩
      rw [hwB] at own1 B1 hsb e1 e2 e3 e4 e5 ⊢
      rw [hbx] at hsb e1 e2 e3 e4 e5 nbx hph ⊢
      clear hwB hbx hH hBr hsW hbB c0 c1 c2 c3 c4 c5 c6 c7 c8 HP
      go_loopw [6] (fun s6 wq => ∃ (n : Nat) (rq : Option Nat) (Y : List WallD), s6 = .int .i64 (ya + n) ∧ (ya + n ≤ ye + 1 ∨ n = 0) ∧ HeapB wq w.heap.size rq Y ∧ Hid (HeapX Y) ∧ Hid (Y.Perm (L ++ wallsN k x ya n)) ∧ rq ≠ some bx ∧ bx < wq.heap.size ∧ (wq.cell? ⟨bx, 2, none⟩ = some (.int .i64 x.hi) ∧ wq.cell? ⟨bx, 3, none⟩ = some (.int .i64 x.month) ∧ wq.cell? ⟨bx, 4, none⟩ = some (.string x.on) ∧ wq.cell? ⟨bx, 5, none⟩ = some (.int .i64 x.at_)) ∧ Below w.heap.size w wq) (fun s6 _ => (ye + 1 - intOf s6).toNat)
      case atStart => exact ⟨0, rb, X, by simp, .inr rfl, own1, HX, HP1, nbx, by omega, ⟨e2, e3, e4, e5⟩, B1⟩
      case round =>
        obtain ⟨n, rq, Y, rfl, hyn, hHq, HXq, HPq, nq, hbq, ⟨q2, q3, q4, q5⟩, Bq⟩ := hrel
        clear own1 nbx B1 hsb e1 e2 e3 e4 e5 HP1 HX
        have hsq := Bq.size
        have hwn := wallsN_len k x ya n
        have hYl : Y.length ≤ 4000 := by rw [HPq.out.length_eq, List.length_append]; have := yrs_le x; rcases hyn with e | e <;> omega
        by_cases hy : ya + n ≤ ye
        · have hym : ymB (ya + n) x.month = true := ym_ok (by omega) (by omega) hRx.month.1 hRx.month.2
          have hO := fun w (h1 : Tab w) (h2 : Mx w) => impl_DayOn (ya + n) x.month x.on w h1 h2 hox
          rw [told_mo hym] at hO
          have hbd := mo_bd (s := x.on) hym
          have ha1 := hRx.at_.1
          have ha2 := hRx.at_.2
          by_cases hd : moV (ya + n) x.month x.on = -1000000
          · have HW : Hid (wallsN k x ya (n + 1) = wallsN k x ya n) := by simp only [Hid]; rw [wallsN, wallsY_no hd, List.append_nil]
            rw [hd] at hO
            clear hd hbd hym
            go_wp2_with fail
            refine (hO _ (hT.of_below Bq) (hMx.of_below Bq)).mono ?_
            rintro e w3 ⟨rfl, hb3⟩
            have Q2 := keepC hb3 q2
            have Q3 := keepC hb3 q3
            have Q4 := keepC hb3 q4
            have Q5 := keepC hb3 q5
            have hs3 := hb3.size
            have own3 := hHq.below hb3
            have B3 := Bq.trans (hb3.mono hsq)
            clear hb3 q2 q3 q4 q5 hHq
            go_wp2
            go_roundw
            case rel => exact ⟨n + 1, rq, Y, by congr 1; omega, .inl (by omega), own3, HXq, by rw [HW.out]; exact HPq, nq, by omega, ⟨Q2, Q3, Q4, Q5⟩, B3⟩
            case measure => simp [intOf]; omega
          · have HW : Hid (wallsN k x ya (n + 1) = wallsN k x ya n ++ [⟨moV (ya + n) x.month x.on * 86400 + x.at_, k⟩]) := by simp only [Hid]; rw [wallsN, wallsY_yes hd, Int.mul_comm]
            have hbd2 := hbd.resolve_left hd
            have gd : (moV (ya + n) x.month x.on != -1000000) = true := by simpa using hd
            generalize moV (ya + n) x.month x.on = dy at *
            have HPn : Hid (∀ Z : List WallD, Z.Perm (Y ++ [⟨dy * 86400 + x.at_, k⟩]) → Z.Perm (L ++ wallsN k x ya (n + 1))) := fun Z hZ => by
              rw [HW.out, ← List.append_assoc]
              exact hZ.trans (HPq.out.append_right _)
            have hPu := fun w h => impl_push Y ⟨dy * 86400 + x.at_, k⟩ w.heap.size rq w h HXq.out hYl
            have hPu2 := fun (w4 : World) h => impl_push Y ⟨dy * 86400 + x.at_, k⟩ w.heap.size rq w4 h HXq.out hYl
            simp only [WallD.v] at hPu2
            clear hd hbd hym HW hPu
            go_wp2_with fail
            refine (hO _ (hT.of_below Bq) (hMx.of_below Bq)).mono ?_
            rintro e w3 ⟨rfl, hb3⟩
            have Q2 := keepC hb3 q2
            have Q3 := keepC hb3 q3
            have Q4 := keepC hb3 q4
            have Q5 := keepC hb3 q5
            have hs3 := hb3.size
            have own3 := hHq.below hb3
            have B3 := Bq.trans (hb3.mono hsq)
            clear hb3 q2 q3 q4 q5 hHq
            go_wp2_with fail
            refine (hPu2 _ own3).mono ?_
            rintro e w4 ⟨rfl, ⟨Z, rz, hZ, hZX, hZP, hrz⟩, fr⟩
            have nS : ¬ (bx = w.heap.size ∨ rq = some bx) := fun e => by
              rcases e with e | e
              · omega
              · exact nq e
            have R2 := fr.cell (b := bx) (o := 2) nS Q2
            have R3 := fr.cell (b := bx) (o := 3) nS Q3
            have R4 := fr.cell (b := bx) (o := 4) nS Q4
            have R5 := fr.cell (b := bx) (o := 5) nS Q5
            have hs4 := fr.size
            have B4 : Below w.heap.size w w4 := B3.trans (fr.below (fun b hb => heapB_low own3 hb) (by omega))
            have nz : rz ≠ some bx := fun e => by
              rcases hrz with e2 | ⟨k2, hk2, e2⟩
              · exact nq (e2 ▸ e)
              · rw [e2] at e; injection e with e; omega
            have HZX : Hid (HeapX Z) := hZX
            have HZP : Hid (Z.Perm (L ++ wallsN k x ya (n + 1))) := HPn.out Z hZP
            clear fr own3 Q2 Q3 Q4 Q5 hZX hZP HPn
            go_wp2
            go_roundw
            case rel => exact ⟨n + 1, rz, Z, by congr 1; omega, .inl (by omega), hZ, HZX, HZP, nz, by omega, ⟨R2, R3, R4, R5⟩, B4⟩
            case measure => simp [intOf]; omega
        · have HE : Hid (Y.Perm (wallsA l (k + 1))) := by simp only [Hid]; rw [HT.out, HXn.out n (by omega) hyn]; exact HPq.out
          go_wp2
          go_roundw
          case rel => exact ⟨k + 1, rq, Y, by omega, by go_num, hHq, HXq, HE, Bq⟩
          case measure => simp [intOf]; omega
    · obtain rfl : k = l.length := by omega
      go_wp2
      go_ret
      exact ⟨rb, X, rfl, hH, HX.out, HP.out, hBr⟩
end Go.Proofs.YtbbhpfobcelbfaaGreatDoor
namespace Go.Proofs.YtbbhpfobcelbfaaGreatDoor
open Go.RowKit Go.Sort

theorem owns_fr {S : Nat → Prop} {w w' : World} {base : Nat} {e : TypeId} {size : Nat} {v : Value} {n : Nat} {xs : List Value} (h : w.ownsRow base e size v n xs) (hf : Fr S w w') (hs : ∀ b, v.ownBlock = some b → ¬ S b) : w'.ownsRow base e size v n xs := by
  refine ⟨h.1, ?_⟩
  rcases h.2 with h | ⟨g, cap, cur, rfl, e2, e3, e4⟩
  · exact .inl h
  · exact .inr ⟨g, cap, cur, rfl, e2, (hf.block g (Array.getElem?_eq_some_iff.1 e3).1 (hs g rfl)).trans e3, e4⟩
theorem heapB_fr {S : Nat → Prop} {w w' : World} {hp : Nat} {rb : Option Nat} {X : List WallD} (h : HeapB w hp rb X) (hf : Fr S w w') (h1 : ¬ S hp) (h2 : ∀ b, rb = some b → ¬ S b) : HeapB w' hp rb X := by
  obtain ⟨a, c, c1, c2, c3, c4, c5⟩ := h
  exact ⟨a, c, hf.cell h1 c1, (hf.frozen (World.block_lt_of_cell? _ _ c1) h1).trans c2, owns_fr c3 hf (fun b hb => h2 b (c5.symm.trans hb)), c4, c5⟩
theorem HeapB.lt_row {w : World} {hp g : Nat} {X : List WallD} (h : HeapB w hp (some g) X) : g < w.heap.size := heapB_lt h rfl
/-- a heap that is not empty, opened. -/
theorem heapB_open {w : World} {hp n : Nat} {rb : Option Nat} {X : List WallD} (h : HeapB w hp rb X) (hn : X.length = n + 1) : ∃ g cap, w.cell? ⟨hp, 0, none⟩ = some (.slice (some ⟨g, 0, none⟩) (n + 1) cap) ∧ w.frozen? ⟨hp, 0, none⟩ = false ∧ OwnsG w hp (.slice (some ⟨g, 0, none⟩) (n + 1) cap) X ∧ hp ≠ g ∧ rb = some g ∧ n + 1 ≤ cap := by
  obtain ⟨a, c, c1, c2, c3, c4, c5⟩ := h
  have c3' := c3
  unfold OwnsG at c3'
  rw [hn] at c1 c3 c4 c5 c3'
  rcases c3'.2 with ⟨_, h0⟩ | ⟨g, cap, cur, e, _, _, hc, _⟩
  · omega
  · injection e with e1 e2 e3
    subst e1 e3
    exact ⟨g, c, c1, c2, c3, fun e => c4 (by rw [e]; rfl), c5.symm, hc⟩
theorem foldH_snoc {l : List RuleD} {off : Int} {D : List WallD} {m : WallD} {x : RuleD} (hx : l[m.place]? = some x) : foldH l off (D ++ [m]) = ((foldH l off D).1 ++ [hapOf x m.wall off (foldH l off D).2], x.save) := by
  unfold foldH
  rw [List.foldl_append]
  show stepH l off _ m = _
  unfold stepH
  rw [hx]
theorem wallsA_mem {l : List RuleD} (hl : ∀ x ∈ l, RuleR x) {m : WallD} : ∀ {k : Nat}, m ∈ wallsA l k → m.place < k ∧ -100000000000 ≤ m.wall ∧ m.wall ≤ 300000000000 := by
  intro k
  induction k with
  | zero => intro h; simp [wallsA] at h
  | succ k ih =>
    intro h
    rw [wallsA, List.mem_append] at h
    rcases h with h | h
    · obtain ⟨h2, h3⟩ := ih h
      exact ⟨by omega, h3⟩
    · split at h
      · rename_i x hx
        by_cases hy : yrs x = 0
        · unfold wallsX at h; rw [hy] at h; simp [wallsN] at h
        · obtain ⟨p1, p2⟩ := wallsN_mem (hl x (List.mem_of_getElem? hx)) (by omega) (by unfold yrs at *; omega) h
          exact ⟨by omega, p2⟩
      · simp at h
/-- what is told of what happens by rules of one name. -/
def HapsA (l : List RuleD) (off : Int) (H : List HapD) (b : Bool) : Prop := ((wallsA l l.length).length ≤ 2000 ∧ b = true ∧ ∃ P : List WallD, P.Pairwise LeW ∧ P.Perm (wallsA l l.length) ∧ H = (foldH l off P).1) ∨ (¬ (wallsA l l.length).length ≤ 2000 ∧ b = false ∧ H = [])
/-- what has been taken out of a heap, and what is in it. -/
structure PopS (l : List RuleD) (D X : List WallD) : Prop where
  up : D.Pairwise LeW
  all : ∀ d ∈ D, ∀ y ∈ X, LeW d y
  perm : (D ++ X).Perm (wallsA l l.length)
theorem pop_step {l : List RuleD} {D X Y : List WallD} {m : WallD} (h : PopS l D X) (hP : X.Perm (m :: Y)) (hm : ∀ y ∈ Y, LeW m y) : PopS l (D ++ [m]) Y := by
  refine ⟨List.pairwise_append.mpr ⟨h.up, by simp, fun d hd y hy => ?_⟩, fun d hd y hy => ?_, ?_⟩
  · simp at hy; subst hy
    exact h.all d hd y (hP.mem_iff.mpr (by simp))
  · rcases List.mem_append.mp hd with e | e
    · exact h.all d e y (hP.mem_iff.mpr (List.mem_cons_of_mem _ hy))
    · simp at e; subst e; exact hm y hy
  · rw [List.append_assoc]
    exact (List.Perm.append_left D hP.symm).trans h.perm
set_option maxRecDepth 20000 in
set_option maxHeartbeats 4000000 in
theorem impl_hapsAt (l : List RuleD) (a : Option Addr) (ca : Nat) (off : Int) (w : World) (hA : SeqAt w a 9 (l.map RuleD.cs)) (hT : Tab w) (hMx : Mx w) (hr : ∀ x ∈ l, RuleR x) (hl : l.length ≤ 40) (hon : ∀ x ∈ l, x.on.size ≤ 8000) (f1 : -86400 ≤ off) (f2 : off ≤ 86400) :
    Calls Tryz.prog 35 #[.slice a l.length ca, .int .i64 off] w fun e W' => ∃ v' H b, e = .returned (.tuple #[v', .bool b]) ∧ OwnsH W' w.heap.size v' H ∧ HapsA l off H b ∧ Below w.heap.size w W' := by
  obtain ⟨i0, hi, hz0, hz1, hz2⟩ := info_parts infoHap2
  have HRR : Hid (∀ x ∈ l, RuleR x) := hr
  have hH := impl_happenings l a ca w hA hT hMx hr hl hon
  have hWl := wallsA_len l l.length
  clear hr hon hT hMx
  go_enter Tryz.func35, Tryz.ntmps35
  go_wp2_with fail
  refine hH.mono ?_
  rintro e w1 ⟨rb, X, rfl, hB, hX, hXP, hb1⟩
  have hXl := hXP.length_eq
  have hcell : ∃ a c, w1.cell? ⟨w.heap.size, 0, none⟩ = some (.slice a X.length c) := by obtain ⟨a, c, h, _⟩ := hB; exact ⟨a, c, h⟩
  obtain ⟨a1, c1, hc1⟩ := hcell
  by_cases h2 : (wallsA l l.length).length ≤ 2000
  · have HS0 : Hid (PopS l [] X) := ⟨List.Pairwise.nil, fun d hd => by simp at hd, hXP⟩
    have HX0 : Hid (HeapX X) := hX
    have h2' : X.length ≤ 2000 := by omega
    have HW : Hid ((wallsA l l.length).length ≤ 2000) := h2
    have h2n : ¬ (2000 : Int) < (X.length : Int) := by omega
    clear hX hXP hXl hWl hH h2
    go_wp2
    go_loopw [7, 8] (fun s7 s8 wr => ∃ (rb : Option Nat) (D X : List WallD) (a7 : Option Addr) (n7 c7 : Nat), s7 = .slice a7 n7 c7 ∧ s8 = .int .i64 (foldH l off D).2 ∧ HeapB wr w.heap.size rb X ∧ Hid (HeapX X) ∧ Hid (PopS l D X) ∧ X.length ≤ 2000 ∧ D.length + X.length ≤ 2000 ∧ OwnsH wr w.heap.size (.slice a7 n7 c7) (foldH l off D).1 ∧ (∀ b, (Value.slice a7 n7 c7).ownBlock = some b → b ≠ w.heap.size ∧ rb ≠ some b) ∧ Below w.heap.size w wr) (fun _ _ wr => match wr.cell? ⟨w.heap.size, 0, none⟩ with | some (.slice _ n _) => n | _ => 0)
    case atStart => exact ⟨rb, [], X, none, 0, 0, rfl, rfl, hB, HX0, HS0, h2', by simpa using h2', World.ownsRow_nil _ _ _ _, fun b hb => by simp [Value.ownBlock] at hb, hb1⟩
    case round =>
      clear hB HS0 HX0 h2' hb1 hc1 h2n
      obtain ⟨rb, D, X, a7, n7, c7, rfl, rfl, hB, HX, HS, hX2, hDX, hown, hnb, hBr⟩ := hrel
      have hsW := hBr.size
      have hsv : -7200 ≤ (foldH l off D).2 ∧ (foldH l off D).2 ≤ 7200 := by
        have := foldH_save (off := off) (s := D) (l := l) (fun m hm => (wallsA_mem HRR.out (HS.out.perm.mem_iff.mp (List.mem_append_left _ hm))).1) (fun x hx => (HRR.out x hx).save) D.length (Nat.le_refl _)
        rw [List.take_length] at this
        exact this
      have hfl : (foldH l off D).1.length = D.length := by
        have := foldH_len (off := off) (s := D) (l := l) (fun m hm => (wallsA_mem HRR.out (HS.out.perm.mem_iff.mp (List.mem_append_left _ hm))).1) D.length (Nat.le_refl _)
        rw [List.take_length] at this
        exact this
      by_cases hpos : X.length = 0
      · have hXn : X = [] := List.length_eq_zero_iff.mp hpos
        subst hXn
        obtain ⟨a2, c2, hc2, _⟩ := hB
        have HR : Hid (HapsA l off (foldH l off D).1 true) := .inl ⟨HW.out, rfl, D, HS.out.up, by have := HS.out.perm; rw [List.append_nil] at this; exact this, rfl⟩
        clear HS HX hsv hfl
        generalize foldH l off D = F at *
        go_wp2
        exact bodyPost_ret (v := .tuple #[.slice a7 n7 c7, .bool true]) (by simp [results, Tryz.results35, go_sem]) rfl ⟨_, _, true, rfl, hown, HR.out, hBr⟩
      · obtain ⟨n, hn⟩ : ∃ n, X.length = n + 1 := ⟨X.length - 1, by omega⟩
        obtain ⟨g, cap, c2, c3, c4, hne, hrb, hcap⟩ := heapB_open hB hn
        have hPo := impl_pop X n w.heap.size g cap wr c2 c3 c4 hn hne HX.out (by omega) hcap
        have hpn : (0 : Int) < (n : Int) + 1 := by omega
        have HN : Hid (X.length = n + 1) := hn
        clear hn hB hpos
        simp only [WallD.v] at hPo
        go_wp2_with fail
        refine hPo.mono ?_
        rintro e w2 ⟨m, Y, rfl, hYX, hYP, hYm, hYl, d1, d2, d3, fr⟩
        have hgl := (c4.lt g rfl)
        have hszp := World.block_lt_of_cell? _ _ c2
        have HS2 : Hid (PopS l (D ++ [m]) Y) := pop_step HS.out hYP hYm
        have HYX : Hid (HeapX Y) := hYX
        obtain ⟨hpl, wb1, wb2⟩ := wallsA_mem HRR.out (HS.out.perm.mem_iff.mp (List.mem_append_right _ (hYP.mem_iff.mpr (by simp : m ∈ m :: Y))))
        obtain ⟨x, hx⟩ : ∃ x, l[m.place]? = some x := ⟨_, List.getElem?_eq_getElem hpl⟩
        have hB2 : Below w.heap.size w w2 := hBr.trans (fr.below (fun b hb => by rcases hb with e | e <;> omega) (by omega))
        have hown2 : OwnsH w2 w.heap.size (.slice a7 n7 c7) (foldH l off D).1 := owns_fr hown fr (fun b hb hs => by
          obtain ⟨q1, q2⟩ := hnb b hb
          rcases hs with e | e
          · exact q1 e
          · exact q2 (by rw [e]; exact hrb))
        have HB2 : HeapB w2 w.heap.size (some g) Y := heapB_of (cap := cap) (by rw [hYl]; exact d1) d2 (by rw [hYl]; exact d3) hne
        have hgn : ∀ b, (Value.slice a7 n7 c7).ownBlock = some b → b ≠ w.heap.size ∧ b ≠ g := fun b hb => ⟨(hnb b hb).1, fun e => (hnb b hb).2 (by rw [e]; exact hrb)⟩
        have hF := foldH_snoc (off := off) (D := D) hx
        have HF : Hid (foldH l off (D ++ [m]) = ((foldH l off D).1 ++ [hapOf x m.wall off (foldH l off D).2], x.save)) := hF
        obtain ⟨b9, o9, rfl, hc⟩ := (hA.below hB2).at (i := m.place) (r := x.cs) (by rw [List.getElem?_map, hx]; rfl)
        have hbN := (Below.refl w2.heap.size w2).alloc (Nat.le_refl _) (.cells #[.int .i64 m.wall, .int .i64 m.place] 134)
        have c0' : (w2.alloc (.cells #[.int .i64 m.wall, .int .i64 m.place] 134)).cell? ⟨b9, o9 + m.place * 9, none⟩ = some (.string x.name) := keepC hbN (hc 0 _ rfl)
        have c1' : (w2.alloc (.cells #[.int .i64 m.wall, .int .i64 m.place] 134)).cell? ⟨b9, o9 + m.place * 9 + 1, none⟩ = some (.int .i64 x.lo) := keepC hbN (hc 1 _ rfl)
        have c2' : (w2.alloc (.cells #[.int .i64 m.wall, .int .i64 m.place] 134)).cell? ⟨b9, o9 + m.place * 9 + 2, none⟩ = some (.int .i64 x.hi) := keepC hbN (hc 2 _ rfl)
        have c3' : (w2.alloc (.cells #[.int .i64 m.wall, .int .i64 m.place] 134)).cell? ⟨b9, o9 + m.place * 9 + 3, none⟩ = some (.int .i64 x.month) := keepC hbN (hc 3 _ rfl)
        have c4' : (w2.alloc (.cells #[.int .i64 m.wall, .int .i64 m.place] 134)).cell? ⟨b9, o9 + m.place * 9 + 4, none⟩ = some (.string x.on) := keepC hbN (hc 4 _ rfl)
        have c5' : (w2.alloc (.cells #[.int .i64 m.wall, .int .i64 m.place] 134)).cell? ⟨b9, o9 + m.place * 9 + 5, none⟩ = some (.int .i64 x.at_) := keepC hbN (hc 5 _ rfl)
        have c6' : (w2.alloc (.cells #[.int .i64 m.wall, .int .i64 m.place] 134)).cell? ⟨b9, o9 + m.place * 9 + 6, none⟩ = some (.string x.of) := keepC hbN (hc 6 _ rfl)
        have c7' : (w2.alloc (.cells #[.int .i64 m.wall, .int .i64 m.place] 134)).cell? ⟨b9, o9 + m.place * 9 + 7, none⟩ = some (.int .i64 x.save) := keepC hbN (hc 7 _ rfl)
        have c8' : (w2.alloc (.cells #[.int .i64 m.wall, .int .i64 m.place] 134)).cell? ⟨b9, o9 + m.place * 9 + 8, none⟩ = some (.string x.letter) := keepC hbN (hc 8 _ rfl)
        obtain ⟨⟨F, sv⟩, hFF⟩ : ∃ R, foldH l off D = R := ⟨_, rfl⟩
        rw [hFF] at HF hown2 hsv hfl
        rw [hFF]
        simp only at hown2 hsv hfl
        have hFl2 : F.length ≤ 2000 := by omega
        clear hfl
        have hYl2 : D.length + 1 + Y.length ≤ 2000 := by have := HN.out; omega
        have hm0 : (0 : Int) ≤ (m.place : Int) := by omega
        have hm1 : (m.place : Int) < (l.length : Int) := by omega
        obtain ⟨sv1, sv2⟩ := hsv
        clear hF hFF hc hx hown fr hnb HS HX hYX hYP hYm c3 c4 d2 d3
        cases hs : (x.of.toList == [115])
        · cases hw : (x.of.toList == [119])
          · have HP : Hid (hapOf x m.wall off sv = ⟨m.wall, x.save, x.letter⟩) := hap_u hs hw
            go_wp2_with (first
              | (at_builtin; refine wpList_append_lies _ rfl _ _ 30 rfl w.heap.size 36 i0 (.agg #[.int .i64 0, .int .i64 0, .string ⟨#[]⟩]) 3 32 Tryz.underlying30 hi hz0 hz1 hz2 rfl (by decide) _ _ _ rfl (World.ownsRow.alloc (World.ownsRow.alloc (World.ownsRow.alloc hown2 _) _) _) ⟨w2.heap.size + 1 + 1, 0, none⟩ 1 1 [.int .i64 (m.wall), .int .i64 x.save, .string x.letter] rfl rfl ?c1a ?c2a (by omega) ?c3a ?c4a ?c5a _ rfl ?_)
              | fail)
            case c1a => simpa using cells_new ((w2.alloc (.cells #[.int .i64 m.wall, .int .i64 m.place] 134)).alloc (.cells #[.string x.name, .int .i64 x.lo, .int .i64 x.hi, .int .i64 x.month, .string x.on, .int .i64 x.at_, .string x.of, .int .i64 x.save, .string x.letter] 120)) [.int .i64 (m.wall), .int .i64 x.save, .string x.letter] 36
            case c2a => intro u hu; simp at hu; rcases hu with rfl | rfl | rfl <;> rfl
            case c3a => unfold maxLen; omega
            case c4a => omega
            case c5a => simp; have := hB2.size; omega
            intro g5 cap5 w5 hown5 hgrow hat hlt5
            have hbA := ((hbN.alloc (by simp) (.cells #[.string x.name, .int .i64 x.lo, .int .i64 x.hi, .int .i64 x.month, .string x.on, .int .i64 x.at_, .string x.of, .int .i64 x.save, .string x.letter] 120)).alloc (by simp; omega) (.cells #[.int .i64 (m.wall), .int .i64 x.save, .string x.letter] 36))
            have hB5 : Below w.heap.size w w5 := (hB2.trans (hbA.mono hB2.size)).grown hgrow (by have := hB2.size; have := hbA.size; omega) (fun k hk => (hown2.lt k hk).1)
            have HO : Hid (OwnsH w5 w.heap.size (.slice (some ⟨g5, 0, none⟩) (F.length + 1) cap5) (F ++ [⟨m.wall, x.save, x.letter⟩])) := OwnsH.add (p := ⟨m.wall, x.save, x.letter⟩) hown5
            have HB5 : HeapB w5 w.heap.size (some g) Y := heapB_fr (HB2.below hbA) (Fr.of_grown hgrow) (fun e => (hgn _ e).1 rfl) (fun b hb e => by injection hb with hb; subst hb; exact (hgn _ e).2 rfl)
            have cell5 : w5.cell? ⟨w.heap.size, 0, none⟩ = some (.slice (some ⟨g, 0, none⟩) n cap) := hgrow.cell (keepC hbA d1) (fun e => (hgn _ e.symm).1 rfl)
            have r7 : w5.cell? ⟨w2.heap.size + 1, 7, none⟩ = some (.int .i64 x.save) := hgrow.cell (by simp [go_sem]) (fun e => absurd (show w2.heap.size + 1 < w2.heap.size from (hown2.lt _ e.symm).2) (by omega))
            have nb5 : ∀ b, (Value.slice (some ⟨g5, 0, none⟩) (F.length + 1) cap5).ownBlock = some b → b ≠ w.heap.size ∧ some g ≠ some b := fun b hb => by
              have e : g5 = b := by simpa [Value.ownBlock] using hb
              subst e
              rcases hat with hh | hh
              · exact ⟨(hgn _ hh).1, fun e => by injection e with e; exact (hgn _ hh).2 e.symm⟩
              · have hz := hbA.size
                have hd := World.block_lt_of_cell? _ _ d1
                have hg2 : g < w2.heap.size := (HB2.lt_row)
                exact ⟨by omega, fun e => by injection e with e; omega⟩
            clear hgrow hown5 hown2 hat hlt5 hbA HB2 hbN
            go_wp2
            go_roundw
            case rel => exact ⟨some g, D ++ [m], Y, some ⟨g5, 0, none⟩, F.length + 1, cap5, rfl, by rw [HF.out], HB5, HYX, HS2, by omega, by simp; omega, by rw [HF.out]; simp only; rw [HP.out]; exact HO.out, nb5, hB5⟩
            case measure => rw [cell5, c2]; simp
          · have HP : Hid (hapOf x m.wall off sv = ⟨m.wall - (off + sv), x.save, x.letter⟩) := by simp only [Hid]; rw [hap_w hs hw, show m.wall - off - sv = m.wall - (off + sv) by omega]
            go_wp2_with (first
              | (at_builtin; refine wpList_append_lies _ rfl _ _ 30 rfl w.heap.size 36 i0 (.agg #[.int .i64 0, .int .i64 0, .string ⟨#[]⟩]) 3 32 Tryz.underlying30 hi hz0 hz1 hz2 rfl (by decide) _ _ _ rfl (World.ownsRow.alloc (World.ownsRow.alloc (World.ownsRow.alloc hown2 _) _) _) ⟨w2.heap.size + 1 + 1, 0, none⟩ 1 1 [.int .i64 (m.wall - (off + sv)), .int .i64 x.save, .string x.letter] rfl rfl ?c1b ?c2b (by omega) ?c3b ?c4b ?c5b _ rfl ?_)
              | fail)
            case c1b => simpa using cells_new ((w2.alloc (.cells #[.int .i64 m.wall, .int .i64 m.place] 134)).alloc (.cells #[.string x.name, .int .i64 x.lo, .int .i64 x.hi, .int .i64 x.month, .string x.on, .int .i64 x.at_, .string x.of, .int .i64 x.save, .string x.letter] 120)) [.int .i64 (m.wall - (off + sv)), .int .i64 x.save, .string x.letter] 36
            case c2b => intro u hu; simp at hu; rcases hu with rfl | rfl | rfl <;> rfl
            case c3b => unfold maxLen; omega
            case c4b => omega
            case c5b => simp; have := hB2.size; omega
            intro g5 cap5 w5 hown5 hgrow hat hlt5
            have hbA := ((hbN.alloc (by simp) (.cells #[.string x.name, .int .i64 x.lo, .int .i64 x.hi, .int .i64 x.month, .string x.on, .int .i64 x.at_, .string x.of, .int .i64 x.save, .string x.letter] 120)).alloc (by simp; omega) (.cells #[.int .i64 (m.wall - (off + sv)), .int .i64 x.save, .string x.letter] 36))
            have hB5 : Below w.heap.size w w5 := (hB2.trans (hbA.mono hB2.size)).grown hgrow (by have := hB2.size; have := hbA.size; omega) (fun k hk => (hown2.lt k hk).1)
            have HO : Hid (OwnsH w5 w.heap.size (.slice (some ⟨g5, 0, none⟩) (F.length + 1) cap5) (F ++ [⟨m.wall - (off + sv), x.save, x.letter⟩])) := OwnsH.add (p := ⟨m.wall - (off + sv), x.save, x.letter⟩) hown5
            have HB5 : HeapB w5 w.heap.size (some g) Y := heapB_fr (HB2.below hbA) (Fr.of_grown hgrow) (fun e => (hgn _ e).1 rfl) (fun b hb e => by injection hb with hb; subst hb; exact (hgn _ e).2 rfl)
            have cell5 : w5.cell? ⟨w.heap.size, 0, none⟩ = some (.slice (some ⟨g, 0, none⟩) n cap) := hgrow.cell (keepC hbA d1) (fun e => (hgn _ e.symm).1 rfl)
            have r7 : w5.cell? ⟨w2.heap.size + 1, 7, none⟩ = some (.int .i64 x.save) := hgrow.cell (by simp [go_sem]) (fun e => absurd (show w2.heap.size + 1 < w2.heap.size from (hown2.lt _ e.symm).2) (by omega))
            have nb5 : ∀ b, (Value.slice (some ⟨g5, 0, none⟩) (F.length + 1) cap5).ownBlock = some b → b ≠ w.heap.size ∧ some g ≠ some b := fun b hb => by
              have e : g5 = b := by simpa [Value.ownBlock] using hb
              subst e
              rcases hat with hh | hh
              · exact ⟨(hgn _ hh).1, fun e => by injection e with e; exact (hgn _ hh).2 e.symm⟩
              · have hz := hbA.size
                have hd := World.block_lt_of_cell? _ _ d1
                have hg2 : g < w2.heap.size := (HB2.lt_row)
                exact ⟨by omega, fun e => by injection e with e; omega⟩
            clear hgrow hown5 hown2 hat hlt5 hbA HB2 hbN
            go_wp2
            go_roundw
            case rel => exact ⟨some g, D ++ [m], Y, some ⟨g5, 0, none⟩, F.length + 1, cap5, rfl, by rw [HF.out], HB5, HYX, HS2, by omega, by simp; omega, by rw [HF.out]; simp only; rw [HP.out]; exact HO.out, nb5, hB5⟩
            case measure => rw [cell5, c2]; simp
        · have HP : Hid (hapOf x m.wall off sv = ⟨m.wall - off, x.save, x.letter⟩) := hap_s hs
          go_wp2_with (first
            | (at_builtin; refine wpList_append_lies _ rfl _ _ 30 rfl w.heap.size 36 i0 (.agg #[.int .i64 0, .int .i64 0, .string ⟨#[]⟩]) 3 32 Tryz.underlying30 hi hz0 hz1 hz2 rfl (by decide) _ _ _ rfl (World.ownsRow.alloc (World.ownsRow.alloc (World.ownsRow.alloc hown2 _) _) _) ⟨w2.heap.size + 1 + 1, 0, none⟩ 1 1 [.int .i64 (m.wall - off), .int .i64 x.save, .string x.letter] rfl rfl ?c1c ?c2c (by omega) ?c3c ?c4c ?c5c _ rfl ?_)
            | fail)
          case c1c => simpa using cells_new ((w2.alloc (.cells #[.int .i64 m.wall, .int .i64 m.place] 134)).alloc (.cells #[.string x.name, .int .i64 x.lo, .int .i64 x.hi, .int .i64 x.month, .string x.on, .int .i64 x.at_, .string x.of, .int .i64 x.save, .string x.letter] 120)) [.int .i64 (m.wall - off), .int .i64 x.save, .string x.letter] 36
          case c2c => intro u hu; simp at hu; rcases hu with rfl | rfl | rfl <;> rfl
          case c3c => unfold maxLen; omega
          case c4c => omega
          case c5c => simp; have := hB2.size; omega
          intro g5 cap5 w5 hown5 hgrow hat hlt5
          have hbA := ((hbN.alloc (by simp) (.cells #[.string x.name, .int .i64 x.lo, .int .i64 x.hi, .int .i64 x.month, .string x.on, .int .i64 x.at_, .string x.of, .int .i64 x.save, .string x.letter] 120)).alloc (by simp; omega) (.cells #[.int .i64 (m.wall - off), .int .i64 x.save, .string x.letter] 36))
          have hB5 : Below w.heap.size w w5 := (hB2.trans (hbA.mono hB2.size)).grown hgrow (by have := hB2.size; have := hbA.size; omega) (fun k hk => (hown2.lt k hk).1)
          have HO : Hid (OwnsH w5 w.heap.size (.slice (some ⟨g5, 0, none⟩) (F.length + 1) cap5) (F ++ [⟨m.wall - off, x.save, x.letter⟩])) := OwnsH.add (p := ⟨m.wall - off, x.save, x.letter⟩) hown5
          have HB5 : HeapB w5 w.heap.size (some g) Y := heapB_fr (HB2.below hbA) (Fr.of_grown hgrow) (fun e => (hgn _ e).1 rfl) (fun b hb e => by injection hb with hb; subst hb; exact (hgn _ e).2 rfl)
          have cell5 : w5.cell? ⟨w.heap.size, 0, none⟩ = some (.slice (some ⟨g, 0, none⟩) n cap) := hgrow.cell (keepC hbA d1) (fun e => (hgn _ e.symm).1 rfl)
          have r7 : w5.cell? ⟨w2.heap.size + 1, 7, none⟩ = some (.int .i64 x.save) := hgrow.cell (by simp [go_sem]) (fun e => absurd (show w2.heap.size + 1 < w2.heap.size from (hown2.lt _ e.symm).2) (by omega))
          have nb5 : ∀ b, (Value.slice (some ⟨g5, 0, none⟩) (F.length + 1) cap5).ownBlock = some b → b ≠ w.heap.size ∧ some g ≠ some b := fun b hb => by
            have e : g5 = b := by simpa [Value.ownBlock] using hb
            subst e
            rcases hat with hh | hh
            · exact ⟨(hgn _ hh).1, fun e => by injection e with e; exact (hgn _ hh).2 e.symm⟩
            · have hz := hbA.size
              have hd := World.block_lt_of_cell? _ _ d1
              have hg2 : g < w2.heap.size := (HB2.lt_row)
              exact ⟨by omega, fun e => by injection e with e; omega⟩
          clear hgrow hown5 hown2 hat hlt5 hbA HB2 hbN
          go_wp2
          go_roundw
          case rel => exact ⟨some g, D ++ [m], Y, some ⟨g5, 0, none⟩, F.length + 1, cap5, rfl, by rw [HF.out], HB5, HYX, HS2, by omega, by simp; omega, by rw [HF.out]; simp only; rw [HP.out]; exact HO.out, nb5, hB5⟩
          case measure => rw [cell5, c2]; simp
  · have h2n : (2000 : Int) < (X.length : Int) := by omega
    have HR : Hid (HapsA l off [] false) := .inr ⟨h2, rfl, rfl⟩
    clear hX hXP hXl hWl hH h2
    go_wp2
    exact bodyPost_ret (v := .tuple #[.slice none 0 0, .bool false]) (by simp [results, Tryz.results35, go_sem]) rfl ⟨_, [], false, rfl, World.ownsRow_nil _ _ _ _, HR.out, hb1⟩
end Go.Proofs.YtbbhpfobcelbfaaGreatDoor
namespace Go.Proofs.YtbbhpfobcelbfaaGreatDoor
open Go.RowKit

theorem perm_sorted : ∀ {a b : List WallD}, (∀ x ∈ a, ∀ y ∈ a, x.place = y.place → x = y) → a.Pairwise (fun x y => x.place ≤ y.place) → b.Pairwise (fun x y => x.place ≤ y.place) → a.Perm b → a = b := by
  intro a
  induction a with
  | nil => intro b _ _ _ h; exact (List.nil_perm.mp h).symm
  | cons x a ih =>
    intro b hu ha hb h
    cases b with
    | nil => exact absurd h.length_eq (by simp)
    | cons y b =>
      have ha' := List.pairwise_cons.mp ha
      have hb' := List.pairwise_cons.mp hb
      have hxy : x.place = y.place := by
        have h1 : x ∈ y :: b := h.mem_iff.mp (by simp)
        have h2 : y ∈ x :: a := h.mem_iff.mpr (by simp)
        have e1 : y.place ≤ x.place := by
          rcases List.mem_cons.mp h1 with e | e
          · rw [e]; exact Nat.le_refl _
          · exact hb'.1 x e
        have e2 : x.place ≤ y.place := by
          rcases List.mem_cons.mp h2 with e | e
          · rw [e]; exact Nat.le_refl _
          · exact ha'.1 y e
        omega
      have hE : x = y := hu x (by simp) y (h.mem_iff.mpr (by simp)) hxy
      subst hE
      rw [ih (fun p hp q hq => hu p (List.mem_cons_of_mem _ hp) q (List.mem_cons_of_mem _ hq)) ha'.2 hb'.2 ((List.perm_cons x).mp h)]
theorem wallsN_place {i : Nat} {x : RuleD} {y : Int} : ∀ {n : Nat} {m : WallD}, m ∈ wallsN i x y n → m.place = i := by
  intro n
  induction n with
  | zero => intro m h; simp [wallsN] at h
  | succ n ih =>
    intro m h
    rw [wallsN, List.mem_append] at h
    rcases h with h | h
    · exact ih h
    · unfold wallsY at h
      split at h
      · simp at h
      · simp at h; rw [h]
theorem wallsA_lt {l : List RuleD} : ∀ {k : Nat} {m : WallD}, m ∈ wallsA l k → m.place < k := by
  intro k
  induction k with
  | zero => intro m h; simp [wallsA] at h
  | succ k ih =>
    intro m h
    rw [wallsA, List.mem_append] at h
    rcases h with h | h
    · have := ih h; omega
    · split at h
      · have := wallsN_place h; omega
      · simp at h
theorem wallsA_up (l : List RuleD) : ∀ k, (wallsA l k).Pairwise fun x y => x.place ≤ y.place := by
  intro k
  induction k with
  | zero => exact List.Pairwise.nil
  | succ k ih =>
    rw [wallsA, List.pairwise_append]
    refine ⟨ih, ?_, fun a ha b hb => ?_⟩
    · split
      · rename_i x _
        have h : ∀ m ∈ wallsX k x, m.place = k := fun m hm => wallsN_place hm
        exact List.pairwise_iff_forall_sublist.mpr fun {a b} hs => by
          have := h a (hs.subset (by simp))
          have := h b (hs.subset (by simp))
          omega
      · exact List.Pairwise.nil
    · have h1 := wallsA_lt ha
      split at hb
      · have := wallsN_place hb; omega
      · simp at hb
/-- the popped list and the list made: at each wall time the same. -/
theorem popped_at {l : List RuleD} {P : List WallD} (hP : P.Pairwise LeW) (hp : P.Perm (wallsA l l.length)) (t : Int) : atW t P = atW t (wallsA l l.length) := by
  refine perm_sorted (fun x hx y hy e => ?_) ?_ ?_ (hp.filter _)
  · have h1 := of_decide_eq_true (List.mem_filter.mp hx).2
    have h2 := of_decide_eq_true (List.mem_filter.mp hy).2
    obtain ⟨xw, xp⟩ := x
    obtain ⟨yw, yp⟩ := y
    simp at h1 h2 e
    rw [h1, h2, e]
  · refine List.Pairwise.imp_of_mem (fun {a b} ha hb hab => ?_) (hP.filter _)
    have h1 := of_decide_eq_true (List.mem_filter.mp ha).2
    have h2 := of_decide_eq_true (List.mem_filter.mp hb).2
    unfold LeW at hab
    omega
  · exact (wallsA_up l _).filter _
/-- places among the rules of a name turned to those among all. -/
def turnW (ix : List Nat) (m : WallD) : WallD := ⟨m.wall, ix[m.place]?.getD 0⟩
theorem wallsN_turn {ix : List Nat} {n k : Nat} {x : RuleD} {y : Int} (h : ix[n]? = some k) : ∀ c, (wallsN n x y c).map (turnW ix) = wallsN k x y c := by
  intro c
  induction c with
  | zero => rfl
  | succ c ih =>
    rw [wallsN, wallsN, List.map_append, ih]
    congr 1
    unfold wallsY
    split
    · rfl
    · simp [turnW, h]
theorem wallsA_prefix (F : List RuleD) (x : RuleD) : ∀ k, k ≤ F.length → wallsA (F ++ [x]) k = wallsA F k := by
  intro k
  induction k with
  | zero => intro _; rfl
  | succ k ih =>
    intro hk
    rw [wallsA, wallsA, ih (by omega), List.getElem?_append_left (by omega)]
/-- the rules of a name among the first k. -/
structure Link (l : List RuleD) (nm : ByteArray) (k : Nat) (F : List RuleD) (ix : List Nat) : Prop where
  len : F.length = ix.length
  at_ : ∀ (j i : Nat), ix[j]? = some i → l[i]? = F[j]?
  walls : wallsT nm l k = (wallsA F F.length).map (turnW ix)
theorem link_all (l : List RuleD) (nm : ByteArray) : ∀ k, k ≤ l.length → ∃ ix, Link l nm k ((l.take k).filter fun x => x.name.toList == nm.toList) ix := by
  intro k
  induction k with
  | zero => intro _; exact ⟨[], by simp, fun j i h => by simp at h, by simp [wallsT, wallsA]⟩
  | succ k ih =>
    intro hk
    obtain ⟨ix, hL⟩ := ih (by omega)
    obtain ⟨x, hx⟩ : ∃ x, l[k]? = some x := ⟨_, List.getElem?_eq_getElem (by omega)⟩
    rw [List.take_add_one, hx]
    cases hn : (x.name.toList == nm.toList)
    · refine ⟨ix, ?_⟩
      have e : ((l.take k ++ (some x).toList).filter fun x => x.name.toList == nm.toList) = (l.take k).filter fun x => x.name.toList == nm.toList := by
        rw [List.filter_append]; simp [hn]
      rw [e]
      exact ⟨hL.len, hL.at_, by rw [wallsT_no hx hn]; exact hL.walls⟩
    · obtain ⟨F, hF⟩ : ∃ F, ((l.take k).filter fun x => x.name.toList == nm.toList) = F := ⟨_, rfl⟩
      rw [hF] at hL
      have e : ((l.take k ++ (some x).toList).filter fun x => x.name.toList == nm.toList) = F ++ [x] := by
        rw [List.filter_append, hF]; simp [hn]
      rw [e]
      refine ⟨ix ++ [k], by simp [hL.len], fun j i hj => ?_, ?_⟩
      · have hjl := (List.getElem?_eq_some_iff.mp hj).1
        rw [List.length_append] at hjl
        simp at hjl
        by_cases hje : j = ix.length
        · subst hje
          rw [List.getElem?_append_right (Nat.le_refl _)] at hj
          simp at hj
          subst hj
          rw [hx, ← hL.len, List.getElem?_append_right (Nat.le_refl _)]
          simp
        · rw [List.getElem?_append_left (by omega)] at hj
          rw [hL.at_ j i hj, List.getElem?_append_left (by rw [hL.len]; omega)]
      · rw [wallsT_yes hx hn, hL.walls, List.length_append]
        show _ = (wallsA (F ++ [x]) (F.length + 1)).map _
        rw [wallsA_step (x := x) (by simp), wallsA_prefix F x _ (Nat.le_refl _), List.map_append]
        congr 1
        · apply List.map_congr_left
          intro m hm
          have hlt := wallsA_lt hm
          unfold turnW
          rw [List.getElem?_append_left (by rw [← hL.len]; exact hlt)]
        · unfold wallsX
          rw [wallsN_turn (k := k)]
          rw [hL.len]
          simp
theorem fold_turn {l F : List RuleD} {ix : List Nat} {off : Int} (hlen : F.length = ix.length) (h : ∀ (j i : Nat), ix[j]? = some i → l[i]? = F[j]?) : ∀ (P : List WallD) (st : List HapD × Int), (∀ m ∈ P, m.place < F.length) → (P.map (turnW ix)).foldl (stepH l off) st = P.foldl (stepH F off) st := by
  intro P
  induction P with
  | nil => intro st _; rfl
  | cons m P ih =>
    intro st hP
    have hm := hP m (by simp)
    obtain ⟨i, hi⟩ : ∃ i, ix[m.place]? = some i := ⟨_, List.getElem?_eq_getElem (by omega)⟩
    rw [List.map_cons, List.foldl_cons, List.foldl_cons]
    have e : stepH l off st (turnW ix m) = stepH F off st m := by
      unfold stepH turnW
      simp only [hi, Option.getD_some]
      rw [h _ _ hi]
    rw [e]
    exact ih _ fun q hq => hP q (List.mem_cons_of_mem _ hq)
/-- THE LINK: what the program tells of the rules of a name is what the model tells. -/
theorem haps_same {r : RelD} {nm : ByteArray} {off : Int} {H1 H2 : List HapD} {b1 b2 : Bool} (h1 : HapsA (r.rules.filter fun x => x.name.toList == nm.toList) off H1 b1) (h2 : HapsR r nm off H2 b2) : H1 = H2 ∧ b1 = b2 := by
  obtain ⟨ix, hL⟩ := link_all r.rules nm r.rules.length (Nat.le_refl _)
  rw [List.take_length] at hL
  obtain ⟨F, hF⟩ : ∃ F, (r.rules.filter fun x => x.name.toList == nm.toList) = F := ⟨_, rfl⟩
  rw [hF] at hL h1
  have hlen : (wallsT nm r.rules r.rules.length).length = (wallsA F F.length).length := by rw [hL.walls, List.length_map]
  obtain ⟨s, hs, rfl⟩ := h2
  rcases h1 with ⟨g1, rfl, P, hP, hp, rfl⟩ | ⟨g1, rfl, rfl⟩
  · rcases hs with ⟨_, rfl, hS⟩ | ⟨g2, _, _⟩
    · refine ⟨?_, rfl⟩
      have hsP : s = P.map (turnW ix) := by
        refine srt_one hS.up ?_ fun t => ?_
        · exact List.pairwise_map.mpr (hP.imp fun {a b} hab => by unfold LeW at hab; show a.wall ≤ b.wall; omega)
        · have e : ∀ X : List WallD, atW t (X.map (turnW ix)) = (atW t X).map (turnW ix) := fun X => by unfold atW; rw [List.filter_map]; rfl
          rw [hS.at_, hL.walls, e, e, popped_at hP hp]
      rw [hsP]
      unfold foldH
      rw [fold_turn hL.len hL.at_ P _ fun m hm => wallsA_lt (hp.mem_iff.mp hm)]
    · omega
  · rcases hs with ⟨g2, _, _⟩ | ⟨_, rfl, rfl⟩
    · omega
    · exact ⟨rfl, rfl⟩
end Go.Proofs.YtbbhpfobcelbfaaGreatDoor
