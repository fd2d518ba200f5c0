/- What happens by rules, laid into a heap: the program's happenings. -/
import Derived.Test.YtbbhpfobcelbfaaGreatDoorHpPq
import Derived.Test.YtbbhpfobcelbfaaGreatDoorHp5q
import Derived.Test.YtbbhpfobcelbfaaGreatDoorOnPq
import Derived.Lib.MinMax
namespace Go.Proofs.YtbbhpfobcelbfaaGreatDoor
open Go.RowKit Go.Sort

/-- of the first k rules what happens. -/
def wallsA (l : List RuleD) : Nat → List WallD
  | 0 => []
  | k + 1 => wallsA l k ++ (match l[k]? with | some x => wallsX k x | none => [])
theorem wallsA_step {l : List RuleD} {k : Nat} {x : RuleD} (hx : l[k]? = some x) : wallsA l (k + 1) = wallsA l k ++ wallsX k x := by rw [wallsA, hx]
theorem wallsA_len (l : List RuleD) : ∀ k, (wallsA l k).length ≤ 78 * k := by
  intro k
  induction k with
  | zero => simp [wallsA]
  | succ k ih =>
    rw [wallsA, List.length_append]
    have h78 : ∀ x, (wallsX k x).length ≤ 78 := fun x => Nat.le_trans (wallsN_len _ _ _ _) (yrs_le x)
    split
    · rename_i x _; have := h78 x; omega
    · simp; omega
theorem told_mo {y m : Int} (hy : ymB y m = true) (s : ByteArray) : toldV y m s = moV y m s := by unfold toldV; rw [hy, if_pos rfl, on_same hy]
theorem heapB_len {w : World} {hp : Nat} {rb : Option Nat} {X L : List WallD} (_h : HeapB w hp rb X) (hP : X.Perm L) : X.length = L.length := hP.length_eq
/-- all that a heap writes lies from its pointer on. -/
theorem heapB_low {w : World} {hp b : Nat} {rb : Option Nat} {X : List WallD} (h : HeapB w hp rb X) (hb : b = hp ∨ rb = some b) : hp ≤ b := by
  rcases hb with e | e
  · omega
  · obtain ⟨a, c, _, _, h3, _, h5⟩ := h
    exact (h3.lt b (h5.trans e)).1
theorem heapB_lt {w : World} {hp b : Nat} {rb : Option Nat} {X : List WallD} (h : HeapB w hp rb X) (hb : rb = some b) : b < w.heap.size := by
  obtain ⟨a, c, _, _, h3, _, h5⟩ := h
  exact (h3.lt b (h5.trans hb)).2
set_option maxRecDepth 20000 in
set_option maxHeartbeats 4000000 in
theorem impl_happenings (l : List RuleD) (a : Option Addr) (ca : Nat) (w : World) (hA : SeqAt w a 9 (l.map RuleD.cs)) (hT : Tab w) (hMx : Mx w) (hr : ∀ x ∈ l, RuleR x) (hl : l.length ≤ 40) (hon : ∀ x ∈ l, x.on.size ≤ 8000) :
    Calls Tryz.prog 80 #[.slice a l.length ca] w fun e W' => ∃ rb X, e = .returned (.pointer (some ⟨w.heap.size, 0, none⟩)) ∧ HeapB W' w.heap.size rb X ∧ HeapX X ∧ X.Perm (wallsA l l.length) ∧ Below w.heap.size w W' := by
  have HRR : Hid (∀ x ∈ l, RuleR x) := hr
  have HON : Hid (∀ x ∈ l, x.on.size ≤ 8000) := hon
  clear hr hon
  have H0 : HeapB (w.alloc (.cells #[.slice none 0 0] 132)) w.heap.size none [] := ⟨none, 0, by simp [go_sem], by simp [go_sem], World.ownsRow_nil _ _ _ _, by simp [Value.ownBlock], rfl⟩
  have X0 : Hid (HeapX []) := fun i p c _ hp => by simp at hp
  go_enter Tryz.func80, Tryz.ntmps80
  go_wp2
  go_loopw [12] (fun s12 wr => ∃ (k : Nat) (rb : Option Nat) (X : List WallD), k ≤ l.length ∧ s12 = .int .i64 k ∧ HeapB wr w.heap.size rb X ∧ Hid (HeapX X) ∧ Hid (X.Perm (wallsA l k)) ∧ Below w.heap.size w wr) (fun s12 _ => l.length - (intOf s12).toNat)
  case atStart => exact ⟨0, none, [], by omega, rfl, H0, X0, List.Perm.refl _, (Below.refl _ _).alloc (Nat.le_refl _) _⟩
  case round =>
    clear H0 X0
    obtain ⟨k, rb, X, hk, rfl, hH, HX, HP, hBr⟩ := hrel
    have hsW := hBr.size
    have hlen := wallsA_len l k
    by_cases hlt : k < l.length
    · obtain ⟨x, hx⟩ : ∃ x, l[k]? = some x := ⟨_, List.getElem?_eq_getElem hlt⟩
      have hRx := HRR.out x (List.mem_of_getElem? hx)
      have hox := HON.out x (List.mem_of_getElem? hx)
      obtain ⟨b9, o9, rfl, hc⟩ := (hA.below hBr).at (i := k) (r := x.cs) (by rw [List.getElem?_map, hx]; rfl)
      have c0 : wr.cell? ⟨b9, o9 + k * 9, none⟩ = some (.string x.name) := hc 0 _ rfl
      have c1 := hc 1 _ rfl
      have c2 := hc 2 _ rfl
      have c3 := hc 3 _ rfl
      have c4 := hc 4 _ rfl
      have c5 := hc 5 _ rfl
      have c6 := hc 6 _ rfl
      have c7 := hc 7 _ rfl
      have c8 := hc 8 _ rfl
      clear hc
      have HT : Hid (wallsA l (k + 1) = wallsA l k ++ wallsX k x) := wallsA_step hx
      obtain ⟨L, hL⟩ : ∃ L, wallsA l k = L := ⟨_, rfl⟩
      rw [hL] at HT HP hlen
      clear hL hx
      obtain ⟨ya, hya⟩ : ∃ y, max x.lo 1960 = y := ⟨_, rfl⟩
      obtain ⟨ye, hye⟩ : ∃ y, min x.hi 2037 = y := ⟨_, rfl⟩
      have ya1 : 1960 ≤ ya := by omega
      have ye1 : ye ≤ 2037 := by omega
      have HXn : Hid (∀ n : Nat, ¬ ya + n ≤ ye → ya + n ≤ ye + 1 ∨ n = 0 → wallsX k x = wallsN k x ya n) := fun n h1 h2 => by
        unfold wallsX yrs
        rw [hya, hye]
        congr 1
        omega
      have hbB := (Below.refl wr.heap.size wr).alloc (Nat.le_refl _) (.cells #[.string x.name, .int .i64 x.lo, .int .i64 x.hi, .int .i64 x.month, .string x.on, .int .i64 x.at_, .string x.of, .int .i64 x.save, .string x.letter] 120)
      have own1 := hH.below hbB
      have B1 : Below w.heap.size w (wr.alloc (.cells #[.string x.name, .int .i64 x.lo, .int .i64 x.hi, .int .i64 x.month, .string x.on, .int .i64 x.at_, .string x.of, .int .i64 x.save, .string x.letter] 120)) := hBr.alloc hsW _
      have nbx : rb ≠ some wr.heap.size := fun e => by have := heapB_lt hH e; omega
      have hph : w.heap.size < wr.heap.size := by obtain ⟨_, _, h1, _⟩ := hH; exact World.block_lt_of_cell? _ _ h1
      have hsb : (wr.alloc (.cells #[.string x.name, .int .i64 x.lo, .int .i64 x.hi, .int .i64 x.month, .string x.on, .int .i64 x.at_, .string x.of, .int .i64 x.save, .string x.letter] 120)).heap.size = wr.heap.size + 1 := by simp
      have e1 : (wr.alloc (.cells #[.string x.name, .int .i64 x.lo, .int .i64 x.hi, .int .i64 x.month, .string x.on, .int .i64 x.at_, .string x.of, .int .i64 x.save, .string x.letter] 120)).cell? ⟨wr.heap.size, 1, none⟩ = some (.int .i64 x.lo) := by simp [go_sem]
      have e2 : (wr.alloc (.cells #[.string x.name, .int .i64 x.lo, .int .i64 x.hi, .int .i64 x.month, .string x.on, .int .i64 x.at_, .string x.of, .int .i64 x.save, .string x.letter] 120)).cell? ⟨wr.heap.size, 2, none⟩ = some (.int .i64 x.hi) := by simp [go_sem]
      have e3 : (wr.alloc (.cells #[.string x.name, .int .i64 x.lo, .int .i64 x.hi, .int .i64 x.month, .string x.on, .int .i64 x.at_, .string x.of, .int .i64 x.save, .string x.letter] 120)).cell? ⟨wr.heap.size, 3, none⟩ = some (.int .i64 x.month) := by simp [go_sem]
      have e4 : (wr.alloc (.cells #[.string x.name, .int .i64 x.lo, .int .i64 x.hi, .int .i64 x.month, .string x.on, .int .i64 x.at_, .string x.of, .int .i64 x.save, .string x.letter] 120)).cell? ⟨wr.heap.size, 4, none⟩ = some (.string x.on) := by simp [go_sem]
      have e5 : (wr.alloc (.cells #[.string x.name, .int .i64 x.lo, .int .i64 x.hi, .int .i64 x.month, .string x.on, .int .i64 x.at_, .string x.of, .int .i64 x.save, .string x.letter] 120)).cell? ⟨wr.heap.size, 5, none⟩ = some (.int .i64 x.at_) := by simp [go_sem]
      have HP1 : Hid (X.Perm (L ++ wallsN k x ya 0)) := by rw [show L ++ wallsN k x ya 0 = L from List.append_nil _]; exact HP
      go_wp2
      obtain ⟨wB, hwB⟩ : ∃ wB, (wr.alloc (.cells #[.string x.name, .int .i64 x.lo, .int .i64 x.hi, .int .i64 x.month, .string x.on, .int .i64 x.at_, .string x.of, .int .i64 x.save, .string x.letter] 120)) = wB := ⟨_, rfl⟩
      obtain ⟨bx, hbx⟩ : ∃ bx, wr.heap.size = bx := ⟨_, rfl⟩
      rw [hwB] at own1 B1 hsb e1 e2 e3 e4 e5 ⊢
      rw [hbx] at hsb e1 e2 e3 e4 e5 nbx hph ⊢
      clear hwB hbx hH hBr hsW hbB c0 c1 c2 c3 c4 c5 c6 c7 c8 HP
      go_loopw [6] (fun s6 wq => ∃ (n : Nat) (rq : Option Nat) (Y : List WallD), s6 = .int .i64 (ya + n) ∧ (ya + n ≤ ye + 1 ∨ n = 0) ∧ HeapB wq w.heap.size rq Y ∧ Hid (HeapX Y) ∧ Hid (Y.Perm (L ++ wallsN k x ya n)) ∧ rq ≠ some bx ∧ bx < wq.heap.size ∧ (wq.cell? ⟨bx, 2, none⟩ = some (.int .i64 x.hi) ∧ wq.cell? ⟨bx, 3, none⟩ = some (.int .i64 x.month) ∧ wq.cell? ⟨bx, 4, none⟩ = some (.string x.on) ∧ wq.cell? ⟨bx, 5, none⟩ = some (.int .i64 x.at_)) ∧ Below w.heap.size w wq) (fun s6 _ => (ye + 1 - intOf s6).toNat)
      case atStart => exact ⟨0, rb, X, by simp, .inr rfl, own1, HX, HP1, nbx, by omega, ⟨e2, e3, e4, e5⟩, B1⟩
      case round =>
        obtain ⟨n, rq, Y, rfl, hyn, hHq, HXq, HPq, nq, hbq, ⟨q2, q3, q4, q5⟩, Bq⟩ := hrel
        clear own1 nbx B1 hsb e1 e2 e3 e4 e5 HP1 HX
        have hsq := Bq.size
        have hwn := wallsN_len k x ya n
        have hYl : Y.length ≤ 4000 := by rw [HPq.out.length_eq, List.length_append]; have := yrs_le x; rcases hyn with e | e <;> omega
        by_cases hy : ya + n ≤ ye
        · have hym : ymB (ya + n) x.month = true := ym_ok (by omega) (by omega) hRx.month.1 hRx.month.2
          have hO := fun w (h1 : Tab w) (h2 : Mx w) => impl_DayOn (ya + n) x.month x.on w h1 h2 hox
          rw [told_mo hym] at hO
          have hbd := mo_bd (s := x.on) hym
          have ha1 := hRx.at_.1
          have ha2 := hRx.at_.2
          by_cases hd : moV (ya + n) x.month x.on = -1000000
          · have HW : Hid (wallsN k x ya (n + 1) = wallsN k x ya n) := by simp only [Hid]; rw [wallsN, wallsY_no hd, List.append_nil]
            rw [hd] at hO
            clear hd hbd hym
            go_wp2_with fail
            refine (hO _ (hT.of_below Bq) (hMx.of_below Bq)).mono ?_
            rintro e w3 ⟨rfl, hb3⟩
            have Q2 := keepC hb3 q2
            have Q3 := keepC hb3 q3
            have Q4 := keepC hb3 q4
            have Q5 := keepC hb3 q5
            have hs3 := hb3.size
            have own3 := hHq.below hb3
            have B3 := Bq.trans (hb3.mono hsq)
            clear hb3 q2 q3 q4 q5 hHq
            go_wp2
            go_roundw
            case rel => exact ⟨n + 1, rq, Y, by congr 1; omega, .inl (by omega), own3, HXq, by rw [HW.out]; exact HPq, nq, by omega, ⟨Q2, Q3, Q4, Q5⟩, B3⟩
            case measure => simp [intOf]; omega
          · have HW : Hid (wallsN k x ya (n + 1) = wallsN k x ya n ++ [⟨moV (ya + n) x.month x.on * 86400 + x.at_, k⟩]) := by simp only [Hid]; rw [wallsN, wallsY_yes hd, Int.mul_comm]
            have hbd2 := hbd.resolve_left hd
            have gd : (moV (ya + n) x.month x.on != -1000000) = true := by simpa using hd
            generalize moV (ya + n) x.month x.on = dy at *
            have HPn : Hid (∀ Z : List WallD, Z.Perm (Y ++ [⟨dy * 86400 + x.at_, k⟩]) → Z.Perm (L ++ wallsN k x ya (n + 1))) := fun Z hZ => by
              rw [HW.out, ← List.append_assoc]
              exact hZ.trans (HPq.out.append_right _)
            have hPu := fun w h => impl_push Y ⟨dy * 86400 + x.at_, k⟩ w.heap.size rq w h HXq.out hYl
            have hPu2 := fun (w4 : World) h => impl_push Y ⟨dy * 86400 + x.at_, k⟩ w.heap.size rq w4 h HXq.out hYl
            simp only [WallD.v] at hPu2
            clear hd hbd hym HW hPu
            go_wp2_with fail
            refine (hO _ (hT.of_below Bq) (hMx.of_below Bq)).mono ?_
            rintro e w3 ⟨rfl, hb3⟩
            have Q2 := keepC hb3 q2
            have Q3 := keepC hb3 q3
            have Q4 := keepC hb3 q4
            have Q5 := keepC hb3 q5
            have hs3 := hb3.size
            have own3 := hHq.below hb3
            have B3 := Bq.trans (hb3.mono hsq)
            clear hb3 q2 q3 q4 q5 hHq
            go_wp2_with fail
            refine (hPu2 _ own3).mono ?_
            rintro e w4 ⟨rfl, ⟨Z, rz, hZ, hZX, hZP, hrz⟩, fr⟩
            have nS : ¬ (bx = w.heap.size ∨ rq = some bx) := fun e => by
              rcases e with e | e
              · omega
              · exact nq e
            have R2 := fr.cell (b := bx) (o := 2) nS Q2
            have R3 := fr.cell (b := bx) (o := 3) nS Q3
            have R4 := fr.cell (b := bx) (o := 4) nS Q4
            have R5 := fr.cell (b := bx) (o := 5) nS Q5
            have hs4 := fr.size
            have B4 : Below w.heap.size w w4 := B3.trans (fr.below (fun b hb => heapB_low own3 hb) (by omega))
            have nz : rz ≠ some bx := fun e => by
              rcases hrz with e2 | ⟨k2, hk2, e2⟩
              · exact nq (e2 ▸ e)
              · rw [e2] at e; injection e with e; omega
            have HZX : Hid (HeapX Z) := hZX
            have HZP : Hid (Z.Perm (L ++ wallsN k x ya (n + 1))) := HPn.out Z hZP
            clear fr own3 Q2 Q3 Q4 Q5 hZX hZP HPn
            go_wp2
            go_roundw
            case rel => exact ⟨n + 1, rz, Z, by congr 1; omega, .inl (by omega), hZ, HZX, HZP, nz, by omega, ⟨R2, R3, R4, R5⟩, B4⟩
            case measure => simp [intOf]; omega
        · have HE : Hid (Y.Perm (wallsA l (k + 1))) := by simp only [Hid]; rw [HT.out, HXn.out n (by omega) hyn]; exact HPq.out
          go_wp2
          go_roundw
          case rel => exact ⟨k + 1, rq, Y, by omega, by go_num, hHq, HXq, HE, Bq⟩
          case measure => simp [intOf]; omega
    · obtain rfl : k = l.length := by omega
      go_wp2
      go_ret
      exact ⟨rb, X, rfl, hH, HX.out, HP.out, hBr⟩
end Go.Proofs.YtbbhpfobcelbfaaGreatDoor
