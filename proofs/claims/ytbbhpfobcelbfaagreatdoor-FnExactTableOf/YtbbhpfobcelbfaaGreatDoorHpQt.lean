/- Packed: Hp3 Hp4 Hp5. -/
import Derived.Test.YtbbhpfobcelbfaaGreatDoorHpSt
import Derived.Test.YtbbhpfobcelbfaaGreatDoorOnPt
import Derived.Test.YtbbhpfobcelbfaaGreatDoorRightWt
import Derived.Test.YtbbhpfobcelbfaaGreatDoorRelHapt
namespace Go.Proofs.YtbbhpfobcelbfaaGreatDoor
open Go.RowKit

/-- a rule in a year. -/
def wallsY (i : Nat) (x : RuleD) (y : Int) : List WallD := if moV y x.month x.on = -1000000 then [] else [⟨86400 * moV y x.month x.on + x.at_, i⟩]
def wallsN (i : Nat) (x : RuleD) (y : Int) : Nat → List WallD
  | 0 => []
  | n + 1 => wallsN i x y n ++ wallsY i x (y + n)
def yrs (x : RuleD) : Nat := (min x.hi 2037 - max x.lo 1960 + 1).toNat
def wallsX (i : Nat) (x : RuleD) : List WallD := wallsN i x (max x.lo 1960) (yrs x)
/-- of the first k rules those of a name. -/
def wallsT (nm : ByteArray) (l : List RuleD) : Nat → List WallD
  | 0 => []
  | k + 1 => wallsT nm l k ++ (match l[k]? with | some x => if (x.name.toList == nm.toList) = true then wallsX k x else [] | none => [])
theorem wallsY_no {i : Nat} {x : RuleD} {y : Int} (h : moV y x.month x.on = -1000000) : wallsY i x y = [] := by unfold wallsY; rw [if_pos h]
theorem wallsY_yes {i : Nat} {x : RuleD} {y : Int} (h : moV y x.month x.on ≠ -1000000) : wallsY i x y = [⟨86400 * moV y x.month x.on + x.at_, i⟩] := by unfold wallsY; rw [if_neg h]
theorem wallsT_yes {nm : ByteArray} {l : List RuleD} {k : Nat} {x : RuleD} (hx : l[k]? = some x) (h : (x.name.toList == nm.toList) = true) : wallsT nm l (k + 1) = wallsT nm l k ++ wallsX k x := by rw [wallsT, hx]; simp only [h, if_true]
theorem wallsT_no {nm : ByteArray} {l : List RuleD} {k : Nat} {x : RuleD} (hx : l[k]? = some x) (h : (x.name.toList == nm.toList) = false) : wallsT nm l (k + 1) = wallsT nm l k := by rw [wallsT, hx]; simp [h]
theorem wallsN_len (i : Nat) (x : RuleD) (y : Int) : ∀ n, (wallsN i x y n).length ≤ n := by
  intro n
  induction n with
  | zero => simp [wallsN]
  | succ n ih =>
    rw [wallsN, List.length_append]
    have : (wallsY i x (y + n)).length ≤ 1 := by unfold wallsY; split <;> simp
    omega
theorem yrs_le (x : RuleD) : yrs x ≤ 78 := by unfold yrs; omega
theorem wallsT_len (nm : ByteArray) (l : List RuleD) : ∀ k, (wallsT nm l k).length ≤ 78 * k := by
  intro k
  induction k with
  | zero => simp [wallsT]
  | succ k ih =>
    rw [wallsT, List.length_append]
    have h78 : ∀ x, (wallsX k x).length ≤ 78 := fun x => Nat.le_trans (wallsN_len _ _ _ _) (yrs_le x)
    split
    · rename_i x _
      split
      · have := h78 x; omega
      · simp; omega
    · simp; omega
structure RuleR (x : RuleD) : Prop where
  month : 1 ≤ x.month ∧ x.month ≤ 12
  at_ : 0 ≤ x.at_ ∧ x.at_ ≤ 604800
  save : -7200 ≤ x.save ∧ x.save ≤ 7200
theorem rule_r {x : RuleD} (h : ruleB x = true) : RuleR x := by
  unfold ruleB at h
  simp only [Bool.and_eq_true] at h
  obtain ⟨_, _, _, hm, _, ha, _, hs, _⟩ := h
  exact ⟨isB_of_t hm, isB_of_t ha, isB_of_t hs⟩
theorem mo_bd {y m : Int} {s : ByteArray} (hy : ymB y m = true) : moV y m s = -1000000 ∨ (-800000 ≤ moV y m s ∧ moV y m s ≤ 3000000) := by
  have := told_bd (y := y) (m := m) (s := s)
  unfold toldV at this
  rw [hy, if_pos rfl, on_same hy] at this
  exact this
theorem ym_ok {y m : Int} (h1 : 1960 ≤ y) (h2 : y ≤ 2037) (h3 : 1 ≤ m) (h4 : m ≤ 12) : ymB y m = true := by
  unfold ymB
  simp
  omega
set_option maxHeartbeats 400000 in
theorem spec_l01MaxR (a b : Int) (w : World) : Calls Tryz.prog 145 #[.int .i64 a, .int .i64 b] w fun e w' => e = .returned (.int .i64 (max a b)) ∧ w' = w := by
  by_cases h : b < a
  · go_enter Tryz.func145, Tryz.ntmps145
    go_wp2
    go_ret
    exact ⟨ret_int (by omega), rfl⟩
  · go_enter Tryz.func145, Tryz.ntmps145
    go_wp2
    go_ret
    exact ⟨ret_int (by omega), rfl⟩
set_option maxHeartbeats 400000 in
theorem spec_l01MinR (a b : Int) (w : World) : Calls Tryz.prog 146 #[.int .i64 a, .int .i64 b] w fun e w' => e = .returned (.int .i64 (min a b)) ∧ w' = w := by
  by_cases h : a < b
  · go_enter Tryz.func146, Tryz.ntmps146
    go_wp2
    go_ret
    exact ⟨ret_int (by omega), rfl⟩
  · go_enter Tryz.func146, Tryz.ntmps146
    go_wp2
    go_ret
    exact ⟨ret_int (by omega), rfl⟩
/-- what is told of the rules of a name. -/
def WallsR (r : RelD) (nm : ByteArray) (s : List WallD) (b : Bool) : Prop := ((wallsT nm r.rules r.rules.length).length ≤ 2000 ∧ b = true ∧ SrtOf (wallsT nm r.rules r.rules.length) s) ∨ (¬ (wallsT nm r.rules r.rules.length).length ≤ 2000 ∧ b = false ∧ s = [])
end Go.Proofs.YtbbhpfobcelbfaaGreatDoor
namespace Go.Proofs.YtbbhpfobcelbfaaGreatDoor
open Go.RowKit

theorem own_ne {g H bx : Nat} {a : Option Addr} {n c n2 c2 : Nat} (hat : (Value.slice a n c).ownBlock = some g ∨ g = H) (hne : some bx ≠ (Value.slice a n c).ownBlock) (hH : bx < H) : some bx ≠ (Value.slice (some ⟨g, 0, none⟩) n2 c2).ownBlock := by
  intro e
  have e2 : bx = g := by simpa [Value.ownBlock] using e
  subst e2
  rcases hat with h | h
  · exact hne h.symm
  · omega
set_option maxRecDepth 20000 in
set_option maxHeartbeats 4000000 in
theorem spec_l03Walls (r : RelD) (v : Value) (nm : ByteArray) (w : World) (hv : RelAt w v r) (hr : ∀ x ∈ r.rules, ruleB x = true) (hl : r.rules.length ≤ 40) (hon : ∀ x ∈ r.rules, x.on.size ≤ 1048576) :
    Calls Tryz.prog 86 #[v, .string nm] w fun e W' => ∃ v' s b, e = .returned (.tuple #[v', .bool b]) ∧ WallsAt W' v' s ∧ WallsR r nm s b ∧ Below w.heap.size w W' := by
  obtain ⟨i0, hi, hz0, hz1, hz2⟩ := info_parts infoWall
  obtain ⟨a, b, c, ca, cb, cc, rfl, hA, _, _⟩ := hv.form
  have HRR : Hid (∀ x ∈ r.rules, RuleR x) := fun x hx => rule_r (hr x hx)
  have HON : Hid (∀ x ∈ r.rules, x.on.size ≤ 1048576) := hon
  clear hr hon hv
  have hBA := (Below.refl w.heap.size w).alloc (Nat.le_refl _) (.cells #[.slice a r.rules.length ca, .slice b r.zones.length cb, .slice c r.links.length cc] 27)
  have x0 : (w.alloc (.cells #[.slice a r.rules.length ca, .slice b r.zones.length cb, .slice c r.links.length cc] 27)).cell? ⟨w.heap.size, 0, none⟩ = some (.slice a r.rules.length ca) := by simp [go_sem]
  go_enter Tryz.func86, Tryz.ntmps86
  go_wp2
  obtain ⟨wA, hwA⟩ : ∃ wA, (w.alloc (.cells #[.slice a r.rules.length ca, .slice b r.zones.length cb, .slice c r.links.length cc] 27)) = wA := ⟨_, rfl⟩
  have hsA : wA.heap.size = w.heap.size + 1 := by rw [← hwA]; simp
  rw [hwA] at hBA x0 ⊢
  clear hwA
  have hE : OwnsW (wA.alloc (.cells #[] 143)) (w.heap.size + 1) (.slice (some ⟨w.heap.size + 1, 0, none⟩) 0 0) (wallsT nm r.rules 0) := by have := own_empty wA 143 2; rw [hsA] at this; exact this
  go_loopw [6, 7] (fun s6 s7 wr => ∃ k : Nat, k ≤ r.rules.length ∧ s7 = .int .i64 k ∧ OwnsW wr (w.heap.size + 1) s6 (wallsT nm r.rules k) ∧ Below (w.heap.size + 1) wA wr) (fun _ s7 _ => r.rules.length - (intOf s7).toNat)
  case atStart => exact ⟨0, by omega, rfl, hE, (Below.refl _ _).alloc (by omega) _⟩
  case round =>
    clear hE
    obtain ⟨k, hk, rfl, hown, hBr⟩ := hrel
    have hsW := hBr.size
    have hBw := hBA.trans (hBr.mono (show w.heap.size ≤ w.heap.size + 1 by omega))
    have xr : wr.cell? ⟨w.heap.size, 0, none⟩ = some (.slice a r.rules.length ca) := (hBr.cell (p := ⟨w.heap.size, 0, none⟩) (show w.heap.size < w.heap.size + 1 by omega)).trans x0
    have hlen := wallsT_len nm r.rules k
    by_cases hlt : k < r.rules.length
    · obtain ⟨x, hx⟩ : ∃ x, r.rules[k]? = some x := ⟨_, List.getElem?_eq_getElem hlt⟩
      have hRx := HRR.out x (List.mem_of_getElem? hx)
      have hox := HON.out x (List.mem_of_getElem? hx)
      obtain ⟨b9, o9, rfl, hc⟩ := (hA.below hBw).at (i := k) (r := x.cs) (by rw [List.getElem?_map, hx]; rfl)
      have c0 : wr.cell? ⟨b9, o9 + k * 9, none⟩ = some (.string x.name) := hc 0 _ rfl
      have c1 := hc 1 _ rfl
      have c2 := hc 2 _ rfl
      have c3 := hc 3 _ rfl
      have c4 := hc 4 _ rfl
      have c5 := hc 5 _ rfl
      have c6 := hc 6 _ rfl
      have c7 := hc 7 _ rfl
      have c8 := hc 8 _ rfl
      clear hc
      cases hn : (x.name.toList == nm.toList)
      · have HT : Hid (wallsT nm r.rules (k + 1) = wallsT nm r.rules k) := wallsT_no hx hn
        clear hx
        obtain ⟨a6, m6, d6, rfl⟩ := row_shape3 hown
        go_wp2
        go_roundw
        case rel => exact ⟨k + 1, by omega, by go_num, by rw [HT.out]; exact World.ownsRow.alloc hown _, hBr.alloc (by omega) _⟩
        case measure => simp [intOf]; omega
      · have HT : Hid (wallsT nm r.rules (k + 1) = wallsT nm r.rules k ++ wallsX k x) := wallsT_yes hx hn
        clear hx
        obtain ⟨L, hL⟩ : ∃ L, wallsT nm r.rules k = L := ⟨_, rfl⟩
        rw [hL] at HT hown hlen
        clear hL
        obtain ⟨a6, m6, d6, rfl⟩ := row_shape3 hown
        have hM := fun w => spec_l01MaxR x.lo 1960 w
        have hN := fun w => spec_l01MinR x.hi 2037 w
        obtain ⟨ya, hya⟩ : ∃ y, max x.lo 1960 = y := ⟨_, rfl⟩
        obtain ⟨ye, hye⟩ : ∃ y, min x.hi 2037 = y := ⟨_, rfl⟩
        have ya1 : 1960 ≤ ya := by omega
        have ye1 : ye ≤ 2037 := by omega
        have HX : Hid (∀ n : Nat, ¬ ya + n ≤ ye → ya + n ≤ ye + 1 ∨ n = 0 → wallsX k x = wallsN k x ya n) := fun n h1 h2 => by
          unfold wallsX yrs
          rw [hya, hye]
          congr 1
          omega
        have hyl := yrs_le x
        rw [hya] at hM
        rw [hye] at hN
        clear hya hye
        have nbx : some wr.heap.size ≠ (Value.slice a6 m6 d6).ownBlock := fun e => by have := (hown.lt _ e.symm).2; omega
        have own1 : OwnsW (wr.alloc (.cells #[.string x.name, .int .i64 x.lo, .int .i64 x.hi, .int .i64 x.month, .string x.on, .int .i64 x.at_, .string x.of, .int .i64 x.save, .string x.letter] 120)) (w.heap.size + 1) (.slice a6 m6 d6) (L ++ wallsN k x ya 0) := by rw [show L ++ wallsN k x ya 0 = L from List.append_nil _]; exact World.ownsRow.alloc hown _
        have B1 : Below (w.heap.size + 1) wA (wr.alloc (.cells #[.string x.name, .int .i64 x.lo, .int .i64 x.hi, .int .i64 x.month, .string x.on, .int .i64 x.at_, .string x.of, .int .i64 x.save, .string x.letter] 120)) := hBr.alloc (by omega) _
        have hsb : (wr.alloc (.cells #[.string x.name, .int .i64 x.lo, .int .i64 x.hi, .int .i64 x.month, .string x.on, .int .i64 x.at_, .string x.of, .int .i64 x.save, .string x.letter] 120)).heap.size = wr.heap.size + 1 := by simp
        have e1 : (wr.alloc (.cells #[.string x.name, .int .i64 x.lo, .int .i64 x.hi, .int .i64 x.month, .string x.on, .int .i64 x.at_, .string x.of, .int .i64 x.save, .string x.letter] 120)).cell? ⟨wr.heap.size, 1, none⟩ = some (.int .i64 x.lo) := by simp [go_sem]
        have e2 : (wr.alloc (.cells #[.string x.name, .int .i64 x.lo, .int .i64 x.hi, .int .i64 x.month, .string x.on, .int .i64 x.at_, .string x.of, .int .i64 x.save, .string x.letter] 120)).cell? ⟨wr.heap.size, 2, none⟩ = some (.int .i64 x.hi) := by simp [go_sem]
        have e3 : (wr.alloc (.cells #[.string x.name, .int .i64 x.lo, .int .i64 x.hi, .int .i64 x.month, .string x.on, .int .i64 x.at_, .string x.of, .int .i64 x.save, .string x.letter] 120)).cell? ⟨wr.heap.size, 3, none⟩ = some (.int .i64 x.month) := by simp [go_sem]
        have e4 : (wr.alloc (.cells #[.string x.name, .int .i64 x.lo, .int .i64 x.hi, .int .i64 x.month, .string x.on, .int .i64 x.at_, .string x.of, .int .i64 x.save, .string x.letter] 120)).cell? ⟨wr.heap.size, 4, none⟩ = some (.string x.on) := by simp [go_sem]
        have e5 : (wr.alloc (.cells #[.string x.name, .int .i64 x.lo, .int .i64 x.hi, .int .i64 x.month, .string x.on, .int .i64 x.at_, .string x.of, .int .i64 x.save, .string x.letter] 120)).cell? ⟨wr.heap.size, 5, none⟩ = some (.int .i64 x.at_) := by simp [go_sem]
        go_wp2_with (go_at_call 145; refine (hM _).mono ?_; rintro e wz ⟨rfl, hwz⟩; have hwz := hwz.symm; subst hwz)
        obtain ⟨wB, hwB⟩ : ∃ wB, (wr.alloc (.cells #[.string x.name, .int .i64 x.lo, .int .i64 x.hi, .int .i64 x.month, .string x.on, .int .i64 x.at_, .string x.of, .int .i64 x.save, .string x.letter] 120)) = wB := ⟨_, rfl⟩
        obtain ⟨bx, hbx⟩ : ∃ bx, wr.heap.size = bx := ⟨_, rfl⟩
        rw [hwB] at own1 B1 hsb e1 e2 e3 e4 e5 ⊢
        rw [hbx] at hsb e1 e2 e3 e4 e5 nbx hsW ⊢
        clear hwB hbx hown hBr hBw xr c0 c1 c2 c3 c4 c5 c6 c7 c8 hM
        go_loopw [6, 9] (fun s6 s9 wq => ∃ (n : Nat) (aq : Option Addr) (mq dq : Nat), s9 = .int .i64 (ya + n) ∧ s6 = .slice aq mq dq ∧ (ya + n ≤ ye + 1 ∨ n = 0) ∧ OwnsW wq (w.heap.size + 1) (.slice aq mq dq) (L ++ wallsN k x ya n) ∧ some bx ≠ (Value.slice aq mq dq).ownBlock ∧ bx < wq.heap.size ∧ (wq.cell? ⟨bx, 2, none⟩ = some (.int .i64 x.hi) ∧ wq.cell? ⟨bx, 3, none⟩ = some (.int .i64 x.month) ∧ wq.cell? ⟨bx, 4, none⟩ = some (.string x.on) ∧ wq.cell? ⟨bx, 5, none⟩ = some (.int .i64 x.at_)) ∧ Below (w.heap.size + 1) wA wq) (fun _ s9 _ => (ye + 1 - intOf s9).toNat)
        case atStart => exact ⟨0, a6, m6, d6, by simp, rfl, .inr rfl, own1, nbx, by omega, ⟨e2, e3, e4, e5⟩, B1⟩
        case round =>
          obtain ⟨n, aq, mq, dq, rfl, rfl, hyn, ownq, nq, hbq, ⟨q2, q3, q4, q5⟩, Bq⟩ := hrel
          clear own1 nbx B1 hsb e1 e2 e3 e4 e5
          have hsq := Bq.size
          have hwn := wallsN_len k x ya n
          obtain ⟨wq, hwq⟩ : ∃ z : World, z = wr := ⟨_, rfl⟩
          subst hwq
          by_cases hy : ya + n ≤ ye
          · have hn78 : n ≤ 78 := by omega
            have hym : ymB (ya + n) x.month = true := ym_ok (by omega) (by omega) hRx.month.1 hRx.month.2
            have hO := fun w => spec_l01On (ya + n) x.month x.on w hym hox
            have hbd := mo_bd (s := x.on) hym
            have ha1 := hRx.at_.1
            have ha2 := hRx.at_.2
            by_cases hd : moV (ya + n) x.month x.on = -1000000
            · have HW : Hid (wallsN k x ya (n + 1) = wallsN k x ya n) := by simp only [Hid]; rw [wallsN, wallsY_no hd, List.append_nil]
              rw [hd] at hO
              clear hd hbd hym
              go_wp2_with fail
              refine (hN _).mono ?_
              rintro e wz ⟨rfl, hwz⟩
              have hwz := hwz.symm
              subst hwz
              go_wp2_with fail
              refine (hO _).mono ?_
              rintro e w3 ⟨rfl, hb3⟩
              have Q2 := keepC hb3 q2
              have Q3 := keepC hb3 q3
              have Q4 := keepC hb3 q4
              have Q5 := keepC hb3 q5
              have hs3 := hb3.size
              have own3 := owns_below ownq hb3
              have B3 := Bq.trans (hb3.mono (by omega))
              clear hb3 q2 q3 q4 q5 ownq
              go_wp2
              go_roundw
              case rel => exact ⟨n + 1, aq, mq, dq, by congr 1; omega, rfl, .inl (by omega), by rw [HW.out]; exact own3, nq, by omega, ⟨Q2, Q3, Q4, Q5⟩, B3⟩
              case measure => simp [intOf]; omega
            · have HW : Hid (wallsN k x ya (n + 1) = wallsN k x ya n ++ [⟨86400 * moV (ya + n) x.month x.on + x.at_, k⟩]) := by simp only [Hid]; rw [wallsN, wallsY_yes hd]
              have hbd2 := hbd.resolve_left hd
              have gd : (moV (ya + n) x.month x.on != -1000000) = true := by simpa using hd
              generalize moV (ya + n) x.month x.on = dy at *
              obtain ⟨X, hX⟩ : ∃ X, L ++ wallsN k x ya n = X := ⟨_, rfl⟩
              have hXl : X.length ≤ 4000 := by rw [← hX, List.length_append]; omega
              have HXX : Hid (L ++ wallsN k x ya (n + 1) = X ++ [⟨86400 * dy + x.at_, k⟩]) := by simp only [Hid]; rw [HW.out, ← List.append_assoc, hX]
              rw [hX] at ownq
              clear hd hbd hym hX HW
              go_wp2_with fail
              refine (hN _).mono ?_
              rintro e wz ⟨rfl, hwz⟩
              have hwz := hwz.symm
              subst hwz
              go_wp2_with fail
              refine (hO _).mono ?_
              rintro e w3 ⟨rfl, hb3⟩
              have Q2 := keepC hb3 q2
              have Q3 := keepC hb3 q3
              have Q4 := keepC hb3 q4
              have Q5 := keepC hb3 q5
              have hs3 := hb3.size
              have own3 : OwnsW w3 (w.heap.size + 1) (.slice aq mq dq) X := owns_below ownq hb3
              have B3 := Bq.trans (hb3.mono (by omega))
              clear hb3 q2 q3 q4 q5 ownq
              go_wp2_with (first
                | (at_builtin; refine wpList_append_lies _ rfl _ _ 139 rfl (w.heap.size + 1) 143 i0 (.agg #[.int .i64 0, .int .i64 0]) 2 16 Tryz.underlying139 hi hz0 hz1 hz2 rfl (by decide) _ _ _ rfl (World.ownsRow.alloc own3 _) ⟨w3.heap.size, 0, none⟩ 1 1 [.int .i64 (86400 * dy + x.at_), .int .i64 k] rfl rfl ?c1 ?c2 (by omega) ?c3 ?c4 ?c5 _ rfl ?_)
                | fail)
              case c1 => exact cells_new _ [.int .i64 (86400 * dy + x.at_), .int .i64 k] _
              case c2 => intro u hu; simp at hu; rcases hu with rfl | rfl <;> rfl
              case c3 => unfold maxLen; omega
              case c4 => omega
              case c5 => simp; omega
              intro g4 cap4 w4 hown4 hgrow hat hlt4
              have B4 : Below (w.heap.size + 1) wA w4 := (B3.alloc (by omega) _).grown hgrow (by simp; omega) (fun j hj => (own3.lt j hj).1)
              have HO : Hid (OwnsW w4 (w.heap.size + 1) (.slice (some ⟨g4, 0, none⟩) (X.length + 1) cap4) (L ++ wallsN k x ya (n + 1))) := by simp only [Hid]; rw [HXX.out]; exact OwnsW.add (p := ⟨86400 * dy + x.at_, k⟩) hown4
              have kb := (Below.refl w3.heap.size w3).alloc (Nat.le_refl _) (.cells #[.int .i64 (86400 * dy + x.at_), .int .i64 k] 143)
              have R2 := hgrow.cell (a := ⟨bx, 2, none⟩) (keepC kb Q2) nq
              have R3 := hgrow.cell (a := ⟨bx, 3, none⟩) (keepC kb Q3) nq
              have R4 := hgrow.cell (a := ⟨bx, 4, none⟩) (keepC kb Q4) nq
              have R5 := hgrow.cell (a := ⟨bx, 5, none⟩) (keepC kb Q5) nq
              have n4 := own_ne (n2 := X.length + 1) (c2 := cap4) hat nq (by omega)
              have hb4 : bx < w4.heap.size := by have := hgrow.size; simp at this; omega
              clear hgrow hown4 own3 hat kb Q2 Q3 Q4 Q5 HXX
              go_wp2
              go_roundw
              case rel => exact ⟨n + 1, some ⟨g4, 0, none⟩, X.length + 1, cap4, by congr 1; omega, rfl, .inl (by omega), HO.out, n4, hb4, ⟨R2, R3, R4, R5⟩, B4⟩
              case measure => simp [intOf]; omega
          · have HE : Hid (wallsT nm r.rules (k + 1) = L ++ wallsN k x ya n) := by simp only [Hid]; rw [HT.out, HX.out n (by omega) hyn]
            go_wp2_with fail
            refine (hN _).mono ?_
            rintro e wz ⟨rfl, hwz⟩
            have hwz := hwz.symm
            subst hwz
            go_wp2
            go_roundw
            case rel => exact ⟨k + 1, by omega, by go_num, by rw [HE.out]; exact ownq, Bq⟩
            case measure => simp [intOf]; omega
    · obtain rfl : k = r.rules.length := by omega
      obtain ⟨L, hL⟩ : ∃ L, wallsT nm r.rules r.rules.length = L := ⟨_, rfl⟩
      have HLL : Hid (wallsT nm r.rules r.rules.length = L) := hL
      rw [hL] at hown hlen
      clear hL
      obtain ⟨a6, d6, rfl, hS6, hd6⟩ := hown.seq
      have hW : WallsAt wr (.slice a6 L.length d6) L := ⟨a6, d6, rfl, hd6, hS6⟩
      by_cases h2 : L.length ≤ 2000
      · have hSo := spec_l03Sort L.length L (.slice a6 L.length d6) wr (Nat.le_refl _) (by omega) hW
        go_wp2_with fail
        refine hSo.mono ?_
        rintro e w5 ⟨v5, s, rfl, hW5, hs5, hb5⟩
        have HR : Hid (WallsR r nm s true) := .inl (by rw [HLL.out]; exact ⟨h2, rfl, hs5⟩)
        have B5 := hBw.trans (hb5.mono hBw.size)
        obtain ⟨a5, d5, rfl, hc5, hS5⟩ := hW5
        have HW5 : Hid (WallsAt w5 (.slice a5 s.length d5) s) := ⟨a5, d5, rfl, hc5, hS5⟩
        clear hSo hb5 hs5 hS5
        go_wp2
        exact bodyPost_ret (v := .tuple #[.slice a5 s.length d5, .bool true]) (by simp [results, Tryz.results86, go_sem]) rfl ⟨_, s, true, rfl, HW5.out, HR.out, B5⟩
      · have HR : Hid (WallsR r nm [] false) := .inr (by rw [HLL.out]; exact ⟨h2, rfl, rfl⟩)
        go_wp2
        exact bodyPost_ret (v := .tuple #[.slice none 0 0, .bool false]) (by simp [results, Tryz.results86, go_sem]) rfl ⟨_, [], false, rfl, ⟨none, 0, rfl, by simp, .inl rfl⟩, HR.out, hBw⟩
end Go.Proofs.YtbbhpfobcelbfaaGreatDoor
namespace Go.Proofs.YtbbhpfobcelbfaaGreatDoor
open Go.RowKit

/-- a rule that happens at a wall time, at an offset and the save ahead. -/
def hapOf (x : RuleD) (wall off save : Int) : HapD := ⟨if (x.of.toList == [115]) = true then wall - off else if (x.of.toList == [119]) = true then wall - off - save else wall, x.save, x.letter⟩
theorem hap_s {x : RuleD} {wall off save : Int} (h : (x.of.toList == [115]) = true) : hapOf x wall off save = ⟨wall - off, x.save, x.letter⟩ := by unfold hapOf; rw [if_pos h]
theorem hap_w {x : RuleD} {wall off save : Int} (h : (x.of.toList == [115]) = false) (h2 : (x.of.toList == [119]) = true) : hapOf x wall off save = ⟨wall - off - save, x.save, x.letter⟩ := by unfold hapOf; rw [if_neg (by rw [h]; simp), if_pos h2]
theorem hap_u {x : RuleD} {wall off save : Int} (h : (x.of.toList == [115]) = false) (h2 : (x.of.toList == [119]) = false) : hapOf x wall off save = ⟨wall, x.save, x.letter⟩ := by unfold hapOf; rw [if_neg (by rw [h]; simp), if_neg (by rw [h2]; simp)]
def stepH (l : List RuleD) (off : Int) (st : List HapD × Int) (m : WallD) : List HapD × Int := match l[m.place]? with
  | some x => (st.1 ++ [hapOf x m.wall off st.2], x.save)
  | none => st
def foldH (l : List RuleD) (off : Int) (s : List WallD) : List HapD × Int := s.foldl (stepH l off) ([], 0)
theorem foldH_take {l : List RuleD} {off : Int} {s : List WallD} {k : Nat} {m : WallD} {x : RuleD} (hm : s[k]? = some m) (hx : l[m.place]? = some x) : foldH l off (s.take (k + 1)) = ((foldH l off (s.take k)).1 ++ [hapOf x m.wall off (foldH l off (s.take k)).2], x.save) := by
  unfold foldH
  rw [List.take_add_one, hm, List.foldl_append]
  show stepH l off _ m = _
  unfold stepH
  rw [hx]
theorem foldH_len {l : List RuleD} {off : Int} {s : List WallD} (h : ∀ m ∈ s, m.place < l.length) : ∀ k, k ≤ s.length → (foldH l off (s.take k)).1.length = k := by
  intro k
  induction k with
  | zero => intro _; rfl
  | succ k ih =>
    intro hk
    obtain ⟨m, hm⟩ : ∃ m, s[k]? = some m := ⟨_, List.getElem?_eq_getElem (by omega)⟩
    obtain ⟨x, hx⟩ : ∃ x, l[m.place]? = some x := ⟨_, List.getElem?_eq_getElem (h m (List.mem_of_getElem? hm))⟩
    rw [foldH_take hm hx, List.length_append, ih (by omega)]; rfl
theorem foldH_save {l : List RuleD} {off : Int} {s : List WallD} (h : ∀ m ∈ s, m.place < l.length) (hs : ∀ x ∈ l, -7200 ≤ x.save ∧ x.save ≤ 7200) : ∀ k, k ≤ s.length → -7200 ≤ (foldH l off (s.take k)).2 ∧ (foldH l off (s.take k)).2 ≤ 7200 := by
  intro k
  induction k with
  | zero => intro _; exact ⟨by simp [foldH], by simp [foldH]⟩
  | succ k ih =>
    intro hk
    obtain ⟨m, hm⟩ : ∃ m, s[k]? = some m := ⟨_, List.getElem?_eq_getElem (by omega)⟩
    obtain ⟨x, hx⟩ : ∃ x, l[m.place]? = some x := ⟨_, List.getElem?_eq_getElem (h m (List.mem_of_getElem? hm))⟩
    rw [foldH_take hm hx]
    exact hs x (List.mem_of_getElem? hx)
/-- what lies in the list is of a rule of the name, and no great number. -/
theorem wallsN_mem {i : Nat} {x : RuleD} {y : Int} (hx : RuleR x) {m : WallD} : ∀ {n : Nat}, 1960 ≤ y → y + n ≤ 2038 → m ∈ wallsN i x y n → m.place = i ∧ -100000000000 ≤ m.wall ∧ m.wall ≤ 300000000000 := by
  intro n
  induction n with
  | zero => intro _ _ h; simp [wallsN] at h
  | succ n ih =>
    intro h1 h2 h
    rw [wallsN, List.mem_append] at h
    rcases h with h | h
    · exact ih h1 (by omega) h
    · have hb := mo_bd (s := x.on) (ym_ok (y := y + n) (m := x.month) (by omega) (by omega) hx.month.1 hx.month.2)
      have ha := hx.at_
      unfold wallsY at h
      split at h
      · simp at h
      · rename_i hne
        simp at h
        subst h
        refine ⟨rfl, ?_, ?_⟩
        · show -100000000000 ≤ 86400 * moV (y + n) x.month x.on + x.at_
          omega
        · show 86400 * moV (y + n) x.month x.on + x.at_ ≤ 300000000000
          omega
theorem wallsT_mem {nm : ByteArray} {l : List RuleD} (hl : ∀ x ∈ l, RuleR x) {m : WallD} : ∀ {k : Nat}, m ∈ wallsT nm l k → (∃ x, l[m.place]? = some x ∧ (x.name.toList == nm.toList) = true) ∧ m.place < k ∧ -100000000000 ≤ m.wall ∧ m.wall ≤ 300000000000 := by
  intro k
  induction k with
  | zero => intro h; simp [wallsT] at h
  | succ k ih =>
    intro h
    rw [wallsT, List.mem_append] at h
    rcases h with h | h
    · obtain ⟨h1, h2, h3⟩ := ih h
      exact ⟨h1, by omega, h3⟩
    · split at h
      · rename_i x hx
        split at h
        · rename_i hn
          by_cases hy : yrs x = 0
          · unfold wallsX at h; rw [hy] at h; simp [wallsN] at h
          · obtain ⟨p1, p2⟩ := wallsN_mem (hl x (List.mem_of_getElem? hx)) (by omega) (by unfold yrs at *; omega) h
            exact ⟨⟨x, by rw [p1]; exact hx, hn⟩, by omega, p2⟩
        · simp at h
      · simp at h
theorem srt_mem {l s : List WallD} (h : SrtOf l s) {m : WallD} (hm : m ∈ s) : m ∈ l := by
  have : m ∈ atW m.wall s := List.mem_filter.mpr ⟨hm, by simp⟩
  rw [h.at_] at this
  exact (List.mem_filter.mp this).1
structure WallOk (l : List RuleD) (s : List WallD) : Prop where
  place : ∀ m ∈ s, m.place < l.length
  wall : ∀ m ∈ s, -100000000000 ≤ m.wall ∧ m.wall ≤ 300000000000
  len : s.length ≤ 2000
theorem walls_ok {r : RelD} {nm : ByteArray} {s : List WallD} {b : Bool} (hl : ∀ x ∈ r.rules, RuleR x) (h : WallsR r nm s b) : WallOk r.rules s := by
  rcases h with ⟨h1, _, h3⟩ | ⟨_, _, h3⟩
  · refine ⟨fun m hm => ?_, fun m hm => ?_, by rw [h3.len]; exact h1⟩
    · exact (wallsT_mem hl (srt_mem h3 hm)).2.1
    · exact (wallsT_mem hl (srt_mem h3 hm)).2.2
  · subst h3
    exact ⟨fun m hm => by simp at hm, fun m hm => by simp at hm, by simp⟩
theorem infoHap2 : (Tryz.prog.info? 36).map (fun i => (i.zero, i.size, i.bytes)) = some (some (.agg #[.int .i64 0, .int .i64 0, .string ⟨#[]⟩]), 3, 32) := by kernel_rfl
theorem hap_len {P : List HapD} : ∀ r ∈ P.map HapD.cs, r.length = 3 := fun r hr => by
  obtain ⟨x, _, rfl⟩ := List.mem_map.mp hr; rfl
def OwnsH (w : World) (base : Nat) (v : Value) (P : List HapD) : Prop := w.ownsRow base 36 3 v P.length (P.map HapD.cs).flatten
theorem OwnsH.add {w : World} {base : Nat} {v : Value} {P : List HapD} {p : HapD} (h : w.ownsRow base 36 3 v (P.length + 1) ((P.map HapD.cs).flatten ++ p.cs)) : OwnsH w base v (P ++ [p]) := by
  unfold OwnsH
  rw [List.length_append, List.map_append, List.flatten_append]
  simpa using h
/-- what is told of what happens. -/
def HapsR (r : RelD) (nm : ByteArray) (off : Int) (H : List HapD) (b : Bool) : Prop := ∃ s, WallsR r nm s b ∧ H = (foldH r.rules off s).1
end Go.Proofs.YtbbhpfobcelbfaaGreatDoor
