/- Is a table right: the model's. -/
import Derived.Test.YtjfonbnmdcpepaaTabImpl
namespace Go.Proofs.Ytjfonbnmdcpepaa
open Go.RowKit Go.Sort

set_option maxHeartbeats 4000000 in
theorem spec_TableRight (l : List TurnD) (v : Value) (w : World) (hv : TabAt w v l) (hok : ∀ r ∈ l, r.ok) :
    Calls Try.prog 14 #[v] w fun e w' => e = .returned (.bool (tabB l)) ∧ Below w.heap.size w w' := by
  obtain ⟨a, cap, rfl, hA⟩ := hv
  have hB0 := fun o => (Below.refl w.heap.size w).alloc (Nat.le_refl _) o
  by_cases hl0 : l.length < 1
  · rw [tab_no1 (by omega)]
    go_enter Try.func14, Try.ntmps14
    go_wp2
    go_ret
    exact ⟨rfl, hB0 _⟩
  by_cases hl8 : 600 < l.length
  · rw [tab_no1 (by omega)]
    go_enter Try.func14, Try.ntmps14
    go_wp2
    go_ret
    exact ⟨rfl, hB0 _⟩
  obtain ⟨f, hf⟩ : ∃ r, l[0]? = some r := ⟨_, List.getElem?_eq_getElem (by omega)⟩
  obtain ⟨b, o, rfl, hd⟩ := hA.at (i := 0) (r := f.cs) (by rw [List.getElem?_map, hf]; rfl)
  have d0 : w.cell? ⟨b, o, none⟩ = some (.int .i64 f.at_) := by simpa using hd 0 _ rfl
  have hbl := World.block_lt_of_cell? _ _ d0
  have hne : b ≠ w.heap.size := by simp at hbl; omega
  clear hd
  by_cases hf0 : f.at_ = -62135596800
  · have HN1 : Hid (∀ (k : Nat) (x : TurnD), l[k]? = some x → 253402300799 < x.at_ → tabB l = false) := fun k x hk h => tab_top hk h
    have HN2 : Hid (∀ (j : Nat) (p x : TurnD), l[j]? = some p → l[j + 1]? = some x → x.at_ ≤ p.at_ → tabB l = false) := fun j p x hp hx h => tab_up hp hx h
    have HN3 : Hid (∀ (k : Nat) (x : TurnD), l[k]? = some x → turnB x = false → tabB l = false) := fun k x hk h => tab_one hk h
    have HY : Hid ((∀ (k : Nat) (x : TurnD), l[k]? = some x → TStep l k x) → tabB l = true) := fun h => tab_yes (by omega) hf hf0 h
    generalize tabB l = zb at *
    have hB0' := hB0 (.cells #[.slice (some ⟨b, o, none⟩) l.length cap] 25)
    have hA1 := hA.below hB0'
    have x0 : (w.alloc (.cells #[.slice (some ⟨b, o, none⟩) l.length cap] 25)).cell? ⟨w.heap.size, 0, none⟩ = some (.slice (some ⟨b, o, none⟩) l.length cap) := by simp [go_sem]
    have g0 : (f.at_ != -62135596800) = false := by simp [hf0]
    clear hB0
    go_enter Try.func14, Try.ntmps14
    go_wp2
    clear g0 d0 hne hbl hf0 hA
    generalize hW : (w.alloc (.cells #[.slice (some ⟨b, o, none⟩) l.length cap] 25)) = W at *
    go_loopw [3] (fun i wr => ∃ k : Nat, k ≤ l.length ∧ i = .int .i64 k ∧ Hid (∀ j, j < k → ∀ x, l[j]? = some x → TStep l j x) ∧ Below W.heap.size W wr) (fun i _ => l.length - (intOf i).toNat)
    case atStart => exact ⟨0, by omega, rfl, fun j hj => by omega, by subst hW; exact Below.refl _ _⟩
    case round =>
      obtain ⟨k, hk, rfl, hall, hB⟩ := hrel
      by_cases hlt : k < l.length
      · obtain ⟨x, hx⟩ : ∃ x, l[k]? = some x := ⟨_, List.getElem?_eq_getElem hlt⟩
        have okx := hok x (List.mem_of_getElem? hx)
        unfold TurnD.ok maxLen at okx
        have hBV : Below W.heap.size W (wr.alloc (.cells #[.int .i64 x.at_, .int .i64 x.offset, .int .i64 x.save, .string x.abbr] 32)) := hB.alloc hB.size _
        obtain ⟨b', o', he, hc⟩ := (hA1.below hB).at (i := k) (r := x.cs) (by rw [List.getElem?_map, hx]; rfl)
        injection he with he
        injection he with u1 u2
        subst u1 u2
        have c0 : wr.cell? ⟨b, o + k * 4, none⟩ = some (.int .i64 x.at_) := hc 0 _ rfl
        have c1 := hc 1 _ rfl
        have c2 := hc 2 _ rfl
        have c3 := hc 3 _ rfl
        clear hc
        have y0 : wr.cell? ⟨w.heap.size, 0, none⟩ = some (.slice (some ⟨b, o, none⟩) l.length cap) := by rw [(bcell hB).1 _ _ (World.block_lt_of_cell? _ _ x0)]; exact x0
        have z0 : (wr.alloc (.cells #[.int .i64 x.at_, .int .i64 x.offset, .int .i64 x.save, .string x.abbr] 32)).cell? ⟨w.heap.size, 0, none⟩ = some (.slice (some ⟨b, o, none⟩) l.length cap) := by rw [(bcell hBV).1 _ _ (World.block_lt_of_cell? _ _ x0)]; exact x0
        have e0 : (wr.alloc (.cells #[.int .i64 x.at_, .int .i64 x.offset, .int .i64 x.save, .string x.abbr] 32)).cell? ⟨wr.heap.size, 0, none⟩ = some (.int .i64 x.at_) := by first | (simp; done) | simp [go_sem]
        have e1 : (wr.alloc (.cells #[.int .i64 x.at_, .int .i64 x.offset, .int .i64 x.save, .string x.abbr] 32)).cell? ⟨wr.heap.size, 1, none⟩ = some (.int .i64 x.offset) := by first | (simp; done) | simp [go_sem]
        have e2 : (wr.alloc (.cells #[.int .i64 x.at_, .int .i64 x.offset, .int .i64 x.save, .string x.abbr] 32)).cell? ⟨wr.heap.size, 2, none⟩ = some (.int .i64 x.save) := by first | (simp; done) | simp [go_sem]
        have e3 : (wr.alloc (.cells #[.int .i64 x.at_, .int .i64 x.offset, .int .i64 x.save, .string x.abbr] 32)).cell? ⟨wr.heap.size, 3, none⟩ = some (.string x.abbr) := by first | (simp; done) | simp [go_sem]
        have hA2 := hA1.below hBV
        go_wp2_with fail
        generalize hV : (wr.alloc (.cells #[.int .i64 x.at_, .int .i64 x.offset, .int .i64 x.save, .string x.abbr] 32)) = V at *
        generalize wr.heap.size = g at *
        clear c0 c1 c2 c3 y0
        have HS : Hid (∀ i, i < k → ∀ y, l[i]? = some y → TStep l i y) := hall
        clear hall
        by_cases h1 : x.at_ ≤ 253402300799
        · have g1 : decide (253402300799 < x.at_) = false := by simpa using h1
          by_cases hk0 : k = 0
          · have g2 : decide (0 < k) = false := by simp [hk0]
            have g3 : decide ((0 : Int) < (k : Int)) = false := by simp [hk0]
            have hk0' : Hid (k = 0) := hk0
            clear hk0
            cases h4 : isB x.offset (-100000) 100000
            · have hS := fun w => spec_l02SaveT x.save w
              have HR : Hid (zb = false) := HN3.out _ x hx (turn_no1 h4)
              clear HN1 HN2 HN3 HY HS
              go_quiet ((first | (go_at_call 48; exact Calls.quiet_of_same (spec_l01Is_v h4 _)) | (go_at_call 49; exact Calls.quiet_of_same (hS _))))
              go_wp2
              go_ret
              exact ⟨ret_bool HR.out.symm, below_drewN (hB0'.trans (hBV.mono hB0'.size)) _⟩
            cases h5 : isB x.save (-7200) 7200
            · have hS := fun w => h5 ▸ spec_l02SaveT x.save w
              have HR : Hid (zb = false) := HN3.out _ x hx (turn_no2 h5)
              clear HN1 HN2 HN3 HY HS
              go_quiet ((first | (go_at_call 48; exact Calls.quiet_of_same (spec_l01Is_v h4 _)) | (go_at_call 49; exact Calls.quiet_of_same (hS _))))
              go_wp2
              go_ret
              exact ⟨ret_bool HR.out.symm, below_drewN (hB0'.trans (hBV.mono hB0'.size)) _⟩
            have hS := fun w => h5 ▸ spec_l02SaveT x.save w
            by_cases h6 : x.abbr.size ≤ 20
            · have g6 : decide (20 < x.abbr.size) = false := by simpa using h6
              have g7 : decide ((20 : Int) < (x.abbr.size : Int)) = false := by simp; omega
              have HR : Hid (∀ i, i < k + 1 → ∀ y, l[i]? = some y → TStep l i y) := fun i hi y hy => by
                by_cases e : i = k
                · subst e; rw [hx] at hy; obtain rfl := Option.some.inj hy; exact ⟨by omega, fun j p hj _ => by have := hk0'.out; omega, turn_yes h4 h5 h6⟩
                · exact HS.out i (by omega) y hy
              clear HN1 HN2 HN3 HY HS
              go_quiet ((first | (go_at_call 48; exact Calls.quiet_of_same (spec_l01Is_v h4 _)) | (go_at_call 49; exact Calls.quiet_of_same (hS _))))
              go_wp2
              go_roundw
              case rel => exact ⟨k + 1, by omega, by go_num, HR, below_drewN hBV _⟩
              case measure => simp [intOf]; omega
            · have g6 : decide (20 < x.abbr.size) = true := by simpa using h6
              have g7 : decide ((20 : Int) < (x.abbr.size : Int)) = true := by simp; omega
              have HR : Hid (zb = false) := HN3.out _ x hx (turn_no3 h6)
              clear HN1 HN2 HN3 HY HS
              go_quiet ((first | (go_at_call 48; exact Calls.quiet_of_same (spec_l01Is_v h4 _)) | (go_at_call 49; exact Calls.quiet_of_same (hS _))))
              go_wp2
              go_ret
              exact ⟨ret_bool HR.out.symm, below_drewN (hB0'.trans (hBV.mono hB0'.size)) _⟩
          · obtain ⟨j, rfl⟩ : ∃ j, k = j + 1 := ⟨k - 1, by omega⟩
            obtain ⟨q, hq⟩ : ∃ q, l[j]? = some q := ⟨_, List.getElem?_eq_getElem (by omega)⟩
            obtain ⟨b', o', he, hd⟩ := hA2.at (i := j) (r := q.cs) (by rw [List.getElem?_map, hq]; rfl)
            injection he with he
            injection he with u1 u2
            subst u1 u2
            have p0 : V.cell? ⟨b, o + j * 4, none⟩ = some (.int .i64 q.at_) := hd 0 _ rfl
            clear hd
            by_cases hu : q.at_ < x.at_
            · have hu' : decide (x.at_ ≤ q.at_) = false := by simpa using hu
              cases h4 : isB x.offset (-100000) 100000
              · have hS := fun w => spec_l02SaveT x.save w
                have HR : Hid (zb = false) := HN3.out _ x hx (turn_no1 h4)
                clear HN1 HN2 HN3 HY HS
                go_quiet ((first | (go_at_call 48; exact Calls.quiet_of_same (spec_l01Is_v h4 _)) | (go_at_call 49; exact Calls.quiet_of_same (hS _))))
                go_wp2
                go_ret
                exact ⟨ret_bool HR.out.symm, below_drewN (hB0'.trans (hBV.mono hB0'.size)) _⟩
              cases h5 : isB x.save (-7200) 7200
              · have hS := fun w => h5 ▸ spec_l02SaveT x.save w
                have HR : Hid (zb = false) := HN3.out _ x hx (turn_no2 h5)
                clear HN1 HN2 HN3 HY HS
                go_quiet ((first | (go_at_call 48; exact Calls.quiet_of_same (spec_l01Is_v h4 _)) | (go_at_call 49; exact Calls.quiet_of_same (hS _))))
                go_wp2
                go_ret
                exact ⟨ret_bool HR.out.symm, below_drewN (hB0'.trans (hBV.mono hB0'.size)) _⟩
              have hS := fun w => h5 ▸ spec_l02SaveT x.save w
              by_cases h6 : x.abbr.size ≤ 20
              · have g6 : decide (20 < x.abbr.size) = false := by simpa using h6
                have g7 : decide ((20 : Int) < (x.abbr.size : Int)) = false := by simp; omega
                have HR : Hid (∀ i, i < (j + 1) + 1 → ∀ y, l[i]? = some y → TStep l i y) := fun i hi y hy => by
                  by_cases e : i = (j + 1)
                  · subst e; rw [hx] at hy; obtain rfl := Option.some.inj hy; exact ⟨by omega, fun i p hi hp => by obtain rfl : i = j := (by omega); rw [hq] at hp; obtain rfl := Option.some.inj hp; exact hu, turn_yes h4 h5 h6⟩
                  · exact HS.out i (by omega) y hy
                clear HN1 HN2 HN3 HY HS
                go_quiet ((first | (go_at_call 48; exact Calls.quiet_of_same (spec_l01Is_v h4 _)) | (go_at_call 49; exact Calls.quiet_of_same (hS _))))
                go_wp2
                go_roundw
                case rel => exact ⟨(j + 1) + 1, by omega, by go_num, HR, below_drewN hBV _⟩
                case measure => simp [intOf]; omega
              · have g6 : decide (20 < x.abbr.size) = true := by simpa using h6
                have g7 : decide ((20 : Int) < (x.abbr.size : Int)) = true := by simp; omega
                have HR : Hid (zb = false) := HN3.out _ x hx (turn_no3 h6)
                clear HN1 HN2 HN3 HY HS
                go_quiet ((first | (go_at_call 48; exact Calls.quiet_of_same (spec_l01Is_v h4 _)) | (go_at_call 49; exact Calls.quiet_of_same (hS _))))
                go_wp2
                go_ret
                exact ⟨ret_bool HR.out.symm, below_drewN (hB0'.trans (hBV.mono hB0'.size)) _⟩
            · have hu' : decide (x.at_ ≤ q.at_) = true := by simpa using hu
              have h4 := spec_l01Is x.offset
              have hS := fun w => spec_l02SaveT x.save w
              have HR : Hid (zb = false) := HN2.out j q x hq hx (by omega)
              clear HN1 HN2 HN3 HY HS
              go_quiet ((first | (go_at_call 48; exact Calls.quiet_of_same (spec_l01Is _ _ _ _)) | (go_at_call 49; exact Calls.quiet_of_same (hS _))))
              go_wp2
              go_ret
              exact ⟨ret_bool HR.out.symm, below_drewN (hB0'.trans (hBV.mono hB0'.size)) _⟩
        · have g1 : decide (253402300799 < x.at_) = true := by simpa using h1
          have hS := fun w => spec_l02SaveT x.save w
          have HR : Hid (zb = false) := HN1.out k x hx (by omega)
          clear HN1 HN2 HN3 HY HS
          go_quiet ((first | (go_at_call 48; exact Calls.quiet_of_same (spec_l01Is _ _ _ _)) | (go_at_call 49; exact Calls.quiet_of_same (hS _))))
          go_wp2
          go_ret
          exact ⟨ret_bool HR.out.symm, below_drewN (hB0'.trans (hBV.mono hB0'.size)) _⟩
      · have e : k = l.length := by omega
        subst e
        have y0 : wr.cell? ⟨w.heap.size, 0, none⟩ = some (.slice (some ⟨b, o, none⟩) l.length cap) := by rw [(bcell hB).1 _ _ (World.block_lt_of_cell? _ _ x0)]; exact x0
        have HR : Hid (zb = true) := HY.out fun j y hy => hall.out j (List.getElem?_eq_some_iff.mp hy).1 y hy
        go_wp2
        go_ret
        exact ⟨ret_bool HR.out.symm, hB0'.trans (hB.mono hB0'.size)⟩
  · rw [tab_first hf hf0]
    have g0 : (f.at_ != -62135596800) = true := by simpa using hf0
    clear hf0
    go_enter Try.func14, Try.ntmps14
    go_wp2
    go_ret
    exact ⟨rfl, hB0 _⟩
end Go.Proofs.Ytjfonbnmdcpepaa
