/- Packed: Tb6 Tb7 Tb8. -/
import Derived.Test.YtbbhpfobcelbfaaGreatDoorTbPt
import Derived.Test.YtbbhpfobcelbfaaGreatDoorHpPt
import Derived.Deep.AppendLies
import Derived.Test.YtbbhpfobcelbfaaGreatDoorShelfInt
import Derived.Test.YtbbhpfobcelbfaaGreatDoorAhdt
import Derived.Lib.OwnBridge
import Derived.OwnWalk
import Derived.Test.YtbbhpfobcelbfaaGreatDoorHpRt
import Derived.Test.YtbbhpfobcelbfaaGreatDoorMapPt
namespace Go.Proofs.YtbbhpfobcelbfaaGreatDoor
open Go.RowKit Go.Sort

def OwnsT (w : World) (base : Nat) (v : Value) (T : List TurnD) : Prop := w.ownsRow base 53 4 v T.length (T.map TurnD.cs).flatten
theorem OwnsT.add {w : World} {base : Nat} {v : Value} {T : List TurnD} {x : TurnD} (h : w.ownsRow base 53 4 v (T.length + 1) ((T.map TurnD.cs).flatten ++ x.cs)) : OwnsT w base v (T ++ [x]) := by
  unfold OwnsT
  rw [List.length_append, List.map_append, List.flatten_append]
  simpa using h
theorem turnCs_len {P : List TurnD} : ∀ r ∈ P.map TurnD.cs, r.length = 4 := fun r hr => by
  obtain ⟨x, _, rfl⟩ := List.mem_map.mp hr
  rfl
theorem OwnsT.seq {w : World} {base : Nat} {v : Value} {T : List TurnD} (h : OwnsT w base v T) : ∃ a cap, v = .slice a T.length cap ∧ SeqAt w a 4 (T.map TurnD.cs) := by
  obtain ⟨a, cap, h1, h2, h3⟩ := seq_of_owns (rows := T.map TurnD.cs) (by rw [List.length_map]; exact h) turnCs_len
  rw [List.length_map] at h1
  exact ⟨a, cap, h1, h2⟩
theorem infoTurn2 : (Tryz.prog.info? 53).map (fun i => (i.zero, i.size, i.bytes)) = some (some (.agg #[.int .i64 0, .int .i64 0, .int .i64 0, .string ⟨#[]⟩]), 4, 40) := by kernel_rfl
set_option maxRecDepth 100000 in
theorem fields_turn : ∃ a b c d e f g h i j k l, (Tryz.prog.fieldsOf 53).toList = [⟨ "At", 2, 0, false, a, b, c⟩, ⟨ "Offset", 2, 1, false, d, e, f⟩, ⟨ "Save", 2, 2, false, g, h, i⟩, ⟨ "Abbr", 9, 3, false, j, k, l⟩] := ⟨_, _, _, _, _, _, _, _, _, _, _, _, rfl⟩
theorem eql_turn (t o1 s1 o2 s2 : Int) (a1 a2 : ByteArray) (w : World) : (binOp .eql 53 (.agg #[.int .i64 t, .int .i64 o1, .int .i64 s1, .string a1]) (.agg #[.int .i64 t, .int .i64 o2, .int .i64 s2, .string a2])).run Tryz.prog w = .ok (.bool (likeT ⟨t, o1, s1, a1⟩ ⟨t, o2, s2, a2⟩)) w := by
  have ht : Tryz.prog.underlying 53 = some (.struct (Tryz.prog.fieldsOf 53)) := by kernel_rfl
  have hp : Tryz.prog.stoodInHeld 53 = false := by kernel_rfl
  obtain ⟨a, b, c, d, e, f, g, h, i, j, k, l, hf⟩ := fields_turn
  rw [run_eql_struct, run_equalIn_agg _ 9999 _ _ _ ht hp, hf]
  simp [Op.eqFields, go_sem, likeT]
  by_cases h1 : o1 = o2
  · by_cases h2 : s1 = s2
    · simp [h1, h2]
      by_cases h3 : a1.toList = a2.toList
      · simp [h3]
      · simp [h3]
    · simp [h1, h2]
  · simp [h1]
theorem guard_turn (x y : Operand) (v1 v2 : Array Value) (w : World) : (eqGuard .eql 53 x y (.agg v1) (.agg v2)).run Tryz.prog w = .ok () w := run_eqGuard_agg w _ _ _ _ _ _ (by kernel_rfl)
set_option maxRecDepth 20000 in
set_option maxHeartbeats 4000000 in
theorem impl_withTurn (T : List TurnD) (x : TurnD) (v : Value) (base : Nat) (w : World) (hT : OwnsT w base v T) (hb : base ≤ w.heap.size) (hl : T.length ≤ 100000) :
    Calls Tryz.prog 99 #[v, x.v] w fun e W' => ∃ v', e = .returned v' ∧ OwnsT W' base v' (addT T x) ∧ Fr (fun b => v.ownBlock = some b) w W' ∧ (v'.ownBlock = v.ownBlock ∨ ∃ g, v'.ownBlock = some g ∧ w.heap.size ≤ g) := by
  obtain ⟨i0, hi, hz0, hz1, hz2⟩ := info_parts infoTurn2
  obtain ⟨a, cap, rfl, hS⟩ := hT.seq
  have hB0 := (Below.refl w.heap.size w).alloc (Nat.le_refl _) (.cells #[.int .i64 x.at_, .int .i64 x.offset, .int .i64 x.save, .string x.abbr] 53)
  cases hL : T.getLast? with
  | none =>
    have hTn : T = [] := by simpa using hL
    subst hTn
    have HR : Hid (addT [] x = [] ++ [x]) := rfl
    have hT0 : OwnsT (w.alloc (.cells #[.int .i64 x.at_, .int .i64 x.offset, .int .i64 x.save, .string x.abbr] 53)) base (.slice a 0 cap) [] := World.ownsRow.alloc hT _
    generalize addT [] x = R at *
    unfold TurnD.v
    go_enter Tryz.func99, Tryz.ntmps99
    go_wp2_with (first
      | (at_builtin; refine wpList_append_lies _ rfl _ _ 40 rfl base 53 i0 (.agg #[.int .i64 0, .int .i64 0, .int .i64 0, .string ⟨#[]⟩]) 4 40 Tryz.underlying40 hi hz0 hz1 hz2 rfl (by decide) _ _ _ rfl (World.ownsRow.alloc hT0 _) ⟨w.heap.size + 1, 0, none⟩ 1 1 [.int .i64 x.at_, .int .i64 x.offset, .int .i64 x.save, .string x.abbr] rfl rfl ?c1 ?c2 (by decide) ?c3 ?c4 ?c5 _ rfl ?_)
      | fail)
    case c1 => simpa using cells_new (w.alloc (.cells #[.int .i64 x.at_, .int .i64 x.offset, .int .i64 x.save, .string x.abbr] 53)) [.int .i64 x.at_, .int .i64 x.offset, .int .i64 x.save, .string x.abbr] 53
    case c2 => intro u hu; simp at hu; rcases hu with rfl | rfl | rfl | rfl <;> rfl
    case c3 => unfold maxLen; simp
    case c4 => simp
    case c5 => simp; omega
    intro g1 cap1 w1 hown1 hgrow hat hlt1
    have HO : Hid (OwnsT w1 base (.slice (some ⟨g1, 0, none⟩) (0 + 1) cap1) ([] ++ [x])) := OwnsT.add (T := []) hown1
    have hF : Fr (fun b => (Value.slice a 0 cap).ownBlock = some b) w w1 := ((Fr.of_below hB0).trans (Fr.of_below ((Below.refl _ _).alloc (Nat.le_refl _) _))).trans (Fr.of_grown hgrow)
    have hloc : (Value.slice (some ⟨g1, 0, none⟩) (0 + 1) cap1).ownBlock = (Value.slice a 0 cap).ownBlock ∨ ∃ g, (Value.slice (some ⟨g1, 0, none⟩) (0 + 1) cap1).ownBlock = some g ∧ w.heap.size ≤ g := hat.imp (fun h => h.symm) fun h => ⟨g1, rfl, by rw [h]; first | omega | (simp; omega)⟩
    clear hown1 hgrow hat hlt1 hT hT0 hS
    go_wp2
    go_ret
    exact ⟨_, rfl, by rw [HR.out]; exact HO.out, hF, hloc⟩
  | some y =>
    obtain ⟨n, hn⟩ : ∃ n, T.length = n + 1 := by
      cases T with
      | nil => simp at hL
      | cons z Z => exact ⟨Z.length, rfl⟩
    have hy : T[n]? = some y := by rw [List.getLast?_eq_getElem?, hn] at hL; exact hL
    obtain ⟨b, o, ha, hc⟩ := hS.at (i := n) (r := y.cs) (by rw [List.getElem?_map, hy]; rfl)
    subst ha
    have c0 : (w.alloc (.cells #[.int .i64 x.at_, .int .i64 x.offset, .int .i64 x.save, .string x.abbr] 53)).cell? ⟨b, o + n * 4, none⟩ = some (.int .i64 y.at_) := keepC hB0 (hc 0 _ rfl)
    have c1 := keepC hB0 (hc 1 _ rfl)
    have c2 := keepC hB0 (hc 2 _ rfl)
    have c3 := keepC hB0 (hc 3 _ rfl)
    have hcmp := fun w => eql_turn x.at_ y.offset y.save x.offset x.save y.abbr x.abbr w
    have hgrd := guard_turn
    have e1 : likeT ⟨x.at_, y.offset, y.save, y.abbr⟩ ⟨x.at_, x.offset, x.save, x.abbr⟩ = likeT y x := rfl
    rw [e1] at hcmp
    have hB1 : Below w.heap.size w (((w.alloc (.cells #[.int .i64 x.at_, .int .i64 x.offset, .int .i64 x.save, .string x.abbr] 53)).alloc (.cells #[.int .i64 y.at_, .int .i64 y.offset, .int .i64 y.save, .string y.abbr] 53)).setCell ⟨w.heap.size + 1, 0, none⟩ (.int .i64 x.at_)) := (hB0.alloc (by simp) _).setCell (show w.heap.size ≤ w.heap.size + 1 by omega) _
    have hnl : (n : Int) < ((n + 1 : Nat) : Int) := by omega
    clear hc
    rw [hn] at hT ⊢
    cases hl : likeT y x
    · have HR : Hid (addT T x = T ++ [x]) := addT_new hL hl
      rw [hl] at hcmp
      have HT : Hid (w.ownsRow base 53 4 (.slice (some ⟨b, o, none⟩) (n + 1) cap) (n + 1) (T.map TurnD.cs).flatten) := by unfold OwnsT at hT; rw [hn] at hT; exact hT
      have HN : Hid (T.length = n + 1) := hn
      clear hl hL e1 hS hy hT
      generalize addT T x = R at *
      unfold TurnD.v
      go_enter Tryz.func99, Tryz.ntmps99
      go_wp2_with (first
        | (at_builtin; refine wpList_append_lies _ rfl _ _ 40 rfl base 53 i0 (.agg #[.int .i64 0, .int .i64 0, .int .i64 0, .string ⟨#[]⟩]) 4 40 Tryz.underlying40 hi hz0 hz1 hz2 rfl (by decide) (.slice (some ⟨b, o, none⟩) (n + 1) cap) (n + 1) (T.map TurnD.cs).flatten rfl ?d0 ⟨w.heap.size + 1 + 1, 0, none⟩ 1 1 [.int .i64 x.at_, .int .i64 x.offset, .int .i64 x.save, .string x.abbr] rfl rfl ?d1 ?d2 (by decide) ?d3 ?d4 ?d5 _ rfl ?_)
        | fail)
      case d0 => exact World.ownsRow.alloc (World.ownsRow.alloc (World.ownsRow.alloc HT.out _) _) _
      case d1 => simpa using cells_new ((w.alloc (.cells #[.int .i64 x.at_, .int .i64 x.offset, .int .i64 x.save, .string x.abbr] 53)).alloc (.cells #[.int .i64 x.at_, .int .i64 y.offset, .int .i64 y.save, .string y.abbr] 53)) [.int .i64 x.at_, .int .i64 x.offset, .int .i64 x.save, .string x.abbr] 53
      case d2 => intro u hu; simp at hu; rcases hu with rfl | rfl | rfl | rfl <;> rfl
      case d3 => unfold maxLen; omega
      case d4 => omega
      case d5 => simp; omega
      intro g1 cap1 w1 hown1 hgrow hat hlt1
      have HO : Hid (OwnsT w1 base (.slice (some ⟨g1, 0, none⟩) (n + 1 + 1) cap1) (T ++ [x])) := OwnsT.add (by rw [HN.out]; exact hown1)
      have hF : Fr (fun b_1 => (Value.slice (some ⟨b, o, none⟩) (n + 1) cap).ownBlock = some b_1) w w1 := (((Fr.of_below hB0).trans (Fr.of_below ((Below.refl _ _).alloc (Nat.le_refl _) _))).trans (Fr.of_below ((Below.refl _ _).alloc (Nat.le_refl _) _))).trans (Fr.of_grown hgrow)
      have hloc : (Value.slice (some ⟨g1, 0, none⟩) (n + 1 + 1) cap1).ownBlock = (Value.slice (some ⟨b, o, none⟩) (n + 1) cap).ownBlock ∨ ∃ g, (Value.slice (some ⟨g1, 0, none⟩) (n + 1 + 1) cap1).ownBlock = some g ∧ w.heap.size ≤ g := hat.imp (fun h => h.symm) fun h => ⟨g1, rfl, by rw [h]; first | omega | (simp; omega)⟩
      clear hown1 hgrow hat hlt1
      go_wp2
      go_ret
      exact ⟨_, rfl, by rw [HR.out]; exact HO.out, hF, hloc⟩
    · have HR : Hid (addT T x = T) := addT_like hL hl
      rw [hl] at hcmp
      have HT : Hid (OwnsT ((w.alloc (.cells #[.int .i64 x.at_, .int .i64 x.offset, .int .i64 x.save, .string x.abbr] 53)).alloc (.cells #[.int .i64 x.at_, .int .i64 y.offset, .int .i64 y.save, .string y.abbr] 53)) base (.slice (some ⟨b, o, none⟩) (n + 1) cap) T) := World.ownsRow.alloc (World.ownsRow.alloc hT _) _
      have hF : Fr (fun b_1 => (Value.slice (some ⟨b, o, none⟩) (n + 1) cap).ownBlock = some b_1) w ((w.alloc (.cells #[.int .i64 x.at_, .int .i64 x.offset, .int .i64 x.save, .string x.abbr] 53)).alloc (.cells #[.int .i64 x.at_, .int .i64 y.offset, .int .i64 y.save, .string y.abbr] 53)) := (Fr.of_below hB0).trans (Fr.of_below ((Below.refl _ _).alloc (Nat.le_refl _) _))
      clear hl hL e1 hS hy hT
      generalize addT T x = R at *
      unfold TurnD.v
      go_enter Tryz.func99, Tryz.ntmps99
      go_wp2
      go_ret
      exact ⟨_, rfl, by rw [HR.out]; exact HT.out, hF, .inl rfl⟩
end Go.Proofs.YtbbhpfobcelbfaaGreatDoor
namespace Go.Proofs.YtbbhpfobcelbfaaGreatDoor
open Go.RowKit Go.Sort

theorem inX_step {H : List HapD} {b e : Int} {k : Nat} {x : HapD} (hx : H[k]? = some x) : inX (H.take (k + 1)) b e = inX (H.take k) b e ++ (if b < x.at_ ∧ x.at_ < e then [x.at_] else []) := by
  unfold inX
  rw [List.take_add_one, hx, List.map_append, List.filter_append]
  congr 1
  by_cases h : b < x.at_ ∧ x.at_ < e
  · rw [if_pos h]; simp [h.1, h.2]
  · rw [if_neg h]; simp; intro h1; exact Int.not_lt.mp fun h2 => h ⟨h1, h2⟩
theorem inX_len (H : List HapD) (b e : Int) : (inX H b e).length ≤ H.length := by
  unfold inX
  have := List.length_filter_le (fun t => decide (b < t) && decide (t < e)) (H.map HapD.at_)
  rw [List.length_map] at this
  exact this
theorem int_pairwise (l : List Int) : (l.mergeSort fun x y => decide (x ≤ y)).Pairwise (· ≤ ·) := by
  have := List.pairwise_mergeSort (le := fun (x y : Int) => decide (x ≤ y)) (fun a b c h1 h2 => by
    have := of_decide_eq_true h1
    have := of_decide_eq_true h2
    exact decide_eq_true (by omega)) (fun a b => by
    by_cases h : a ≤ b
    · simp [h]
    · simp [show b ≤ a by omega]) l
  exact this.imp fun h => of_decide_eq_true h
set_option maxRecDepth 20000 in
set_option maxHeartbeats 4000000 in
theorem impl_turnTimes (H : List HapD) (a : Option Addr) (ca : Nat) (b e : Int) (w : World) (hA : SeqAt w a 3 (H.map HapD.cs)) (hl : H.length ≤ 2000) :
    Calls Tryz.prog 98 #[.slice a H.length ca, .int .i64 b, .int .i64 e] w fun r W' => ∃ v L, r = .returned v ∧ OwnsI W' w.heap.size v L ∧ L.Pairwise (· ≤ ·) ∧ L.Perm (b :: inX H b e) ∧ Below w.heap.size w W' := by
  obtain ⟨i0, hi, hz0, hz1, hz2⟩ := info_parts infoI64b
  have hB0 := (Below.refl w.heap.size w).alloc (Nat.le_refl _) (.cells #[.int .i64 b] 2)
  have hO0 : OwnsI (w.alloc (.cells #[.int .i64 b] 2)) w.heap.size (.slice (some ⟨w.heap.size, 0, none⟩) 1 1) (b :: inX (H.take 0) b e) := ⟨by simp [inX], .inr ⟨w.heap.size, 1, #[.int .i64 b], by simp [inX], Nat.le_refl _, heap_alloc_new w _, by simp [inX], by unfold maxLen; omega, by simp, by simp [inX]⟩⟩
  go_enter Tryz.func98, Tryz.ntmps98
  go_wp2
  go_loopw [7, 14] (fun s7 s14 wr => ∃ (k : Nat) (p : Option Addr) (m c : Nat), k ≤ H.length ∧ s14 = .int .i64 k ∧ s7 = .slice p m c ∧ OwnsI wr w.heap.size (.slice p m c) (b :: inX (H.take k) b e) ∧ Below w.heap.size w wr) (fun _ s14 _ => H.length - (intOf s14).toNat)
  case atStart => exact ⟨0, _, _, _, by omega, rfl, rfl, hO0, hB0⟩
  case round =>
    clear hO0 hB0
    obtain ⟨k, p, m, c, hk, rfl, rfl, hO, hB⟩ := hrel
    have hsW := hB.size
    by_cases hlt : k < H.length
    · obtain ⟨x, hx⟩ : ∃ x, H[k]? = some x := ⟨_, List.getElem?_eq_getElem hlt⟩
      obtain ⟨b9, o9, rfl, hc⟩ := (hA.below hB).at (i := k) (r := x.cs) (by rw [List.getElem?_map, hx]; rfl)
      have c0 : wr.cell? ⟨b9, o9 + k * 3, none⟩ = some (.int .i64 x.at_) := hc 0 _ rfl
      have c1 := hc 1 _ rfl
      have c2 := hc 2 _ rfl
      have hkl : (k : Int) < (H.length : Int) := by omega
      have HX := inX_step (b := b) (e := e) hx
      have hXl := inX_len (H.take k) b e
      have htk : (H.take k).length ≤ 2000 := by rw [List.length_take]; omega
      have hB2 := hB.alloc hsW (.cells #[.int .i64 x.at_, .int .i64 x.save, .string x.letter] 36)
      have hO2 : OwnsI (wr.alloc (.cells #[.int .i64 x.at_, .int .i64 x.save, .string x.letter] 36)) w.heap.size (.slice p m c) (b :: inX (H.take k) b e) := World.ownsRow.alloc hO _
      obtain ⟨X, hXX⟩ : ∃ X, inX (H.take k) b e = X := ⟨_, rfl⟩
      rw [hXX] at hO hO2 HX hXl
      clear hc hx hXX
      by_cases hin : b < x.at_ ∧ x.at_ < e
      · rw [if_pos hin] at HX
        have HXh : Hid (inX (H.take (k + 1)) b e = X ++ [x.at_]) := HX
        obtain ⟨g1, g2⟩ := hin
        clear HX
        go_wp2_with (first
          | (at_builtin; refine wpList_append_own _ rfl _ _ 77 rfl w.heap.size 2 i0 (.int .i64 0) 1 8 Tryz.underlying77 hi hz0 hz1 hz2 rfl (by decide) _ _ _ rfl (World.ownsRow.alloc hO2 _) ⟨wr.heap.size + 1, 0, none⟩ 1 1 [.int .i64 x.at_] rfl rfl ?c1 ?c2 ?c3 ?c4 ?c5 ?_)
          | fail)
        case c1 => simpa using cell_one_new (wr.alloc _) (.int .i64 x.at_) _
        case c2 => intro u hu; simp at hu; subst hu; rfl
        case c3 => unfold maxLen; simp; omega
        case c4 => simp; omega
        case c5 => simp; omega
        · intro v' w1 hown' hgrow _
          have hB3 : Below w.heap.size w w1 := (hB2.alloc (by simp; omega) _).grown hgrow (by simp; omega) (fun j hj => (World.ownsRow.lt hO j hj).1)
          have HO : Hid (OwnsI w1 w.heap.size v' (b :: (X ++ [x.at_]))) := by simpa [Hid, OwnsI] using hown'
          obtain ⟨p', m', c', rfl⟩ := row_shape3 hown'
          clear hgrow hown' hO hO2
          go_wp2
          go_roundw
          case rel => exact ⟨k + 1, p', m', c', by omega, by go_num, rfl, by rw [HXh.out]; exact HO.out, hB3⟩
          case measure => simp [intOf]; omega
      · rw [if_neg hin, List.append_nil] at HX
        have HO : Hid (OwnsI (wr.alloc (.cells #[.int .i64 x.at_, .int .i64 x.save, .string x.letter] 36)) w.heap.size (.slice p m c) (b :: inX (H.take (k + 1)) b e)) := by rw [HX]; exact hO2
        clear HX hO hO2
        by_cases g1 : b < x.at_
        · have g2 : ¬ x.at_ < e := fun h => hin ⟨g1, h⟩
          clear hin
          go_wp2
          go_roundw
          case rel => exact ⟨k + 1, p, m, c, by omega, by go_num, rfl, HO.out, hB2⟩
          case measure => simp [intOf]; omega
        · clear hin
          go_wp2
          go_roundw
          case rel => exact ⟨k + 1, p, m, c, by omega, by go_num, rfl, HO.out, hB2⟩
          case measure => simp [intOf]; omega
    · have hke : k = H.length := by omega
      subst hke
      rw [List.take_length] at hO
      have hXl := inX_len H b e
      obtain ⟨Z, hZ⟩ : ∃ Z, b :: inX H b e = Z := ⟨_, rfl⟩
      have hZl : Z.length ≤ 2001 := by rw [← hZ, List.length_cons]; omega
      have hZ1 : 1 ≤ Z.length := by rw [← hZ, List.length_cons]; omega
      have HZ : Hid (b :: inX H b e = Z) := hZ
      rw [hZ] at hO
      clear hZ
      have hnn : Value.slice p m c ≠ .slice none 0 0 := fun h => by
        rcases hO.2 with ⟨_, h0⟩ | ⟨g, cap, cur, h0, _⟩
        · omega
        · rw [h] at h0; cases h0
      obtain ⟨g', cap', he, hbg, hglt, hncap, hcm, hzl, hH⟩ := Lib.holds_of_ownsRow hO hnn
      injection he with he1 he2 he3
      subst he1 he2 he3
      have hS := Tryz.slices_Sort_int g' 0 c Z wr hH hglt (by omega)
      obtain ⟨so, hso⟩ : ∃ so, (Z.mergeSort fun x y => decide (x ≤ y)) = so := ⟨_, rfl⟩
      have HP1 : Hid (so.Pairwise (· ≤ ·)) := hso ▸ int_pairwise Z
      have HP2 : Hid (so.Perm (b :: inX H b e)) := by rw [HZ.out]; exact hso ▸ List.mergeSort_perm Z _
      have hsl : so.length = Z.length := by rw [← hso]; exact List.length_mergeSort Z
      rw [hso] at hS
      have hGr : ∀ q os, Below w.heap.size w (grow (putRow (Value.int .i64) (Sort.ahead wr q) g' 0 so.toArray) os) ∧ OwnsI (grow (putRow (Value.int .i64) (Sort.ahead wr q) g' 0 so.toArray) os) w.heap.size (.slice (some ⟨g', 0, none⟩) Z.length c) so := fun q os => by
        have hb1 := Lib.below_putRow (enc := Value.int .i64) (q := q) (d := so.toArray) hB hbg
        have ho1 := Lib.ownsRow_putRow (q := q) (k := Z.length) hO hsl (Nat.le_refl _)
        have hg1 : Below (putRow (Value.int .i64) (Sort.ahead wr q) g' 0 so.toArray).heap.size (putRow (Value.int .i64) (Sort.ahead wr q) g' 0 so.toArray) (grow (putRow (Value.int .i64) (Sort.ahead wr q) g' 0 so.toArray) os) := ⟨rfl, rfl, rfl, by simp, fun k hk => Go.Sort.heap_grow_old _ _ hk⟩
        refine ⟨hb1.trans (hg1.mono hb1.size), ?_⟩
        have ho2 := owns_below ho1 hg1
        unfold OwnsI
        rw [hsl]
        rw [show so.take Z.length = so by rw [← hsl, List.take_length]] at ho2
        exact ho2
      have HG : Hid (∀ q os, Below w.heap.size w (grow (putRow (Value.int .i64) (Sort.ahead wr q) g' 0 so.toArray) os) ∧ OwnsI (grow (putRow (Value.int .i64) (Sort.ahead wr q) g' 0 so.toArray) os) w.heap.size (.slice (some ⟨g', 0, none⟩) Z.length c) so) := hGr
      clear hGr hsl hso hH hO hZl hnn hzl hXl
      go_wp2_with fail
      refine hS.mono ?_
      rintro r w2 ⟨rfl, q, os, rfl⟩
      obtain ⟨hb2, ho2⟩ := HG.out q os
      generalize grow (putRow (Value.int .i64) (Sort.ahead wr q) g' 0 so.toArray) os = w3 at *
      go_wp2
      go_ret
      exact ⟨_, so, rfl, ho2, HP1.out, HP2.out, hb2⟩
end Go.Proofs.YtbbhpfobcelbfaaGreatDoor
namespace Go.Proofs.YtbbhpfobcelbfaaGreatDoor
open Go.RowKit

theorem num_up {x y z : Int} (h : vldB x y z = true) (hx : x ≤ 2037) : num x y z ≤ 24836 := by
  have ⟨a, b, c, d, e, f⟩ := vld_t h
  have h3 := Cal.cum_succ x y c d
  have h4 := Cal.cum_mono (y := x) (a := y + 1) (b := 13) (by omega) (by omega) (by omega)
  have h5 := Cal.cum_13 x
  have h6 := Cal.dby_succ x a
  have h7 := Cal.dby_mono (a := x + 1) (b := 2038) (by omega) (by omega)
  have h8 : Cal.dby 2038 = 743999 := by unfold Cal.dby; omega
  unfold num
  omega
theorem nb_up {y m : Int} (h2 : y ≤ 2037) (t : ByteArray) : nbV y m t ≤ 24836 := by
  unfold nbV
  split
  · rename_i h
    unfold nbB at h
    simp only [Bool.and_eq_true] at h
    exact num_up h.2.2 h2
  · omega
theorem mo_up {y m : Int} {s : ByteArray} (hy : ymB y m = true) (h2 : y ≤ 2037) : moV y m s ≤ 24843 := by
  have nl := num_up (vld_last hy) h2
  have nb := nb_up (m := m) h2 (s.extract 5 s.size)
  have nb2 := nb_up (m := m) h2 s
  have w1 := wdN_bd (s.extract 4 7)
  have w2 := wdN_bd (s.extract 0 3)
  unfold moV
  split
  · unfold uptoV
    split <;> omega
  · split
    · unfold fromV
      split <;> omega
    · split
      · unfold uptoV
        split <;> omega
      · omega
theorem wallsN_up {i : Nat} {x : RuleD} {y : Int} (hx : RuleR x) {m : WallD} : ∀ {n : Nat}, 1960 ≤ y → y + n ≤ 2038 → m ∈ wallsN i x y n → m.wall ≤ 2200000000 := by
  intro n
  induction n with
  | zero => intro _ _ h; simp [wallsN] at h
  | succ n ih =>
    intro h1 h2 h
    rw [wallsN, List.mem_append] at h
    rcases h with h | h
    · exact ih h1 (by omega) h
    · have hb := mo_up (s := x.on) (ym_ok (y := y + n) (m := x.month) (by omega) (by omega) hx.month.1 hx.month.2) (by omega)
      have ha := hx.at_
      unfold wallsY at h
      split at h
      · simp at h
      · simp at h
        subst h
        show 86400 * moV (y + n) x.month x.on + x.at_ ≤ 2200000000
        omega
theorem wallsT_up {nm : ByteArray} {l : List RuleD} (hl : ∀ x ∈ l, RuleR x) {m : WallD} : ∀ {k : Nat}, m ∈ wallsT nm l k → m.wall ≤ 2200000000 := by
  intro k
  induction k with
  | zero => intro h; simp [wallsT] at h
  | succ k ih =>
    intro h
    rw [wallsT, List.mem_append] at h
    rcases h with h | h
    · exact ih h
    · split at h
      · rename_i x hx
        split at h
        · unfold wallsX at h
          by_cases hy : yrs x = 0
          · rw [hy] at h; simp [wallsN] at h
          · exact wallsN_up (hl x (List.mem_of_getElem? hx)) (by omega) (by unfold yrs at *; omega) h
        · simp at h
      · simp at h
/-- what a list of what happens is made of. -/
theorem foldH_mem {l : List RuleD} {off : Int} (hl : ∀ x ∈ l, RuleR x) : ∀ (P : List WallD) (st : List HapD × Int), -7200 ≤ st.2 ∧ st.2 ≤ 7200 → ∀ h ∈ (P.foldl (stepH l off) st).1, h ∈ st.1 ∨ ∃ m ∈ P, ∃ x sv, x ∈ l ∧ -7200 ≤ sv ∧ sv ≤ 7200 ∧ h = hapOf x m.wall off sv := by
  intro P
  induction P with
  | nil => intro st _ h hh; exact .inl hh
  | cons m P ih =>
    intro st hs h hh
    rw [List.foldl_cons] at hh
    cases hx : l[m.place]? with
    | none =>
      have e : stepH l off st m = st := by unfold stepH; rw [hx]
      rw [e] at hh
      rcases ih st hs h hh with h1 | ⟨q, hq, h2⟩
      · exact .inl h1
      · exact .inr ⟨q, List.mem_cons_of_mem _ hq, h2⟩
    | some x =>
      have e : stepH l off st m = (st.1 ++ [hapOf x m.wall off st.2], x.save) := by unfold stepH; rw [hx]
      rw [e] at hh
      have hxl := List.mem_of_getElem? hx
      rcases ih _ (hl x hxl).save h hh with h1 | ⟨q, hq, h2⟩
      · rcases List.mem_append.mp h1 with h1 | h1
        · exact .inl h1
        · simp at h1
          exact .inr ⟨m, by simp, x, st.2, hxl, hs.1, hs.2, h1⟩
      · exact .inr ⟨q, List.mem_cons_of_mem _ hq, h2⟩
/-- sorted by wall times. -/
def srtF (l : List WallD) : List WallD := l.foldr (fun x s => mergeW [x] s) []
theorem srtF_srt : ∀ l : List WallD, SrtOf l (srtF l)
  | [] => srt_short (by simp)
  | x :: l => srt_merge (l1 := [x]) (srt_short (by simp)) (srtF_srt l)
/-- what happens, and whether there is room for it. -/
def hapsT (r : RelD) (nm : ByteArray) (off : Int) : List HapD × Bool := if (wallsT nm r.rules r.rules.length).length ≤ 2000 then ((foldH r.rules off (srtF (wallsT nm r.rules r.rules.length))).1, true) else ([], false)
theorem hapsT_r (r : RelD) (nm : ByteArray) (off : Int) : HapsR r nm off (hapsT r nm off).1 (hapsT r nm off).2 := by
  unfold hapsT
  split
  · rename_i h
    exact ⟨_, .inl ⟨h, rfl, srtF_srt _⟩, rfl⟩
  · rename_i h
    exact ⟨[], .inr ⟨h, rfl, rfl⟩, rfl⟩
theorem hapsA_is {r : RelD} {nm : ByteArray} {off : Int} {H : List HapD} {b : Bool} (h : HapsA (ofName r.rules nm) off H b) : H = (hapsT r nm off).1 ∧ b = (hapsT r nm off).2 := haps_same h (hapsT_r r nm off)
theorem hapsR_is {r : RelD} {nm : ByteArray} {off : Int} {H : List HapD} {b : Bool} (h : HapsR r nm off H b) : H = (hapsT r nm off).1 ∧ b = (hapsT r nm off).2 := by
  obtain ⟨s, hs, rfl⟩ := h
  unfold hapsT
  rcases hs with ⟨g, rfl, hS⟩ | ⟨g, rfl, rfl⟩
  · rw [if_pos g]
    have hF := srtF_srt (wallsT nm r.rules r.rules.length)
    rw [srt_one hS.up hF.up fun t => by rw [hS.at_, hF.at_]]
    exact ⟨rfl, rfl⟩
  · rw [if_neg g]
    exact ⟨rfl, rfl⟩
/-- no great numbers, no long letters. -/
structure HapB (h : HapD) : Prop where
  at_ : h.at_ ≤ 253402300799
  save : -7200 ≤ h.save ∧ h.save ≤ 7200
  letter : h.letter.size ≤ 6
theorem hapsT_b {r : RelD} {nm : ByteArray} {off : Int} (hr : ∀ x ∈ r.rules, ruleB x = true) (h1 : -86400 ≤ off) (h2 : off ≤ 86400) : ∀ h ∈ (hapsT r nm off).1, HapB h := by
  have hR : ∀ x ∈ r.rules, RuleR x := fun x hx => rule_r (hr x hx)
  intro h hh
  unfold hapsT at hh
  split at hh
  · rcases foldH_mem hR _ _ (by simp) h hh with h0 | ⟨m, hm, x, sv, hx, s1, s2, rfl⟩
    · simp at h0
    · have hw := wallsT_up hR (srt_mem (srtF_srt _) hm)
      have hL : x.letter.size ≤ 6 := by
        have := hr x hx
        unfold ruleB ltB at this
        simp only [Bool.and_eq_true, decide_eq_true_eq] at this
        exact this.2.2.2.2.2.2.2.2.1
      refine ⟨?_, (hR x hx).save, hL⟩
      cases hs : (x.of.toList == [115])
      · cases hv : (x.of.toList == [119])
        · rw [hap_u hs hv]; show m.wall ≤ 253402300799; omega
        · rw [hap_w hs hv]; show m.wall - off - sv ≤ 253402300799; omega
      · rw [hap_s hs]; show m.wall - off ≤ 253402300799; omega
  · simp at hh
theorem hapsT_len {r : RelD} {nm : ByteArray} {off : Int} : (hapsT r nm off).1.length ≤ 2000 := by
  unfold hapsT
  split
  · rename_i h
    have hF := srtF_srt (wallsT nm r.rules r.rules.length)
    have : ∀ (P : List WallD) (st : List HapD × Int), (P.foldl (stepH r.rules off) st).1.length ≤ st.1.length + P.length := by
      intro P
      induction P with
      | nil => intro st; simp
      | cons m P ih =>
        intro st
        rw [List.foldl_cons]
        have h1 := ih (stepH r.rules off st m)
        have h2 : (stepH r.rules off st m).1.length ≤ st.1.length + 1 := by
          unfold stepH
          split
          · simp
          · omega
        simp only [List.length_cons]
        omega
    have h3 := this (srtF (wallsT nm r.rules r.rules.length)) ([], 0)
    rw [hF.len] at h3
    simp at h3
    unfold foldH
    exact Nat.le_trans h3 h
  · simp
end Go.Proofs.YtbbhpfobcelbfaaGreatDoor
