/- Packed. -/
import Derived.Test.YtgiieknbckhofaaGreatDoorTbPs
import Derived.Test.YtgiieknbckhofaaGreatDoorHpRs
import Derived.Test.YtgiieknbckhofaaGreatDoorMapPs
set_option maxRecDepth 100000
set_option maxHeartbeats 20000000
set_option linter.unusedSimpArgs false
namespace Go.Proofs.YtgiieknbckhofaaGreatDoor
section
open Go.RowKit Go.Sort
def Zf (w : World) (base : Nat) (v : Value) (T : List TurnD) : Prop := w.ownsRow base 220 4 v T.length (T.map TurnD.cs).flatten
theorem Zf.add {w : World} {base : Nat} {v : Value} {T : List TurnD} {x : TurnD} (h : w.ownsRow base 220 4 v (T.length + 1) ((T.map TurnD.cs).flatten ++ x.cs)) : Zf w base v (T ++ [x]) := by
 unfold Zf
 rw [lla, lma, List.flatten_append]
 simpa using h
theorem js5 {P : List TurnD} : ∀ r ∈ P.map TurnD.cs, r.length = 4 := fun r hr => by
 obtain ⟨x, _, rfl⟩ := List.mem_map.mp hr
 rfl
theorem Zf.seq {w : World} {base : Nat} {v : Value} {T : List TurnD} (h : Zf w base v T) : ∃ a cap, v = .slice a T.length cap /\ Za w a 4 (T.map TurnD.cs) := by
 obtain ⟨a, cap, h1, h2, h3⟩ := jbd (rows := T.map TurnD.cs) (by rw [llm]; exact h) js5
 rw [llm] at h1
 exact ⟨a, cap, h1, h2⟩
theorem jol : (Tryz.prog.info? 220).map (fun i => (i.zero, i.size, i.bytes)) = some (some (.agg #[iv 0, iv 0, iv 0, .string ⟨#[]⟩]), 4, 40) := by kernel_rfl
theorem jrb : ∃ a b c d e f g h i j k l, (Tryz.prog.fieldsOf 220).toList = [⟨ "At", 2, 0, false, a, b, c⟩, ⟨ "Offset", 2, 1, false, d, e, f⟩, ⟨ "Save", 2, 2, false, g, h, i⟩, ⟨ "Abbr", 9, 3, false, j, k, l⟩] := ⟨_, _, _, _, _, _, _, _, _, _, _, _, rfl⟩
theorem jss (t o1 s1 o2 s2 : Int) (a1 a2 : ByteArray) (w : World) : (binOp .eql 220 (.agg #[iv t, iv o1, iv s1, .string a1]) (.agg #[iv t, iv o2, iv s2, .string a2])).run Tryz.prog w = .ok (.bool (jd7 ⟨t, o1, s1, a1⟩ ⟨t, o2, s2, a2⟩)) w := by
 have ht : Tryz.prog.underlying 220 = some (.struct (Tryz.prog.fieldsOf 220)) := by kernel_rfl
 have hp : Tryz.prog.stoodInHeld 220 = false := by kernel_rfl
 obtain ⟨a, b, c, d, e, f, g, h, i, j, k, l, hf⟩ := jrb
 rw [run_eql_struct, run_equalIn_agg _ 9999 _ _ _ ht hp, hf]
 simp [Op.eqFields, go_sem, jd7]
 by_cases h1 : o1 = o2
 ·by_cases h2 : s1 = s2
  ·simp [h1, h2]
   by_cases h3 : a1.toList = a2.toList
   ·simp [h3]
   ·simp [h3]
  ·simp [h1, h2]
 ·simp [h1]
theorem jk9 (x y : Operand) (v1 v2 : Array Value) (w : World) : (eqGuard .eql 220 x y (.agg v1) (.agg v2)).run Tryz.prog w = .ok () w := run_eqGuard_agg w _ _ _ _ _ _ (by kernel_rfl)
theorem jfu (T : List TurnD) (x : TurnD) (v : Value) (base : Nat) (w : World) (hT : Zf w base v T) (hb : base <= w.heap.size) (hl : T.length <= 100000) :
  Cl 280 #[v, x.v] w fun e W' => ∃ v', e = .returned v' /\ Zf W' base v' (addT T x) /\ Fr (fun b => v.ownBlock = some b) w W' /\ (v'.ownBlock = v.ownBlock \/ ∃ g, v'.ownBlock = some g /\ w.heap.size <= g) := by
 obtain ⟨i0, hi, aG, aI, aF⟩ := info_parts jol
 obtain ⟨a, cap, rfl, hS⟩ := hT.seq
 have ag := qal w (.cells #[iv x.at_, iv x.offset, iv x.save, .string x.abbr] 220)
 cases hL : T.getLast? with
 | none =>
  have fP : T = [] := by simpa using hL
  subst fP
  have HR : Hid (addT [] x = [] ++ [x]) := rfl
  have dk : Zf (w.alloc (.cells #[iv x.at_, iv x.offset, iv x.save, .string x.abbr] 220)) base (.slice a 0 cap) [] := woa hT _
  generalize addT [] x = R at *
  unfold TurnD.v
  go_enter Tryz.func280, Tryz.ntmps280
  go_wp2_with (first
   | (at_builtin; refine wpList_append_lies _ rfl _ _ 181 rfl base 220 i0 (.agg #[iv 0, iv 0, iv 0, .string ⟨#[]⟩]) 4 40 Tryz.underlying181 hi aG aI aF rfl (by decide) _ _ _ rfl (woa dk _) ⟨w.heap.size + 1, 0, none⟩ 1 1 [iv x.at_, iv x.offset, iv x.save, .string x.abbr] rfl rfl ?c1 ?c2 (by decide) ?c3 ?c4 ?c5 _ rfl ?_)
   | fail)
  case c1 => simpa using jaf (w.alloc (.cells #[iv x.at_, iv x.offset, iv x.save, .string x.abbr] 220)) [iv x.at_, iv x.offset, iv x.save, .string x.abbr] 220
  case c2 => intro u hu; simp at hu; rcases hu with rfl | rfl | rfl | rfl <;> rfl
  case c3 => unfold maxLen; simp
  case c4 => simp
  case c5 => simp; omega
  intro g1 aD w1 aw af bI hlt1
  have HO : Hid (Zf w1 base (.slice (some (ad g1 0)) (0 + 1) aD) ([] ++ [x])) := Zf.add (T := []) aw
  have hF : Fr (fun b => (Value.slice a 0 cap).ownBlock = some b) w w1 := ((Fr.of_below ag).trans (Fr.of_below (qal _ _))).trans (Fr.of_grown af)
  have dp : (Value.slice (some (ad g1 0)) (0 + 1) aD).ownBlock = (Value.slice a 0 cap).ownBlock \/ ∃ g, (Value.slice (some (ad g1 0)) (0 + 1) aD).ownBlock = some g /\ w.heap.size <= g := bI.imp (fun h => h.symm) fun h => ⟨g1, rfl, by rw [h]; first | omega | (simp; omega)⟩
  clear aw af bI hlt1 hT dk hS
  go_wp2
  go_ret
  exact ⟨_, rfl, by rw [HR.out]; exact HO.out, hF, dp⟩
 | some y =>
  obtain ⟨n, hn⟩ : ∃ n, T.length = n + 1 := by
   cases T with
   | nil => simp at hL
   | cons z Z => exact ⟨Z.length, rfl⟩
  have hy : T[n]? = some y := by rw [List.getLast?_eq_getElem?, hn] at hL; exact hL
  obtain ⟨b, o, ha, hc⟩ := hS.at (i := n) (r := y.cs) (by rw [lgm, hy]; rfl)
  subst ha
  have c0 : (w.alloc (.cells #[iv x.at_, iv x.offset, iv x.save, .string x.abbr] 220)).cell? (ad b (o + n * 4)) = some (iv y.at_) := jaa ag (hc 0 _ rfl)
  have c1 := jaa ag (hc 1 _ rfl)
  have c2 := jaa ag (hc 2 _ rfl)
  have c3 := jaa ag (hc 3 _ rfl)
  have gG := fun w => jss x.at_ y.offset y.save x.offset x.save y.abbr x.abbr w
  have CX := jk9
  have e1 : jd7 ⟨x.at_, y.offset, y.save, y.abbr⟩ ⟨x.at_, x.offset, x.save, x.abbr⟩ = jd7 y x := rfl
  rw [e1] at gG
  have aj : Bw w (((w.alloc (.cells #[iv x.at_, iv x.offset, iv x.save, .string x.abbr] 220)).alloc (.cells #[iv y.at_, iv y.offset, iv y.save, .string y.abbr] 220)).setCell (ad (w.heap.size + 1) 0) (iv x.at_)) := (ag.alloc (by simp) _).setCell (show w.heap.size <= w.heap.size + 1 by omega) _
  have jN : (n : Int) < ((n + 1 : Nat) : Int) := by omega
  clear hc
  rw [hn] at hT ⊢
  cases hl : jd7 y x
  ·have HR : Hid (addT T x = T ++ [x]) := jm0 hL hl
   rw [hl] at gG
   have HT : Hid (w.ownsRow base 220 4 (.slice (some (ad b o)) (n + 1) cap) (n + 1) (T.map TurnD.cs).flatten) := by unfold Zf at hT; rw [hn] at hT; exact hT
   have HN := hid hn
   clear hl hL e1 hS hy hT
   generalize addT T x = R at *
   unfold TurnD.v
   go_enter Tryz.func280, Tryz.ntmps280
   go_wp2_with (first
    | (at_builtin; refine wpList_append_lies _ rfl _ _ 181 rfl base 220 i0 (.agg #[iv 0, iv 0, iv 0, .string ⟨#[]⟩]) 4 40 Tryz.underlying181 hi aG aI aF rfl (by decide) (.slice (some ⟨b, o, none⟩) (n + 1) cap) (n + 1) (T.map TurnD.cs).flatten rfl ?d0 ⟨w.heap.size + 1 + 1, 0, none⟩ 1 1 [iv x.at_, iv x.offset, iv x.save, .string x.abbr] rfl rfl ?d1 ?d2 (by decide) ?d3 ?d4 ?d5 _ rfl ?_)
    | fail)
   case d0 => exact woa (woa (woa HT.out _) _) _
   case d1 => simpa using jaf ((w.alloc (.cells #[iv x.at_, iv x.offset, iv x.save, .string x.abbr] 220)).alloc (.cells #[iv x.at_, iv y.offset, iv y.save, .string y.abbr] 220)) [iv x.at_, iv x.offset, iv x.save, .string x.abbr] 220
   case d2 => intro u hu; simp at hu; rcases hu with rfl | rfl | rfl | rfl <;> rfl
   case d3 => unfold maxLen; omega
   case d4 => omega
   case d5 => simp; omega
   intro g1 aD w1 aw af bI hlt1
   have HO : Hid (Zf w1 base (.slice (some (ad g1 0)) (n + 1 + 1) aD) (T ++ [x])) := Zf.add (by rw [HN.out]; exact aw)
   have hF : Fr (fun uz => (Value.slice (some (ad b o)) (n + 1) cap).ownBlock = some uz) w w1 := (((Fr.of_below ag).trans (Fr.of_below (qal _ _))).trans (Fr.of_below (qal _ _))).trans (Fr.of_grown af)
   have dp : (Value.slice (some (ad g1 0)) (n + 1 + 1) aD).ownBlock = (Value.slice (some (ad b o)) (n + 1) cap).ownBlock \/ ∃ g, (Value.slice (some (ad g1 0)) (n + 1 + 1) aD).ownBlock = some g /\ w.heap.size <= g := bI.imp (fun h => h.symm) fun h => ⟨g1, rfl, by rw [h]; first | omega | (simp; omega)⟩
   clear aw af bI hlt1
   go_wp2
   go_ret
   exact ⟨_, rfl, by rw [HR.out]; exact HO.out, hF, dp⟩
  ·have HR : Hid (addT T x = T) := jeg hL hl
   rw [hl] at gG
   have HT : Hid (Zf ((w.alloc (.cells #[iv x.at_, iv x.offset, iv x.save, .string x.abbr] 220)).alloc (.cells #[iv x.at_, iv y.offset, iv y.save, .string y.abbr] 220)) base (.slice (some (ad b o)) (n + 1) cap) T) := woa (woa hT _) _
   have hF : Fr (fun uz => (Value.slice (some (ad b o)) (n + 1) cap).ownBlock = some uz) w ((w.alloc (.cells #[iv x.at_, iv x.offset, iv x.save, .string x.abbr] 220)).alloc (.cells #[iv x.at_, iv y.offset, iv y.save, .string y.abbr] 220)) := (Fr.of_below ag).trans (Fr.of_below (qal _ _))
   clear hl hL e1 hS hy hT
   generalize addT T x = R at *
   unfold TurnD.v
   go_enter Tryz.func280, Tryz.ntmps280
   go_wp2
   go_ret
   exact ⟨_, rfl, by rw [HR.out]; exact HT.out, hF, .inl rfl⟩
end
section
open Go.RowKit
theorem j00 {A : List Int} (h : A.Pairwise (· < ·)) {i k : Nat} (pC : i < k) {x y : Int} (hx : A[i]? = some x) (hy : A[k]? = some y) : x < y := by
 obtain ⟨h1, rfl⟩ := lgs hx
 obtain ⟨h2, rfl⟩ := lgs hy
 exact List.pairwise_iff_getElem.mp h i k h1 h2 pC
theorem jzw : ∀ {L : List Int} {n : Int}, (∀ x ∈ L, x < n) -> insA L n = L ++ [n] := by
 intro L
 induction L with
 | nil => intro n _; rfl
 | cons x L ih =>
  intro n h
  unfold insA
  rw [if_pos (h x (by simp)), ih fun y hy => h y (lmc _ hy)]
  rfl
theorem jwo : ∀ {L : List Int} {n : Int} {k : Nat}, (∀ i x, i < k -> L[i]? = some x -> x < n) -> L[k]? = some n -> insA L n = L := by
 intro L
 induction L with
 | nil => intro n k _ h; simp at h
 | cons x L ih =>
  intro n k h hk
  cases k with
  | zero =>
   simp at hk
   subst hk
   unfold insA
   rw [if_neg (by omega), if_pos rfl]
  | succ k =>
   unfold insA
   rw [if_pos (h 0 x (by omega) rfl), ih (k := k) (fun i y hi hy => h (i + 1) y (by omega) (by simpa using hy)) (by simpa using hk)]
theorem jzu : ∀ {L : List Int} {n : Int} {k : Nat} {y : Int}, (∀ i x, i < k -> L[i]? = some x -> x < n) -> L[k]? = some y -> n < y -> insA L n = (L.take k ++ [n]) ++ L.drop k := by
 intro L
 induction L with
 | nil => intro n k y _ h; simp at h
 | cons x L ih =>
  intro n k y h hk hy
  cases k with
  | zero =>
   simp at hk
   subst hk
   unfold insA
   rw [if_neg (by omega), if_neg (by omega)]
   rfl
  | succ k =>
   unfold insA
   rw [if_pos (h 0 x (by omega) rfl), ih (k := k) (y := y) (fun i z hi hz => h (i + 1) z (by omega) (by simpa using hz)) (by simpa using hk) hy]
   rfl
theorem jmh : (Tryz.prog.info? 2).map (fun i => (i.zero, i.size, i.bytes)) = some (some (iv 0), 1, 8) := by kernel_rfl
def Zs (w : World) (base : Nat) (v : Value) (L : List Int) : Prop := w.ownsRow base 2 1 v L.length (L.map (Value.int .i64))
theorem Zs.add {w : World} {base : Nat} {v : Value} {L M : List Int} (h : w.ownsRow base 2 1 v (L.length + M.length) (L.map (Value.int .i64) ++ M.map (Value.int .i64))) : Zs w base v (L ++ M) := by
 unfold Zs
 rw [lla, lma]
 exact h
theorem Zs.open {w : World} {base : Nat} {v : Value} {L : List Int} (h : Zs w base v L) (hn : 0 < L.length) : ∃ g cap, v = .slice (some (ad g 0)) L.length cap /\ L.length <= cap /\ g < w.heap.size /\ base <= g /\ ∀ (i : Nat) x, L[i]? = some x -> w.cell? (ad g i) = some (iv x) := by
 rcases h.2 with ⟨_, h0⟩ | ⟨g, cap, cur, hv, hb, hg, hc, _, _, _⟩
 ·omega
 ·refine ⟨g, cap, hv, hc, (Array.getElem?_eq_some_iff.1 hg).1, hb, fun i x hx => ?_⟩
  have h2 : w.ownsRow base 2 1 (.slice (some (ad g 0)) L.length cap) L.length (L.map (Value.int .i64)) := hv ▸ h
  rw [h2.cellAt i (by have := (lgs hx).1; omega), lgm, hx]; rfl
theorem jlw (L : List Int) (v : Value) (n : Int) (base : Nat) (w : World) (ai : Zs w base v L) (CM : base <= w.heap.size) (h0 : 0 < L.length) (h1 : L.length <= 100000) (jP : L.Pairwise (· < ·)) :
  Cl 194 #[v, iv n] w fun e W' => ∃ v', e = .returned v' /\ Zs W' base v' (insA L n) /\ Below base w W' := by
 obtain ⟨i0, hi, aG, aI, aF⟩ := info_parts jmh
 obtain ⟨g, cap, rfl, eX, hg, pu, aE⟩ := ai.open h0
 obtain ⟨q, hq⟩ : ∃ q, L.length = q + 1 := ⟨L.length - 1, by omega⟩
 obtain ⟨z, hz⟩ : ∃ z, L[q]? = some z := ⟨_, lgg (by omega)⟩
 have cz := aE q z hz
 have HC := hid aE
 have HQ := hid hq
 have cJ : ∀ x ∈ L, x <= z := fun x hx => by
  obtain ⟨i, hi⟩ := lgo hx
  have iB := (lgs hi).1
  by_cases e : i = q
  ·subst e; rw [hz] at hi; obtain rfl := osi hi; exact Int.le_refl _
  ·have := j00 jP (show i < q by omega) hi hz; omega
 have aw := ai
 rw [hq] at aw eX h1 ⊢
 clear aE hq
 have bq : IntKind.i64.wrap ((q : Int) + 1 - 1) = q := by rw [show (q : Int) + 1 - 1 = q by omega]; exact wrap_small _ (by omega) (by omega)
 by_cases zr : z < n
 ·have HE : Hid (insA L n = L ++ [n]) := jzw fun x hx => by have := cJ x hx; omega
  clear cJ HC jP hz
  go_enter Tryz.func194, Tryz.ntmps194
  go_wp2_with (first
   | (at_builtin; refine wpList_append_own _ rfl _ _ 217 rfl base 2 i0 (iv 0) 1 8 Tryz.underlying217 hi aG aI aF rfl (by decide) _ _ _ rfl (woa aw _) ⟨w.heap.size, 0, none⟩ 1 1 [iv n] rfl rfl ?c1 ?c2 ?c3 ?c4 ?c5 ?_)
   | fail)
  case c1 => exact cell_one_new _ _ _
  case c2 => intro u hu; simp at hu; subst hu; rfl
  case c3 => have := HQ.out; unfold maxLen; omega
  case c4 => have := HQ.out; omega
  case c5 => simp; omega
  intro v' w1 ap af _
  have aj : Below base w w1 := ((brf base w).alloc CM _).grown af (by simp; omega) (fun j hj => (aw.lt j hj).1)
  have HO : Hid (Zs w1 base v' (insA L n)) := by simp only [Hid]; rw [HE.out]; exact Zs.add (M := [n]) ap
  clear af ap ai aw
  go_wp2
  go_ret
  exact ⟨_, rfl, HO.out, aj⟩
 ·have Dg : n <= z := by omega
  go_enter Tryz.func194, Tryz.ntmps194
  go_wp2
  go_loopw [5] (fun s wr => ∃ k : Nat, k <= q /\ s = iv k /\ Hid (∀ i x, i < k -> L[i]? = some x -> x < n) /\ wr = w) (fun s _ => q + 1 - (intOf s).toNat)
  case atStart => exact ⟨0, by omega, rfl, fun i x hi => by omega, rfl⟩
  case round =>
   obtain ⟨k, hk, rfl, HS, hw⟩ := hrel
   have hw := hw.symm
   subst hw
   obtain ⟨y, hy⟩ : ∃ y, L[k]? = some y := ⟨_, lgg (by rw [HQ.out]; omega)⟩
   have cy := HC.out k y hy
   by_cases tI : y < n
   ·have Ps : k < q := by
     by_cases e : k = q
     ·subst e; rw [hz] at hy; obtain rfl := osi hy; omega
     ·omega
    have HR : Hid (∀ i x, i < k + 1 -> L[i]? = some x -> x < n) := fun i x hi hx => by
     by_cases e : i = k
     ·subst e; rw [hy] at hx; obtain rfl := osi hx; exact tI
     ·exact HS.out i x (by omega) hx
    clear HS hy hz HC
    go_wp2
    go_roundw
    case rel => exact ⟨k + 1, by omega, by go_num, HR, trivial⟩
    case measure => simp [intOf]; omega
   ·by_cases e : y = n
    ·subst e
     have HE : Hid (insA L y = L) := jwo HS.out hy
     clear HS hy hz HC
     go_wp2
     go_ret
     exact ⟨_, rfl, by rw [HE.out]; exact aw, brf _ _⟩
    ·have HE : Hid (insA L n = (L.take k ++ [n]) ++ L.drop k) := jzu HS.out hy (by omega)
     have ey : (y == n) = false := by simpa using e
     have lk : (L.take k).length = k := by rw [List.length_take, HQ.out]; omega
     have ld : (L.drop k).length = q + 1 - k := by rw [List.length_drop, HQ.out]
     have n1 : ∀ j u, ((L.take k).map (Value.int .i64))[j]? = some u -> (w.alloc (.cells #[] 2)).cell? (((ad g 0) : Addr).add j) = some u := fun j u hj => by
      rw [lgm] at hj
      obtain ⟨x, hx, rfl⟩ := Option.map_eq_some_iff.mp hj
      have D2 : j < k := by have := (lgs hx).1; omega
      rw [List.getElem?_take_of_lt D2] at hx
      rw [addP, Nat.zero_add]
      exact jaa (qal w _) (HC.out j x hx)
     have HD : Hid (∀ w2, Bw w w2 -> ∀ j u, ((L.drop k).map (Value.int .i64))[j]? = some u -> w2.cell? (((ad g k) : Addr).add j) = some u) := fun w2 hb j u hj => by
      rw [lgm] at hj
      obtain ⟨x, hx, rfl⟩ := Option.map_eq_some_iff.mp hj
      rw [List.getElem?_drop] at hx
      rw [addP]
      exact jaa hb (HC.out (k + j) x hx)
     have o1 : ∀ u ∈ (L.take k).map (Value.int .i64), u.oneCell' = true := fun u hu => by obtain ⟨x, _, rfl⟩ := List.mem_map.mp hu; rfl
     have o2 : ∀ u ∈ (L.drop k).map (Value.int .i64), u.oneCell' = true := fun u hu => by obtain ⟨x, _, rfl⟩ := List.mem_map.mp hu; rfl
     have hE := jau w 2 1
     have t1 : ((L.take k).map (Value.int .i64)).length = k * 1 := by rw [llm, lk]; omega
     have t2 : ((L.drop k).map (Value.int .i64)).length = (q + 1 - k) * 1 := by rw [llm, ld]; omega
     have jc : ¬ cap = k := by omega
     have bk : (0 : Int) <= (k : Int) := by omega
     have FD : (k : Int) <= (cap : Int) := by omega
     have JI : (k : Int) <= (q : Int) + 1 := by omega
     clear HS hy hz HC
     go_wp2_with (first
      | (at_builtin; refine wpList_append_own _ rfl _ _ 217 rfl w.heap.size 2 i0 (iv 0) 1 8 Tryz.underlying217 hi aG aI aF rfl (by decide) _ _ _ rfl hE ⟨g, 0, none⟩ k cap ((L.take k).map (Value.int .i64)) rfl t1 n1 o1 ?d3 ?d4 ?d5 ?_)
      | fail)
     case d3 => unfold maxLen; omega
     case d4 => omega
     intro v1 w1 av aS _
     have aj : Bw w w1 := (qal w _).grown aS (by simp) (fun j hj => (hE.lt j hj).1)
     obtain ⟨a1, m1, c1, rfl⟩ := jac av
     have cH := aj.size
     clear aS hE n1 o1
     go_wp2_with (first
      | (at_builtin; refine wpList_append_own _ rfl _ _ 217 rfl w.heap.size 2 i0 (iv 0) 1 8 Tryz.underlying217 hi aG aI aF rfl (by decide) _ _ _ rfl (woa av _) ⟨w1.heap.size, 0, none⟩ 1 1 [iv n] rfl rfl ?e1 ?e2 ?e3 ?e4 ?e5 ?_)
      | fail)
     case e1 => exact cell_one_new _ _ _
     case e2 => intro u hu; simp at hu; subst hu; rfl
     case e3 => unfold maxLen; omega
     case e4 => omega
     case e5 => simp; omega
     intro v2 w2 aJ aP _
     have an : Bw w w2 := (aj.alloc aj.size _).grown aP (by simp; omega) (fun j hj => (av.lt j hj).1)
     obtain ⟨a2, m2, c2, rfl⟩ := jac aJ
     have eG := an.size
     have n2 := HD.out w2 an
     clear aP av
     go_wp2_with (first
      | (at_builtin; refine wpList_append_own _ rfl _ _ 217 rfl w.heap.size 2 i0 (iv 0) 1 8 Tryz.underlying217 hi aG aI aF rfl (by decide) _ _ _ rfl aJ ⟨g, k, none⟩ (q + 1 - k) (cap - k) ((L.drop k).map (Value.int .i64)) rfl t2 n2 o2 ?f3 ?f4 ?f5 ?_)
      | fail)
     case f3 => unfold maxLen; omega
     case f4 => omega
     case f5 => omega
     intro v3 w3 gO aK _
     have ay : Bw w w3 := an.grown aK (by omega) (fun j hj => (aJ.lt j hj).1)
     have HO : Hid (Zs w3 base v3 (insA L n)) := by
      simp only [Hid]
      rw [HE.out]
      refine jak (Zs.add (base := w.heap.size) ?_) CM
      rw [lla, lk, ld, lma]
      simpa using gO
     clear aK gO aJ
     go_wp2
     go_ret
     exact ⟨_, rfl, HO.out, ay.mono CM⟩
end
section
open Go.RowKit Go.Sort
theorem jsh {H : List HapD} {b e : Int} {k : Nat} {x : HapD} (hx : H[k]? = some x) : inX (H.take (k + 1)) b e = inX (H.take k) b e ++ (if b < x.at_ /\ x.at_ < e then [x.at_] else []) := by
 unfold inX
 rw [List.take_add_one, hx, lma, List.filter_append]
 congr 1
 by_cases h : b < x.at_ /\ x.at_ < e
 ·rw [if_pos h]; simp [h.1, h.2]
 ·rw [if_neg h]; simp; intro h1; exact Int.not_lt.mp fun h2 => h ⟨h1, h2⟩
theorem jdq (H : List HapD) (b e : Int) : (inX H b e).length <= H.length := by
 unfold inX
 have := List.length_filter_le (fun t => decide (b < t) && decide (t < e)) (H.map HapD.at_)
 rw [llm] at this
 exact this
theorem jok (l : List Int) : (l.mergeSort fun x y => decide (x <= y)).Pairwise (· <= ·) := by
 have := List.pairwise_mergeSort (le := fun (x y : Int) => decide (x <= y)) (fun a b c h1 h2 => by
  have := odt h1
  have := odt h2
  exact dte (by omega)) (fun a b => by
  by_cases h : a <= b
  ·simp [h]
  ·simp [show b <= a by omega]) l
 exact this.imp fun h => odt h
theorem je1 (H : List HapD) (a : Option Addr) (ca : Nat) (b e : Int) (w : World) (hA : Za w a 3 (H.map HapD.cs)) (hl : H.length <= 2000) :
  Cl 279 #[.slice a H.length ca, iv b, iv e] w fun r W' => ∃ v L, r = .returned v /\ Zs W' w.heap.size v L /\ L.Pairwise (· <= ·) /\ L.Perm (b :: inX H b e) /\ Bw w W' := by
 obtain ⟨i0, hi, aG, aI, aF⟩ := info_parts jmh
 have ag := qal w (.cells #[iv b] 2)
 have kW : Zs (w.alloc (.cells #[iv b] 2)) w.heap.size (.slice (some (ad w.heap.size 0)) 1 1) (b :: inX (H.take 0) b e) := ⟨by simp [inX], .inr ⟨w.heap.size, 1, #[iv b], by simp [inX], nlr _, heap_alloc_new w _, by simp [inX], by unfold maxLen; omega, by simp, by simp [inX]⟩⟩
 go_enter Tryz.func279, Tryz.ntmps279
 go_wp2
 go_loopw [7, 14] (fun s7 lQ wr => ∃ (k : Nat) (p : Option Addr) (m c : Nat), k <= H.length /\ lQ = iv k /\ s7 = .slice p m c /\ Zs wr w.heap.size (.slice p m c) (b :: inX (H.take k) b e) /\ Bw w wr) (fun _ lQ _ => H.length - (intOf lQ).toNat)
 case atStart => exact ⟨0, _, _, _, by omega, rfl, rfl, kW, ag⟩
 case round =>
  clear kW ag
  obtain ⟨k, p, m, c, hk, rfl, rfl, hO, hB⟩ := hrel
  have dX := hB.size
  by_cases hlt : k < H.length
  ·obtain ⟨x, hx⟩ := qgg hlt
   obtain ⟨b9, o9, rfl, hc⟩ := (hA.below hB).at (i := k) (r := x.cs) (by rw [lgm, hx]; rfl)
   have c0 : wr.cell? (ad b9 (o9 + k * 3)) = some (iv x.at_) := hc 0 _ rfl
   have c1 := hc 1 _ rfl
   have c2 := hc 2 _ rfl
   have fi : (k : Int) < (H.length : Int) := by omega
   have HX := jsh (b := b) (e := e) hx
   have jC := jdq (H.take k) b e
   have tz : (H.take k).length <= 2000 := by rw [List.length_take]; omega
   have an := hB.alloc dX (.cells #[iv x.at_, iv x.save, .string x.letter] 254)
   have bC : Zs (wr.alloc (.cells #[iv x.at_, iv x.save, .string x.letter] 254)) w.heap.size (.slice p m c) (b :: inX (H.take k) b e) := woa hO _
   obtain ⟨X, mr⟩ := qeb (inX (H.take k) b e)
   rw [mr] at hO bC HX jC
   clear hc hx mr
   by_cases hin : b < x.at_ /\ x.at_ < e
   ·rw [if_pos hin] at HX
    have Ae := hid HX
    obtain ⟨g1, g2⟩ := hin
    clear HX
    go_wp2_with (first
     | (at_builtin; refine wpList_append_own _ rfl _ _ 217 rfl w.heap.size 2 i0 (iv 0) 1 8 Tryz.underlying217 hi aG aI aF rfl (by decide) _ _ _ rfl (woa bC _) ⟨wr.heap.size + 1, 0, none⟩ 1 1 [iv x.at_] rfl rfl ?c1 ?c2 ?c3 ?c4 ?c5 ?_)
     | fail)
    case c1 => simpa using cell_one_new (wr.alloc _) (iv x.at_) _
    case c2 => intro u hu; simp at hu; subst hu; rfl
    case c3 => unfold maxLen; simp; omega
    case c4 => simp; omega
    case c5 => simp; omega
    ·intro v' w1 ap af _
     have ay : Bw w w1 := (an.alloc (by simp; omega) _).grown af (by simp; omega) (fun j hj => (World.ownsRow.lt hO j hj).1)
     have HO : Hid (Zs w1 w.heap.size v' (b :: (X ++ [x.at_]))) := by simpa [Hid, Zs] using ap
     obtain ⟨p', m', c', rfl⟩ := jac ap
     clear af ap hO bC
     go_wp2
     go_roundw
     case rel => exact ⟨k + 1, p', m', c', by omega, by go_num, rfl, by rw [Ae.out]; exact HO.out, ay⟩
     case measure => simp [intOf]; omega
   ·rw [if_neg hin, List.append_nil] at HX
    have HO : Hid (Zs (wr.alloc (.cells #[iv x.at_, iv x.save, .string x.letter] 254)) w.heap.size (.slice p m c) (b :: inX (H.take (k + 1)) b e)) := by rw [HX]; exact bC
    clear HX hO bC
    by_cases g1 : b < x.at_
    ·have g2 : ¬ x.at_ < e := fun h => hin ⟨g1, h⟩
     clear hin
     go_wp2
     go_roundw
     case rel => exact ⟨k + 1, p, m, c, by omega, by go_num, rfl, HO.out, an⟩
     case measure => simp [intOf]; omega
    ·clear hin
     go_wp2
     go_roundw
     case rel => exact ⟨k + 1, p, m, c, by omega, by go_num, rfl, HO.out, an⟩
     case measure => simp [intOf]; omega
  ·have li : k = H.length := by omega
   subst li
   rw [List.take_length] at hO
   have jC := jdq H b e
   obtain ⟨Z, hZ⟩ := qeb (b :: inX H b e)
   have La : Z.length <= 2001 := by rw [<- hZ, List.length_cons]; omega
   have jD : 1 <= Z.length := by rw [<- hZ, List.length_cons]; omega
   have HZ := hid hZ
   rw [hZ] at hO
   clear hZ
   have nI : Value.slice p m c ≠ nS := fun h => by
    rcases hO.2 with ⟨_, h0⟩ | ⟨g, cap, cur, h0, _⟩
    ·omega
    ·rw [h] at h0; cases h0
   obtain ⟨g', fZ, he, yU, ny, wI, qZ, tJ, hH⟩ := Lib.holds_of_ownsRow hO nI
   injection he with ms he2 jd
   subst ms he2 jd
   have hS := Tryz.slices_Sort_int g' 0 c Z wr hH ny (by omega)
   obtain ⟨so, wP⟩ : ∃ so, (Z.mergeSort fun x y => decide (x <= y)) = so := ⟨_, rfl⟩
   have oB : Hid (so.Pairwise (· <= ·)) := wP ▸ jok Z
   have jX : Hid (so.Perm (b :: inX H b e)) := by rw [HZ.out]; exact wP ▸ List.mergeSort_perm Z _
   have jl : so.length = Z.length := by rw [<- wP]; exact List.length_mergeSort Z
   rw [wP] at hS
   have G4 : ∀ q os, Bw w (grow (putRow (Value.int .i64) (Sort.ahead wr q) g' 0 so.toArray) os) /\ Zs (grow (putRow (Value.int .i64) (Sort.ahead wr q) g' 0 so.toArray) os) w.heap.size (.slice (some (ad g' 0)) Z.length c) so := fun q os => by
    have hb1 := Lib.below_putRow (enc := Value.int .i64) (q := q) (d := so.toArray) hB yU
    have tr := Lib.ownsRow_putRow (q := q) (k := Z.length) hO jl (nlr _)
    have cV : Below (putRow (Value.int .i64) (Sort.ahead wr q) g' 0 so.toArray).heap.size (putRow (Value.int .i64) (Sort.ahead wr q) g' 0 so.toArray) (grow (putRow (Value.int .i64) (Sort.ahead wr q) g' 0 so.toArray) os) := ⟨rfl, rfl, rfl, by simp, fun k hk => Go.Sort.heap_grow_old _ _ hk⟩
    refine ⟨(qtr hb1 cV), ?_⟩
    have zj := jad tr cV
    unfold Zs
    rw [jl]
    rw [show so.take Z.length = so by rw [<- jl, List.take_length]] at zj
    exact zj
   have HG := hid G4
   clear G4 jl wP hH hO La nI tJ jC
   go_wp2_with fail
   refine hS.mono ?_
   rintro r w2 ⟨rfl, q, os, rfl⟩
   obtain ⟨ac, zj⟩ := HG.out q os
   generalize grow (putRow (Value.int .i64) (Sort.ahead wr q) g' 0 so.toArray) os = w3 at *
   go_wp2
   go_ret
   exact ⟨_, so, rfl, zj, oB.out, jX.out, ac⟩
end
section
open Go.RowKit
theorem j1a {x y z : Int} (h : vldB x y z = true) (hx : x <= 2037) : num x y z <= 24836 := by
 have ⟨a, b, c, d, e, f⟩ := jyf h
 have h3 := Cal.cum_succ x y c d
 have h4 := Cal.cum_mono (y := x) (a := y + 1) (b := 13) (by omega) (by omega) (by omega)
 have h5 := Cal.cum_13 x
 have h6 := Cal.dby_succ x a
 have h7 := Cal.dby_mono (a := x + 1) (b := 2038) (by omega) (by omega)
 have h8 : Cal.dby 2038 = 743999 := by unfold Cal.dby; omega
 unfold num
 omega
theorem j3j {y m : Int} (h2 : y <= 2037) (t : ByteArray) : nbV y m t <= 24836 := by
 unfold nbV
 split
 ·rename_i h
  unfold nbB at h
  simp only [bat] at h
  exact j1a h.2.2 h2
 ·omega
theorem mo_up {y m : Int} {s : ByteArray} (hy : ymB y m = true) (h2 : y <= 2037) : moV y m s <= 24843 := by
 have nl := j1a (jbq hy) h2
 have nb := j3j (m := m) h2 (s.extract 5 s.size)
 have zx := j3j (m := m) h2 s
 have w1 := jc8 (s.extract 4 7)
 have w2 := jc8 (s.extract 0 3)
 unfold moV
 split
 ·unfold jci
  split <;> omega
 ·split
  ·unfold jfe
   split <;> omega
  ·split
   ·unfold jci
    split <;> omega
   ·omega
theorem jut {i : Nat} {x : RuleD} {y : Int} (hx : Jp x) {m : WallD} : ∀ {n : Nat}, 1960 <= y -> y + n <= 2038 -> m ∈ wallsN i x y n -> m.wall <= 2200000000 := by
 intro n
 induction n with
 | zero => intro _ _ h; simp [wallsN] at h
 | succ n ih =>
  intro h1 h2 h
  rw [wallsN, List.mem_append] at h
  rcases h with h | h
  ·exact ih h1 (by omega) h
  ·have hb := mo_up (s := x.on) (jyc (y := y + n) (m := x.month) (by omega) (by omega) hx.month.1 hx.month.2) (by omega)
   have ha := hx.at_
   unfold jdz at h
   split at h
   ·simp at h
   ·simp at h
    subst h
    show 86400 * moV (y + n) x.month x.on + x.at_ <= 2200000000
    omega
theorem jus {nm : ByteArray} {l : List RuleD} (hl : ∀ x ∈ l, Jp x) {m : WallD} : ∀ {k : Nat}, m ∈ jap nm l k -> m.wall <= 2200000000 := by
 intro k
 induction k with
 | zero => intro h; simp [jap] at h
 | succ k ih =>
  intro h
  rw [jap, List.mem_append] at h
  rcases h with h | h
  ·exact ih h
  ·split at h
   ·rename_i x hx
    split at h
    ·unfold jch at h
     by_cases hy : yrs x = 0
     ·rw [hy] at h; simp [wallsN] at h
     ·exact jut (hl x (lmg hx)) (by omega) (by unfold yrs at *; omega) h
    ·simp at h
   ·simp at h
theorem jxb {l : List RuleD} {off : Int} (hl : ∀ x ∈ l, Jp x) : ∀ (P : List WallD) (st : List HapD × Int), -7200 <= st.2 /\ st.2 <= 7200 -> ∀ h ∈ (P.foldl (jdj l off) st).1, h ∈ st.1 \/ ∃ m ∈ P, ∃ x sv, x ∈ l /\ -7200 <= sv /\ sv <= 7200 /\ h = jec x m.wall off sv := by
 intro P
 induction P with
 | nil => intro st _ h hh; exact .inl hh
 | cons m P ih =>
  intro st hs h hh
  rw [List.foldl_cons] at hh
  cases hx : l[m.place]? with
  | none =>
   have e : jdj l off st m = st := by unfold jdj; rw [hx]
   rw [e] at hh
   rcases ih st hs h hh with h1 | ⟨q, hq, h2⟩
   ·exact .inl h1
   ·exact .inr ⟨q, lmc _ hq, h2⟩
  | some x =>
   have e : jdj l off st m = (st.1 ++ [jec x m.wall off st.2], x.save) := by unfold jdj; rw [hx]
   rw [e] at hh
   have dl := lmg hx
   rcases ih _ (hl x dl).save h hh with h1 | ⟨q, hq, h2⟩
   ·rcases List.mem_append.mp h1 with h1 | h1
    ·exact .inl h1
    ·simp at h1
     exact .inr ⟨m, by simp, x, st.2, dl, hs.1, hs.2, h1⟩
   ·exact .inr ⟨q, lmc _ hq, h2⟩
def srtF (l : List WallD) : List WallD := l.foldr (fun x s => ja0 [x] s) []
theorem jfk : ∀ l : List WallD, Jc l (srtF l)
 | [] => jfj (by simp)
 | x :: l => jne (l1 := [x]) (jfj (by simp)) (jfk l)
def ja2 (r : RelD) (nm : ByteArray) (off : Int) : List HapD × Bool := if (jap nm r.rules r.rules.length).length <= 2000 then ((jbv r.rules off (srtF (jap nm r.rules r.rules.length))).1, true) else ([], false)
theorem j2l (r : RelD) (nm : ByteArray) (off : Int) : jx2 r nm off (ja2 r nm off).1 (ja2 r nm off).2 := by
 unfold ja2
 split
 ·rename_i h
  exact ⟨_, .inl ⟨h, rfl, jfk _⟩, rfl⟩
 ·rename_i h
  exact ⟨[], .inr ⟨h, rfl, rfl⟩, rfl⟩
theorem jz8 {r : RelD} {nm : ByteArray} {off : Int} {H : List HapD} {b : Bool} (h : jx3 (jbt r.rules nm) off H b) : H = (ja2 r nm off).1 /\ b = (ja2 r nm off).2 := jw4 h (j2l r nm off)
theorem jz7 {r : RelD} {nm : ByteArray} {off : Int} {H : List HapD} {b : Bool} (h : jx2 r nm off H b) : H = (ja2 r nm off).1 /\ b = (ja2 r nm off).2 := by
 obtain ⟨s, hs, rfl⟩ := h
 unfold ja2
 rcases hs with ⟨g, rfl, hS⟩ | ⟨g, rfl, rfl⟩
 ·rw [if_pos g]
  have hF := jfk (jap nm r.rules r.rules.length)
  rw [jvi hS.up hF.up fun t => by rw [hS.at_, hF.at_]]
  exact ⟨rfl, rfl⟩
 ·rw [if_neg g]
  exact ⟨rfl, rfl⟩
structure HapB (h : HapD) : Prop where
 at_ : h.at_ <= 253402300799
 save : -7200 <= h.save /\ h.save <= 7200
 letter : h.letter.size <= 6
theorem jmo {r : RelD} {nm : ByteArray} {off : Int} (hr : ∀ x ∈ r.rules, jaw x = true) (h1 : -86400 <= off) (h2 : off <= 86400) : ∀ h ∈ (ja2 r nm off).1, HapB h := by
 have hR : ∀ x ∈ r.rules, Jp x := fun x hx => jrr (hr x hx)
 intro h hh
 unfold ja2 at hh
 split at hh
 ·rcases jxb hR _ _ (by simp) h hh with h0 | ⟨m, hm, x, sv, hx, s1, s2, rfl⟩
  ·simp at h0
  ·have hw := jus hR (jpx (jfk _) hm)
   have hL : x.letter.size <= 6 := by
    have := hr x hx
    unfold jaw ltB at this
    simp only [bat, decide_eq_true_eq] at this
    exact this.2.2.2.2.2.2.2.2.1
   refine ⟨?_, (hR x hx).save, hL⟩
   cases hs : (x.of.toList == [115])
   ·cases hv : (x.of.toList == [119])
    ·rw [j2n hs hv]; show m.wall <= 253402300799; omega
    ·rw [j2m hs hv]; show m.wall - off - sv <= 253402300799; omega
   ·rw [j2o hs]; show m.wall - off <= 253402300799; omega
 ·simp at hh
theorem jeb {r : RelD} {nm : ByteArray} {off : Int} : (ja2 r nm off).1.length <= 2000 := by
 unfold ja2
 split
 ·rename_i h
  have hF := jfk (jap nm r.rules r.rules.length)
  have : ∀ (P : List WallD) (st : List HapD × Int), (P.foldl (jdj r.rules off) st).1.length <= st.1.length + P.length := by
   intro P
   induction P with
   | nil => intro st; simp
   | cons m P ih =>
    intro st
    rw [List.foldl_cons]
    have h1 := ih (jdj r.rules off st m)
    have h2 : (jdj r.rules off st m).1.length <= st.1.length + 1 := by
     unfold jdj
     split
     ·simp
     ·omega
    simp only [List.length_cons]
    omega
  have h3 := this (srtF (jap nm r.rules r.rules.length)) ([], 0)
  rw [hF.len] at h3
  simp at h3
  unfold jbv
  exact Nat.le_trans h3 h
 ·simp
end
end Go.Proofs.YtgiieknbckhofaaGreatDoor
