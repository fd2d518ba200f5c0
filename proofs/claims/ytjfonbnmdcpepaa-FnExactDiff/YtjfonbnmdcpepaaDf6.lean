/- An instant put among rising ones, once: the model's. -/
import Derived.Test.YtjfonbnmdcpepaaDfMath2
import Derived.Test.YtjfonbnmdcpepaaInts2
import Derived.Test.YtjfonbnmdcpepaaTwo
namespace Go.Proofs.Ytjfonbnmdcpepaa
open Go.RowKit

theorem insI_end : ∀ {L : List Int} {n : Int}, (∀ x ∈ L, x < n) → insI L n = L ++ [n] := by
  intro L
  induction L with
  | nil => intro n _; rfl
  | cons x L ih =>
    intro n h
    unfold insI
    rw [if_pos (h x (by simp)), ih fun y hy => h y (List.mem_cons_of_mem _ hy)]
    rfl
theorem insI_here : ∀ {L : List Int} {n : Int} {k : Nat}, (∀ i x, i < k → L[i]? = some x → x < n) → L[k]? = some n → insI L n = L := by
  intro L
  induction L with
  | nil => intro n k _ h; simp at h
  | cons x L ih =>
    intro n k h hk
    cases k with
    | zero =>
      simp at hk
      subst hk
      unfold insI
      rw [if_neg (by omega), if_pos rfl]
    | succ k =>
      unfold insI
      rw [if_pos (h 0 x (by omega) rfl), ih (k := k) (fun i y hi hy => h (i + 1) y (by omega) (by simpa using hy)) (by simpa using hk)]
theorem insI_mid : ∀ {L : List Int} {n : Int} {k : Nat} {y : Int}, (∀ i x, i < k → L[i]? = some x → x < n) → L[k]? = some y → n < y → insI L n = (L.take k ++ [n]) ++ L.drop k := by
  intro L
  induction L with
  | nil => intro n k y _ h; simp at h
  | cons x L ih =>
    intro n k y h hk hy
    cases k with
    | zero =>
      simp at hk
      subst hk
      unfold insI
      rw [if_neg (by omega), if_neg (by omega)]
      rfl
    | succ k =>
      unfold insI
      rw [if_pos (h 0 x (by omega) rfl), ih (k := k) (y := y) (fun i z hi hz => h (i + 1) z (by omega) (by simpa using hz)) (by simpa using hk) hy]
      rfl
/-- a row of numbers of one's own. -/
def OwnsI (w : World) (base : Nat) (v : Value) (L : List Int) : Prop := w.ownsRow base 2 1 v L.length (L.map (Value.int .i64))
theorem OwnsI.add {w : World} {base : Nat} {v : Value} {L M : List Int} (h : w.ownsRow base 2 1 v (L.length + M.length) (L.map (Value.int .i64) ++ M.map (Value.int .i64))) : OwnsI w base v (L ++ M) := by
  unfold OwnsI
  rw [List.length_append, List.map_append]
  exact h
theorem OwnsI.open {w : World} {base : Nat} {v : Value} {L : List Int} (h : OwnsI w base v L) (hn : 0 < L.length) : ∃ g cap, v = .slice (some ⟨g, 0, none⟩) L.length cap ∧ L.length ≤ cap ∧ g < w.heap.size ∧ base ≤ g ∧ ∀ (i : Nat) x, L[i]? = some x → w.cell? ⟨g, i, none⟩ = some (.int .i64 x) := by
  rcases h.2 with ⟨_, h0⟩ | ⟨g, cap, cur, hv, hb, hg, hc, _, _, _⟩
  · omega
  · refine ⟨g, cap, hv, hc, (Array.getElem?_eq_some_iff.1 hg).1, hb, fun i x hx => ?_⟩
    have h2 : w.ownsRow base 2 1 (.slice (some ⟨g, 0, none⟩) L.length cap) L.length (L.map (Value.int .i64)) := hv ▸ h
    rw [h2.cellAt i (by have := (List.getElem?_eq_some_iff.mp hx).1; omega), List.getElem?_map, hx]; rfl
set_option maxRecDepth 20000 in
set_option maxHeartbeats 4000000 in
theorem spec_l03Ahead (L : List Int) (v : Value) (n : Int) (base : Nat) (w : World) (hown : OwnsI w base v L) (hbw : base ≤ w.heap.size) (h0 : 0 < L.length) (h1 : L.length ≤ 1200) (hup : L.Pairwise (· < ·)) :
    Calls Try.prog 81 #[v, .int .i64 n] w fun e W' => ∃ v', e = .returned v' ∧ OwnsI W' base v' (insI L n) ∧ Below base w W' := by
  obtain ⟨i0, hi, hz0, hz1, hz2⟩ := info_parts info64
  obtain ⟨g, cap, rfl, hcap, hg, hgb, hcell⟩ := hown.open h0
  obtain ⟨q, hq⟩ : ∃ q, L.length = q + 1 := ⟨L.length - 1, by omega⟩
  obtain ⟨z, hz⟩ : ∃ z, L[q]? = some z := ⟨_, List.getElem?_eq_getElem (by omega)⟩
  have cz := hcell q z hz
  have HC : Hid (∀ (i : Nat) x, L[i]? = some x → w.cell? ⟨g, i, none⟩ = some (.int .i64 x)) := hcell
  have HQ : Hid (L.length = q + 1) := hq
  have hle : ∀ x ∈ L, x ≤ z := fun x hx => by
    obtain ⟨i, hi⟩ := List.getElem?_of_mem hx
    have hil := (List.getElem?_eq_some_iff.mp hi).1
    by_cases e : i = q
    · subst e; rw [hz] at hi; obtain rfl := Option.some.inj hi; exact Int.le_refl _
    · have := up_lt hup (show i < q by omega) hi hz; omega
  have hown1 := hown
  rw [hq] at hown1 hcap h1 ⊢
  clear hcell hq
  have bq : IntKind.i64.wrap ((q : Int) + 1 - 1) = q := by rw [show (q : Int) + 1 - 1 = q by omega]; exact wrap_small _ (by omega) (by omega)
  by_cases hzn : z < n
  · have HE : Hid (insI L n = L ++ [n]) := insI_end fun x hx => by have := hle x hx; omega
    clear hle HC hup hz
    go_enter Try.func81, Try.ntmps81
    go_wp2_with (first
      | (at_builtin; refine wpList_append_own _ rfl _ _ 36 rfl base 2 i0 (.int .i64 0) 1 8 Try.underlying36 hi hz0 hz1 hz2 rfl (by decide) _ _ _ rfl (World.ownsRow.alloc hown1 _) ⟨w.heap.size, 0, none⟩ 1 1 [.int .i64 n] rfl rfl ?c1 ?c2 ?c3 ?c4 ?c5 ?_)
      | fail)
    case c1 => exact cell_one_new _ _ _
    case c2 => intro u hu; simp at hu; subst hu; rfl
    case c3 => have := HQ.out; unfold maxLen; omega
    case c4 => have := HQ.out; omega
    case c5 => simp; omega
    intro v' w1 hown' hgrow _
    have hB1 : Below base w w1 := ((Below.refl base w).alloc hbw _).grown hgrow (by simp; omega) (fun j hj => (hown1.lt j hj).1)
    have HO : Hid (OwnsI w1 base v' (insI L n)) := by simp only [Hid]; rw [HE.out]; exact OwnsI.add (M := [n]) hown'
    clear hgrow hown' hown hown1
    go_wp2
    go_ret
    exact ⟨_, rfl, HO.out, hB1⟩
  · have hnz : n ≤ z := by omega
    go_enter Try.func81, Try.ntmps81
    go_wp2
    go_loopw [5] (fun s wr => ∃ k : Nat, k ≤ q ∧ s = .int .i64 k ∧ Hid (∀ i x, i < k → L[i]? = some x → x < n) ∧ wr = w) (fun s _ => q + 1 - (intOf s).toNat)
    case atStart => exact ⟨0, by omega, rfl, fun i x hi => by omega, rfl⟩
    case round =>
      obtain ⟨k, hk, rfl, HS, hw⟩ := hrel
      have hw := hw.symm
      subst hw
      obtain ⟨y, hy⟩ : ∃ y, L[k]? = some y := ⟨_, List.getElem?_eq_getElem (by rw [HQ.out]; omega)⟩
      have cy := HC.out k y hy
      by_cases hyn : y < n
      · have hkq : k < q := by
          by_cases e : k = q
          · subst e; rw [hz] at hy; obtain rfl := Option.some.inj hy; omega
          · omega
        have HR : Hid (∀ i x, i < k + 1 → L[i]? = some x → x < n) := fun i x hi hx => by
          by_cases e : i = k
          · subst e; rw [hy] at hx; obtain rfl := Option.some.inj hx; exact hyn
          · exact HS.out i x (by omega) hx
        clear HS hy hz HC
        go_wp2
        go_roundw
        case rel => exact ⟨k + 1, by omega, by go_num, HR, trivial⟩
        case measure => simp [intOf]; omega
      · by_cases e : y = n
        · subst e
          have HE : Hid (insI L y = L) := insI_here HS.out hy
          clear HS hy hz HC
          go_wp2
          go_ret
          exact ⟨_, rfl, by rw [HE.out]; exact hown1, Below.refl _ _⟩
        · have HE : Hid (insI L n = (L.take k ++ [n]) ++ L.drop k) := insI_mid HS.out hy (by omega)
          have ey : (y == n) = false := by simpa using e
          have lk : (L.take k).length = k := by rw [List.length_take, HQ.out]; omega
          have ld : (L.drop k).length = q + 1 - k := by rw [List.length_drop, HQ.out]
          have n1 : ∀ j u, ((L.take k).map (Value.int .i64))[j]? = some u → (w.alloc (.cells #[] 2)).cell? ((⟨g, 0, none⟩ : Addr).add j) = some u := fun j u hj => by
            rw [List.getElem?_map] at hj
            obtain ⟨x, hx, rfl⟩ := Option.map_eq_some_iff.mp hj
            have hjk : j < k := by have := (List.getElem?_eq_some_iff.mp hx).1; omega
            rw [List.getElem?_take_of_lt hjk] at hx
            rw [addP, Nat.zero_add]
            exact keepC ((Below.refl _ w).alloc (Nat.le_refl _) _) (HC.out j x hx)
          have HD : Hid (∀ w2, Below w.heap.size w w2 → ∀ j u, ((L.drop k).map (Value.int .i64))[j]? = some u → w2.cell? ((⟨g, k, none⟩ : Addr).add j) = some u) := fun w2 hb j u hj => by
            rw [List.getElem?_map] at hj
            obtain ⟨x, hx, rfl⟩ := Option.map_eq_some_iff.mp hj
            rw [List.getElem?_drop] at hx
            rw [addP]
            exact keepC hb (HC.out (k + j) x hx)
          have o1 : ∀ u ∈ (L.take k).map (Value.int .i64), u.oneCell' = true := fun u hu => by obtain ⟨x, _, rfl⟩ := List.mem_map.mp hu; rfl
          have o2 : ∀ u ∈ (L.drop k).map (Value.int .i64), u.oneCell' = true := fun u hu => by obtain ⟨x, _, rfl⟩ := List.mem_map.mp hu; rfl
          have hE := own_emptyI w 2
          have t1 : ((L.take k).map (Value.int .i64)).length = k * 1 := by rw [List.length_map, lk]; omega
          have t2 : ((L.drop k).map (Value.int .i64)).length = (q + 1 - k) * 1 := by rw [List.length_map, ld]; omega
          have hck : ¬ cap = k := by omega
          have bk : (0 : Int) ≤ (k : Int) := by omega
          have bk2 : (k : Int) ≤ (cap : Int) := by omega
          have bk3 : (k : Int) ≤ (q : Int) + 1 := by omega
          clear HS hy hz HC
          go_wp2_with (first
            | (at_builtin; refine wpList_append_own _ rfl _ _ 36 rfl w.heap.size 2 i0 (.int .i64 0) 1 8 Try.underlying36 hi hz0 hz1 hz2 rfl (by decide) _ _ _ rfl hE ⟨g, 0, none⟩ k cap ((L.take k).map (Value.int .i64)) rfl t1 n1 o1 ?d3 ?d4 ?d5 ?_)
            | fail)
          case d3 => unfold maxLen; omega
          case d4 => omega
          intro v1 w1 hown2 hgrow1 _
          have hB1 : Below w.heap.size w w1 := ((Below.refl w.heap.size w).alloc (Nat.le_refl _) _).grown hgrow1 (by simp) (fun j hj => (hE.lt j hj).1)
          obtain ⟨a1, m1, c1, rfl⟩ := row_shape3 hown2
          have hs1 := hB1.size
          clear hgrow1 hE n1 o1
          go_wp2_with (first
            | (at_builtin; refine wpList_append_own _ rfl _ _ 36 rfl w.heap.size 2 i0 (.int .i64 0) 1 8 Try.underlying36 hi hz0 hz1 hz2 rfl (by decide) _ _ _ rfl (World.ownsRow.alloc hown2 _) ⟨w1.heap.size, 0, none⟩ 1 1 [.int .i64 n] rfl rfl ?e1 ?e2 ?e3 ?e4 ?e5 ?_)
            | fail)
          case e1 => exact cell_one_new _ _ _
          case e2 => intro u hu; simp at hu; subst hu; rfl
          case e3 => unfold maxLen; omega
          case e4 => omega
          case e5 => simp; omega
          intro v2 w2 hown3 hgrow2 _
          have hB2 : Below w.heap.size w w2 := (hB1.alloc hB1.size _).grown hgrow2 (by simp; omega) (fun j hj => (hown2.lt j hj).1)
          obtain ⟨a2, m2, c2, rfl⟩ := row_shape3 hown3
          have hs2 := hB2.size
          have n2 := HD.out w2 hB2
          clear hgrow2 hown2
          go_wp2_with (first
            | (at_builtin; refine wpList_append_own _ rfl _ _ 36 rfl w.heap.size 2 i0 (.int .i64 0) 1 8 Try.underlying36 hi hz0 hz1 hz2 rfl (by decide) _ _ _ rfl hown3 ⟨g, k, none⟩ (q + 1 - k) (cap - k) ((L.drop k).map (Value.int .i64)) rfl t2 n2 o2 ?f3 ?f4 ?f5 ?_)
            | fail)
          case f3 => unfold maxLen; omega
          case f4 => omega
          case f5 => omega
          intro v3 w3 hown4 hgrow3 _
          have hB3 : Below w.heap.size w w3 := hB2.grown hgrow3 (by omega) (fun j hj => (hown3.lt j hj).1)
          have HO : Hid (OwnsI w3 base v3 (insI L n)) := by
            simp only [Hid]
            rw [HE.out]
            refine owns_mono (OwnsI.add (base := w.heap.size) ?_) hbw
            rw [List.length_append, lk, ld, List.map_append]
            simpa using hown4
          clear hgrow3 hown4 hown3
          go_wp2
          go_ret
          exact ⟨_, rfl, HO.out, hB3.mono hbw⟩
end Go.Proofs.Ytjfonbnmdcpepaa
