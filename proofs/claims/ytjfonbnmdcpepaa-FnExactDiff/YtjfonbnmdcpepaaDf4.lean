/- Runs of pieces that are unlike, made spans: the program's. -/
import Derived.Test.YtjfonbnmdcpepaaDf3
import Derived.Test.YtjfonbnmdcpepaaInts2
namespace Go.Proofs.Ytjfonbnmdcpepaa
open Go.RowKit

set_option maxRecDepth 20000 in
set_option maxHeartbeats 2000000 in
theorem impl_runLength (Q : List PieceD) (n cap : Nat) (a : Option Addr) (w : World) (hn : Q.length = n) (h0 : 0 < n) (h1 : n ≤ 1200) (hA : SeqAt w a 3 (Q.map PieceD.cs)) :
    Calls Try.prog 83 #[.slice a n cap] w fun e w' => ∃ m : Nat, e = .returned (.int .i64 (m + 1 : Nat)) ∧ RunN Q (m + 1) ∧ Below w.heap.size w w' := by
  obtain ⟨f, hf⟩ : ∃ f, Q[0]? = some f := ⟨_, List.getElem?_eq_getElem (by omega)⟩
  obtain ⟨b, o, rfl, hc⟩ := hA.at (i := 0) (r := f.cs) (by rw [List.getElem?_map, hf]; rfl)
  have c0 : w.cell? ⟨b, o + 2, none⟩ = some (.bool f.un) := by simpa using hc 2 _ rfl
  have HC : Hid (∀ (i : Nat) p, Q[i]? = some p → w.cell? ⟨b, o + i * 3 + 2, none⟩ = some (.bool p.un)) := fun i p hp => by
    obtain ⟨b', o', e', h⟩ := hA.at (i := i) (r := p.cs) (by rw [List.getElem?_map, hp]; rfl)
    injection e' with e'
    injection e' with u1 u2
    subst u1 u2
    exact h 2 _ rfl
  have HF : Hid (Q[0]? = some f) := hf
  have HQ : Hid (Q.length = n) := hn
  clear hc hA hf hn
  go_enter Try.func83, Try.ntmps83
  go_wp2
  go_loopw [3] (fun s wr => ∃ m : Nat, m + 1 ≤ n ∧ s = .int .i64 (m + 1 : Nat) ∧ Hid (∀ (t : Nat) p, t < m + 1 → Q[t]? = some p → p.un = f.un) ∧ Below w.heap.size w wr) (fun s _ => n - (intOf s).toNat)
  case atStart => exact ⟨0, by omega, rfl, fun t p ht hp => by obtain rfl : t = 0 := (by omega); rw [HF.out] at hp; obtain rfl := Option.some.inj hp; rfl, Below.refl _ _⟩
  case round =>
    obtain ⟨m, hm, rfl, HS, hB⟩ := hrel
    have k0 := keepC hB c0
    by_cases hlt : m + 1 < n
    · obtain ⟨p, hp⟩ : ∃ p, Q[m + 1]? = some p := ⟨_, List.getElem?_eq_getElem (by rw [HQ.out]; omega)⟩
      have k1 := keepC hB (HC.out _ p hp)
      have dm : decide ((m : Int) + 1 < (n : Int)) = true := by simp; omega
      have bm : (0 : Int) ≤ (m : Int) + 1 := by omega
      have bm2 : (m : Int) + 1 < (n : Int) := by omega
      have tm : ((m : Int) + 1).toNat = m + 1 := by omega
      by_cases hu : p.un = f.un
      · have HR : Hid (∀ (t : Nat) p, t < m + 1 + 1 → Q[t]? = some p → p.un = f.un) := fun t q ht hq => by
          by_cases e : t = m + 1
          · subst e; rw [hp] at hq; obtain rfl := Option.some.inj hq; exact hu
          · exact HS.out t q (by omega) hq
        rw [hu] at k1
        have de : (f.un == f.un) = true := by cases f.un <;> rfl
        clear HS hp HC hu
        generalize f.un = fu at *
        go_wp2_with fail
        go_quiet (fail)
        go_wp2
        go_roundw
        case rel => exact ⟨m + 1, by omega, by go_num, HR, below_drewN hB _⟩
        case measure => simp [intOf]; omega
      · have HR : Hid (RunN Q (m + 1)) := ⟨by omega, by rw [HQ.out]; omega, fun g hg => by
          rw [HF.out] at hg
          obtain rfl := Option.some.inj hg
          exact ⟨HS.out, fun q hq => by rw [hp] at hq; obtain rfl := Option.some.inj hq; exact hu⟩⟩
        have de : (p.un == f.un) = false := by simpa using hu
        clear HS hp HC hu
        go_wp2_with fail
        go_quiet (fail)
        go_wp2
        go_ret
        exact ⟨m, rfl, HR.out, below_drewN hB _⟩
    · have dm : decide ((m : Int) + 1 < (n : Int)) = false := by simp; omega
      have HR : Hid (RunN Q (m + 1)) := ⟨by omega, by rw [HQ.out]; omega, fun g hg => by
        rw [HF.out] at hg
        obtain rfl := Option.some.inj hg
        exact ⟨HS.out, fun q hq => by rw [List.getElem?_eq_none (by rw [HQ.out]; omega)] at hq; cases hq⟩⟩
      clear HS HC
      go_wp2_with fail
      go_quiet (fail)
      go_wp2
      go_ret
      exact ⟨m, rfl, HR.out, below_drewN hB _⟩
theorem infoSpan2 : (Try.prog.info? 86).map (fun i => (i.zero, i.size, i.bytes)) = some (some (.agg #[.int .i64 0, .int .i64 0]), 2, 16) := by kernel_rfl
theorem span_len {P : List SpanD} : ∀ r ∈ P.map SpanD.cs, r.length = 2 := fun r hr => by
  obtain ⟨x, _, rfl⟩ := List.mem_map.mp hr; rfl
def OwnsS (w : World) (base : Nat) (v : Value) (P : List SpanD) : Prop := w.ownsRow base 86 2 v P.length (P.map SpanD.cs).flatten
theorem OwnsS.add {w : World} {base : Nat} {v : Value} {P : List SpanD} {p : SpanD} (h : w.ownsRow base 86 2 v (P.length + 1) ((P.map SpanD.cs).flatten ++ p.cs)) : OwnsS w base v (P ++ [p]) := by
  unfold OwnsS
  rw [List.length_append, List.map_append, List.flatten_append]
  simpa using h
theorem seq_drop {w : World} {b o k m : Nat} {P : List PieceD} (h : SeqAt w (some ⟨b, o, none⟩) 3 ((P.drop k).map PieceD.cs)) : SeqAt w (some ⟨b, o + m * 3, none⟩) 3 ((P.drop (k + m)).map PieceD.cs) := by
  rcases h with h | ⟨b', o', e, h⟩
  · left
    have h2 := congrArg List.length h
    apply List.length_eq_zero_iff.mp
    simp at h2 ⊢
    omega
  · injection e with e
    injection e with u1 u2
    subst u1 u2
    refine .inr ⟨_, _, rfl, fun i j r c hi hj => ?_⟩
    rw [show o + m * 3 + i * 3 + j = o + (m + i) * 3 + j by rw [Nat.add_mul]; omega]
    refine h (m + i) j r c ?_ hj
    rw [List.getElem?_map, List.getElem?_drop] at hi ⊢
    rw [← Nat.add_assoc]
    exact hi
theorem seq_none {w : World} {a : Option Addr} {k : Nat} {P : List PieceD} (h : P.length ≤ k) : SeqAt w a 3 ((P.drop k).map PieceD.cs) := .inl (by rw [List.drop_eq_nil_of_le h]; rfl)
set_option maxRecDepth 20000 in
set_option maxHeartbeats 8000000 in
theorem impl_unlikeSpans (P : List PieceD) (a : Option Addr) (cap : Nat) (w : World) (hA : SeqAt w a 3 (P.map PieceD.cs)) (hcap : P.length ≤ cap) (hl : P.length ≤ 1200) :
    Calls Try.prog 64 #[.slice a P.length cap] w fun e W' => ∃ v', e = .returned v' ∧ OwnsS W' w.heap.size v' (foldS P).1 ∧ Below w.heap.size w W' := by
  obtain ⟨i0, hi, hz0, hz1, hz2⟩ := info_parts infoSpan2
  have HL0 : Hid (LeftS P 0 []) := left_begin P
  go_enter Try.func64, Try.ntmps64
  go_wp2
  go_loopw [0, 3] (fun s0 s3 wr => ∃ (k n c : Nat) (a : Option Addr) (X : List SpanD), P.length = k + n ∧ n ≤ c ∧ s0 = .slice a n c ∧ SeqAt w a 3 ((P.drop k).map PieceD.cs) ∧ OwnsS wr w.heap.size s3 X ∧ X.length ≤ k ∧ Hid (LeftS P k X) ∧ Below w.heap.size w wr) (fun s0 _ _ => match s0 with | .slice _ n _ => n | _ => 0)
  case atStart => exact ⟨0, P.length, cap, a, [], by omega, hcap, rfl, hA, World.ownsRow_nil _ _ _ _, by simp, HL0, Below.refl _ _⟩
  case round =>
    clear hA HL0
    obtain ⟨k, n, c, a, X, hkn, hnc, rfl, hA, hown, hXl, HL, hBw⟩ := hrel
    have hsW := hBw.size
    obtain ⟨ap, np, cp, rfl⟩ := row_shape3 hown
    have HKN : Hid (P.length = k + n) := hkn
    clear hkn
    by_cases h0 : 0 < n
    · have hn12 : n ≤ 1200 := by have := HKN.out; omega
      have hXl2 : X.length ≤ 1200 := by have := HKN.out; omega
      obtain ⟨f, hf⟩ : ∃ f, P[k]? = some f := ⟨_, List.getElem?_eq_getElem (by rw [HKN.out]; omega)⟩
      obtain ⟨b, o, rfl, hc⟩ := hA.at (i := 0) (r := f.cs) (by rw [List.getElem?_map, List.getElem?_drop, Nat.add_zero, hf]; rfl)
      have c0 := keepC hBw (show w.cell? ⟨b, o, none⟩ = some (.int .i64 f.lo) by simpa using hc 0 _ rfl)
      have c2 := keepC hBw (show w.cell? ⟨b, o + 2, none⟩ = some (.bool f.un) by simpa using hc 2 _ rfl)
      clear hc
      have hbl : b < w.heap.size := by
        obtain ⟨b', o', e', h⟩ := hA.at (i := 0) (r := f.cs) (by rw [List.getElem?_map, List.getElem?_drop, Nat.add_zero, hf]; rfl)
        injection e' with e'
        injection e' with u1 u2
        subst u1 u2
        exact World.block_lt_of_cell? _ _ (h 0 _ rfl)
      have hR := impl_runLength (P.drop k) n c (some ⟨b, o, none⟩) wr (by rw [List.length_drop, HKN.out]; omega) h0 hn12 (hA.below hBw)
      go_wp2_with fail
      refine hR.mono ?_
      rintro e w2 ⟨m, rfl, hrun, hb2⟩
      clear hR
      have hB2 := hBw.trans (hb2.mono hBw.size)
      have hown2 : OwnsS w2 w.heap.size (.slice ap np cp) X := owns_below hown hb2
      have hs2 := hB2.size
      have d0 := keepC hb2 c0
      have d2 := keepC hb2 c2
      have hmn : m + 1 ≤ n := by have := hrun.2.1; rw [List.length_drop, HKN.out] at this; omega
      obtain ⟨z, hz⟩ : ∃ z, P[k + m]? = some z := ⟨_, List.getElem?_eq_getElem (by rw [HKN.out]; omega)⟩
      obtain ⟨b', o', he, hc⟩ := (hA.below hB2).at (i := m) (r := z.cs) (by rw [List.getElem?_map, List.getElem?_drop, hz]; rfl)
      injection he with he
      injection he with u1 u2
      subst u1 u2
      have d1 : w2.cell? ⟨b, o + m * 3 + 1, none⟩ = some (.int .i64 z.hi) := hc 1 _ rfl
      have HN : Hid (P.length = (k + (m + 1)) + (n - (m + 1))) := by have := HKN.out; simp only [Hid]; omega
      have hA2 : ∀ (o : Nat), SeqAt w (some ⟨b, o, none⟩) 3 ((P.drop (k + (m + 1))).map PieceD.cs) ∨ n ≠ m + 1 := fun o => by
        by_cases e : n = m + 1
        · exact .inl (seq_none (by rw [HKN.out]; omega))
        · exact .inr e
      have hA3 := seq_drop (m := m + 1) hA
      clear hc hown hb2 c0 c2 hBw hsW hA
      have tm : ((m : Int) + 1).toNat = m + 1 := by omega
      have bm : (0 : Int) ≤ (m : Int) + 1 := by omega
      have bm2 : (m : Int) + 1 ≤ (n : Int) := by omega
      have bm3 : (m : Int) + 1 ≤ (c : Int) := by omega
      have hw : IntKind.i64.wrap (m : Int) = m := wrap_small _ (by omega) (by omega)
      have hw1 : IntKind.i64.wrap ((m : Int) + 1 - 1) = m := by rw [show (m : Int) + 1 - 1 = m by omega]; exact hw
      have lm : (m : Int) < (m : Int) + 1 := by omega
      have lm0 : (0 : Int) ≤ (m : Int) := by omega
      by_cases hcm : c = m + 1
      · have hA4 := (hA2 o).resolve_right (by omega)
        subst hcm
        obtain rfl : n = m + 1 := by omega
        cases hu : f.un
        · have HL2 : Hid (LeftS P (k + (m + 1)) X) := left_no HL.out hrun hf hu
          rw [hu] at d2
          clear HL hrun hf hz hu hA2
          go_wp2
          go_roundw
          case rel => exact ⟨k + (m + 1), 0, _, _, X, by have := HN.out; omega, by omega, rfl, hA4, hown2, by omega, HL2, hB2⟩
          case measure => simp
        · have HL2 : Hid (LeftS P (k + (m + 1)) (X ++ [⟨f.lo, z.hi⟩])) := left_yes HL.out hrun hf (by rw [Nat.add_sub_cancel]; exact hz) hu
          rw [hu] at d2
          have na : some b ≠ (Value.slice ap np cp).ownBlock := fun e => by have := (hown2.lt b e.symm).1; omega
          clear HL hrun hf hz hu hA2
          go_wp2_with fail
          go_region_held3 (fun w' => w'.cell? ⟨b, o, none⟩ = some (.int .i64 f.lo) ∧ w'.cell? ⟨b, o + m * 3 + 1, none⟩ = some (.int .i64 z.hi)) (go_keep) ((refine step_append_lies _ (by rfl) (.tmp 19) (.tmp 33) 47 (by rfl) w.heap.size 86 i0 (.agg #[.int .i64 0, .int .i64 0]) 2 16 Try.underlying47 hi hz0 hz1 hz2 rfl (by omega) (.slice ap np cp) X.length (X.map SpanD.cs).flatten (by rfl) (World.ownsRow.alloc (w := w2.drew) hown2 _) ⟨w2.heap.size, 0, none⟩ 1 1 [.int .i64 f.lo, .int .i64 z.hi] (by rfl) rfl (cells_new _ _ _) (by intro u hu; simp at hu; rcases hu with rfl | rfl <;> rfl) (by omega) (by unfold maxLen; omega) (by omega) (by simp; omega) _ rfl ?_; intro g1 cap1 w3 hown3 hgrow hat hlt; have n1 := hgrow.cell (a := ⟨b, o, none⟩) (keepC ((Below.refl _ w2.drew).alloc (Nat.le_refl _) _) d0) na; have n2 := hgrow.cell (a := ⟨b, o + m * 3 + 1, none⟩) (keepC ((Below.refl _ w2.drew).alloc (Nat.le_refl _) _) d1) na))
          have hB3 : Below w.heap.size w w3 := Below.grown (Below.alloc (below_drewN hB2 1) (by simp; omega) _) hgrow (by simp; omega) (fun k hk => (hown2.lt k hk).1)
          have HO : Hid (OwnsS w3 w.heap.size (.slice (some ⟨g1, 0, none⟩) (X.length + 1) cap1) (X ++ [⟨f.lo, z.hi⟩])) := OwnsS.add (by simpa [SpanD.cs] using hown3)
          clear hgrow hown3 hown2 n1 n2 hat hlt na d0 d1 d2
          go_wp2
          go_roundw
          case rel => exact ⟨k + (m + 1), 0, _, _, _, by have := HN.out; omega, by omega, rfl, hA4, HO.out, by simp; omega, HL2, hB3⟩
          case measure => simp
      · cases hu : f.un
        · have HL2 : Hid (LeftS P (k + (m + 1)) X) := left_no HL.out hrun hf hu
          rw [hu] at d2
          clear HL hrun hf hz hu hA2
          go_wp2
          go_roundw
          case rel => exact ⟨k + (m + 1), n - (m + 1), _, _, X, by have := HN.out; omega, by omega, rfl, hA3, hown2, by omega, HL2, hB2⟩
          case measure => simp; omega
        · have HL2 : Hid (LeftS P (k + (m + 1)) (X ++ [⟨f.lo, z.hi⟩])) := left_yes HL.out hrun hf (by rw [Nat.add_sub_cancel]; exact hz) hu
          rw [hu] at d2
          have na : some b ≠ (Value.slice ap np cp).ownBlock := fun e => by have := (hown2.lt b e.symm).1; omega
          clear HL hrun hf hz hu hA2
          go_wp2_with fail
          go_region_held3 (fun w' => w'.cell? ⟨b, o, none⟩ = some (.int .i64 f.lo) ∧ w'.cell? ⟨b, o + m * 3 + 1, none⟩ = some (.int .i64 z.hi)) (go_keep) ((refine step_append_lies _ (by rfl) (.tmp 19) (.tmp 33) 47 (by rfl) w.heap.size 86 i0 (.agg #[.int .i64 0, .int .i64 0]) 2 16 Try.underlying47 hi hz0 hz1 hz2 rfl (by omega) (.slice ap np cp) X.length (X.map SpanD.cs).flatten (by rfl) (World.ownsRow.alloc (w := w2.drew) hown2 _) ⟨w2.heap.size, 0, none⟩ 1 1 [.int .i64 f.lo, .int .i64 z.hi] (by rfl) rfl (cells_new _ _ _) (by intro u hu; simp at hu; rcases hu with rfl | rfl <;> rfl) (by omega) (by unfold maxLen; omega) (by omega) (by simp; omega) _ rfl ?_; intro g1 cap1 w3 hown3 hgrow hat hlt; have n1 := hgrow.cell (a := ⟨b, o, none⟩) (keepC ((Below.refl _ w2.drew).alloc (Nat.le_refl _) _) d0) na; have n2 := hgrow.cell (a := ⟨b, o + m * 3 + 1, none⟩) (keepC ((Below.refl _ w2.drew).alloc (Nat.le_refl _) _) d1) na))
          have hB3 : Below w.heap.size w w3 := Below.grown (Below.alloc (below_drewN hB2 1) (by simp; omega) _) hgrow (by simp; omega) (fun k hk => (hown2.lt k hk).1)
          have HO : Hid (OwnsS w3 w.heap.size (.slice (some ⟨g1, 0, none⟩) (X.length + 1) cap1) (X ++ [⟨f.lo, z.hi⟩])) := OwnsS.add (by simpa [SpanD.cs] using hown3)
          clear hgrow hown3 hown2 n1 n2 hat hlt na d0 d1 d2
          go_wp2
          go_roundw
          case rel => exact ⟨k + (m + 1), n - (m + 1), _, _, _, by have := HN.out; omega, by omega, rfl, hA3, HO.out, by simp; omega, HL2, hB3⟩
          case measure => simp; omega
    · obtain rfl : n = 0 := by omega
      have HR : Hid ((foldS P).1 = X) := left_end HL.out (by rw [HKN.out]; omega)
      go_wp2
      go_ret
      exact ⟨_, rfl, by rw [HR.out]; exact hown, hBw⟩
end Go.Proofs.Ytjfonbnmdcpepaa
