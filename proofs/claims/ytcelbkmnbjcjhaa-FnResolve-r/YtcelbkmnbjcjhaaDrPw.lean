/- Packed: RowKitP Dr1 Dr2. -/
import Derived.Test.YtcelbkmnbjcjhaaBaseAw
import Derived.Test.YtcelbkmnbjcjhaaDr0w
namespace Go.Proofs.Ytcelbkmnbjcjhaa
open Go.ChangeShapes Go.WideShapes Go.ChangeAt Go.RowKit
theorem isRow_of {H : Type} {enc : TypeId × Value → H} {W : World} {a : Option Addr} {len cap : Nat} {d : DataW H} {p : List MemPlace}
    (h : DataW.Trod enc Try.prog W 0 (fun _ => true) true 22 (.slice a len cap) d p) : RowOf W a len := by
  obtain ⟨fuel, hf⟩ := h
  rcases open_ints Try.underlying22 Try.underlying5 (by kernel_rfl) hf with ⟨hcs, _⟩ | ⟨x, l, c, zs, hcs, _, hl, hm, hz, _, hcell, hwz⟩
  · simp [Value.cells] at hcs
    obtain ⟨rfl, rfl, rfl⟩ := hcs
    exact .inl rfl
  · simp [Value.cells] at hcs
    obtain ⟨rfl, rfl, rfl⟩ := hcs
    by_cases h0 : len = 0
    · exact .inl h0
    · obtain ⟨b, off, spot⟩ := x
      have hz' : zs.length = cap := by simpa using hz
      have hc0 := hcell 0 (by omega)
      have hspot : spot = none := by simpa [Addr.add] using World.cell?_spot hc0
      subst hspot
      refine .inr ⟨b, off, rfl, fun i hi => ⟨zs.getD i 0, ?_, ?_, ?_⟩⟩
      · have := hcell i (by omega)
        have e : (⟨b, off, none⟩ : Addr).add i = ⟨b, off + i, none⟩ := by unfold Addr.add; split <;> simp_all
        rw [e] at this
        exact this
      · have hw := hwz (zs.getD i 0) (by rw [List.getD_eq_getElem?_getD, List.getElem?_eq_getElem (by omega)]; simp)
        exact (bounds_u8 hw).1
      · have hw := hwz (zs.getD i 0) (by rw [List.getD_eq_getElem?_getD, List.getElem?_eq_getElem (by omega)]; simp)
        exact (bounds_u8 hw).2
end Go.Proofs.Ytcelbkmnbjcjhaa
namespace Go.Proofs.Ytcelbkmnbjcjhaa
open Go.RowKit

theorem World.grownBy_of_below {w w' : World} (h : Below w.heap.size w w') (row : Option Nat) : w.grownBy w' row := ⟨h.os, h.tape, h.output, h.size, fun b hb _ => h.block b hb⟩
theorem dec_short (n : Int) (w : World) (h0 : 0 ≤ n) (h1 : n < 1000000) : Calls Try.prog 68 #[.int .i64 n] w fun e w' => ∃ s : ByteArray, e = .returned (.string s) ∧ s.size ≤ 20 ∧ Below w.heap.size w w' := by
  obtain ⟨m, rfl⟩ := Int.eq_ofNat_of_zero_le h0
  refine (spec_l01Dec m w (by omega)).mono ?_
  rintro e w' ⟨rfl, hb⟩
  exact ⟨_, rfl, by rw [S_size]; exact dd_len (by omega), hb⟩
theorem sz5 : ByteArray.size ⟨#[82, 117, 108, 101, 32]⟩ = 5 := rfl
theorem sz1 : ByteArray.size ⟨#[32]⟩ = 1 := rfl
theorem sz3 : ByteArray.size ⟨#[32, 45, 32]⟩ = 3 := rfl
theorem szn : ByteArray.size ⟨#[10]⟩ = 1 := rfl
theorem sz0 : ByteArray.size ⟨#[32, 48, 32]⟩ = 3 := rfl
set_option maxHeartbeats 1000000 in
theorem src_clock (p : Nat) (a : Option Addr) (len cap : Nat) (zs : List Int) (w : World) (hS : SrcAt p a len cap zs w) :
    Calls Try.prog 69 #[.pointer (some ⟨p, 0, none⟩)] w fun e w' => ∃ s : ByteArray, e = .returned (.string s) ∧ s.size ≤ 100 ∧ SrcAt p a len cap zs w' ∧ w.grownBy w' (some p) := by
  go_enter Try.func69, Try.ntmps69
  go_wp2_with fail
  refine (src_pick p a len cap zs w.heap.size 8 100 _ (hS.alloc _) (str_row w [⟨#[50, 58, 48, 48]⟩, ⟨#[50, 58, 48, 48, 115]⟩, ⟨#[49, 58, 48, 48, 117]⟩, ⟨#[48, 58, 48, 48]⟩, ⟨#[50, 52, 58, 48, 48]⟩, ⟨#[51, 58, 48, 48]⟩, ⟨#[48]⟩, ⟨#[50, 58, 51, 48, 58, 51, 48]⟩] _ (by decide)) (by have := hS.lt; omega) (by omega) (by omega)).mono ?_
  rintro e w1 ⟨s1, rfl, z1, S1, g1⟩
  have G1 := (World.grownBy.refl w (some p)).trans (gtrans_alloc g1)
  go_wp2
  go_ret
  exact ⟨_, rfl, z1, S1, G1⟩
set_option maxRecDepth 20000 in
set_option maxHeartbeats 4000000 in
theorem src_ruleLine (p : Nat) (a : Option Addr) (len cap : Nat) (zs : List Int) (nm : ByteArray) (w : World) (hS : SrcAt p a len cap zs w) (hn : nm.size ≤ 100) :
    Calls Try.prog 57 #[.pointer (some ⟨p, 0, none⟩), .string nm] w fun e w' => ∃ s : ByteArray, e = .returned (.string s) ∧ s.size ≤ 2000 ∧ SrcAt p a len cap zs w' ∧ w.grownBy w' (some p) := by
  go_enter Try.func57, Try.ntmps57
  go_wp2_with fail
  refine (src_n p a len cap zs 40 _ hS (by omega) (by omega)).mono ?_
  rintro e w1 ⟨y1, rfl, l1, u1, S1, g1⟩
  have G1 := (World.grownBy.refl w (some p)).trans g1
  go_wp2_with fail
  refine (src_n p a len cap zs 20 _ S1 (by omega) (by omega)).mono ?_
  rintro e w2 ⟨y2, rfl, l2, u2, S2, g2⟩
  have G2 := G1.trans g2
  have q1 : IntKind.i64.wrap (1970 + y1) = 1970 + y1 := by rw [IntKind.wrap_i64]; omega
  have q2 : IntKind.i64.wrap (1970 + y1 + y2) = 1970 + y1 + y2 := by rw [IntKind.wrap_i64]; omega
  go_wp2_with fail
  refine (dec_short (1970 + y1 + y2) _ (by omega) (by omega)).mono ?_
  rintro e w3 ⟨s3, rfl, z3, b3⟩
  have S3 := S2.grown b3
  have G3 := G2.trans (World.grownBy_of_below b3 (some p))
  go_wp2_with fail
  refine (src_pick p a len cap zs w3.heap.size 3 100 _ (S3.alloc _) (str_row w3 [⟨#[111, 110, 108, 121]⟩, ⟨#[109, 97, 120]⟩, s3] _ (by intro s hs; simp at hs; rcases hs with rfl | rfl | rfl <;> first | decide | omega)) (by have := S3.lt; omega) (by omega) (by omega)).mono ?_
  rintro e w4 ⟨s4, rfl, z4, S4, g4⟩
  have G4 := G3.trans (gtrans_alloc g4)
  go_wp2_with fail
  refine (src_one p a len cap zs 2 _ S4 (by omega) (by omega)).mono ?_
  rintro e w5 ⟨v5, rfl, S5, g5⟩
  have G5 := G4.trans g5
  cases v5 with
  | true =>
    go_wp2_with fail
    refine (dec_short (1970 + y1) _ (by omega) (by omega)).mono ?_
    rintro e w6 ⟨s6, rfl, z6, b6⟩
    have S6 := S5.grown b6
    have G6 := G5.trans (World.grownBy_of_below b6 (some p))
    go_wp2_with fail
    refine (src_pick p a len cap zs w6.heap.size 3 100 _ (S6.alloc _) (str_row w6 [⟨#[77, 97, 114]⟩, ⟨#[65, 112, 114]⟩, ⟨#[74, 97, 110]⟩] _ (by decide)) (by have := S6.lt; omega) (by omega) (by omega)).mono ?_
    rintro e w7 ⟨s7, rfl, z7, S7, g7⟩
    have G7 := G6.trans (gtrans_alloc g7)
    go_wp2_with fail
    refine (src_pick p a len cap zs w7.heap.size 4 100 _ (S7.alloc _) (str_row w7 [⟨#[108, 97, 115, 116, 83, 117, 110]⟩, ⟨#[83, 117, 110, 62, 61, 56]⟩, ⟨#[49]⟩, ⟨#[49, 53]⟩] _ (by decide)) (by have := S7.lt; omega) (by omega) (by omega)).mono ?_
    rintro e w8 ⟨s8, rfl, z8, S8, g8⟩
    have G8 := G7.trans (gtrans_alloc g8)
    go_wp2_with fail
    refine (src_clock p a len cap zs _ S8).mono ?_
    rintro e w9 ⟨s9, rfl, z9, S9, g9⟩
    have G9 := G8.trans g9
    go_wp2_with fail
    refine (src_pick p a len cap zs w9.heap.size 4 100 _ (S9.alloc _) (str_row w9 [⟨#[49, 58, 48, 48]⟩, ⟨#[48, 58, 51, 48]⟩, ⟨#[50, 58, 48, 48]⟩, ⟨#[45, 49, 58, 48, 48]⟩] _ (by decide)) (by have := S9.lt; omega) (by omega) (by omega)).mono ?_
    rintro e w10 ⟨s10, rfl, z10, S10, g10⟩
    have G10 := G9.trans (gtrans_alloc g10)
    go_wp2_with fail
    refine (src_pick p a len cap zs w10.heap.size 3 100 _ (S10.alloc _) (str_row w10 [⟨#[83]⟩, ⟨#[68]⟩, ⟨#[45]⟩] _ (by decide)) (by have := S10.lt; omega) (by omega) (by omega)).mono ?_
    rintro e w11 ⟨s11, rfl, z11, S11, g11⟩
    have G11 := G10.trans (gtrans_alloc g11)
    go_wp2
    go_ret
    exact ⟨_, rfl, by simp only [ByteArray.size_append, sz5, sz1, sz3, szn]; omega, S11, G11⟩
  | false =>
    go_wp2_with fail
    refine (dec_short (1970 + y1) _ (by omega) (by omega)).mono ?_
    rintro e w6 ⟨s6, rfl, z6, b6⟩
    have S6 := S5.grown b6
    have G6 := G5.trans (World.grownBy_of_below b6 (some p))
    go_wp2_with fail
    refine (src_pick p a len cap zs w6.heap.size 3 100 _ (S6.alloc _) (str_row w6 [⟨#[79, 99, 116]⟩, ⟨#[78, 111, 118]⟩, ⟨#[68, 101, 99]⟩] _ (by decide)) (by have := S6.lt; omega) (by omega) (by omega)).mono ?_
    rintro e w7 ⟨s7, rfl, z7, S7, g7⟩
    have G7 := G6.trans (gtrans_alloc g7)
    go_wp2_with fail
    refine (src_pick p a len cap zs w7.heap.size 3 100 _ (S7.alloc _) (str_row w7 [⟨#[108, 97, 115, 116, 83, 117, 110]⟩, ⟨#[83, 117, 110, 62, 61, 49]⟩, ⟨#[51, 49]⟩] _ (by decide)) (by have := S7.lt; omega) (by omega) (by omega)).mono ?_
    rintro e w8 ⟨s8, rfl, z8, S8, g8⟩
    have G8 := G7.trans (gtrans_alloc g8)
    go_wp2_with fail
    refine (src_clock p a len cap zs _ S8).mono ?_
    rintro e w9 ⟨s9, rfl, z9, S9, g9⟩
    have G9 := G8.trans g9
    go_wp2_with fail
    refine (src_pick p a len cap zs w9.heap.size 3 100 _ (S9.alloc _) (str_row w9 [⟨#[45]⟩, ⟨#[83]⟩, ⟨#[87]⟩] _ (by decide)) (by have := S9.lt; omega) (by omega) (by omega)).mono ?_
    rintro e w10 ⟨s10, rfl, z10, S10, g10⟩
    have G10 := G9.trans (gtrans_alloc g10)
    go_wp2
    go_ret
    exact ⟨_, rfl, by simp only [ByteArray.size_append, sz5, sz1, sz3, szn, sz0]; omega, S10, G10⟩
set_option maxRecDepth 20000 in
set_option maxHeartbeats 4000000 in
theorem src_eraLine (p : Nat) (a : Option Addr) (len cap : Nat) (zs : List Int) (la : Bool) (y : Int) (w : World) (hS : SrcAt p a len cap zs w) (h0 : 0 ≤ y) (h1 : y < 1000000) :
    Calls Try.prog 58 #[.pointer (some ⟨p, 0, none⟩), .bool la, .int .i64 y] w fun e w' => ∃ s : ByteArray, e = .returned (.string s) ∧ s.size ≤ 2000 ∧ SrcAt p a len cap zs w' ∧ w.grownBy w' (some p) := by
  cases la with
  | true =>
    go_enter Try.func58, Try.ntmps58
    go_wp2_with fail
    refine (src_pick p a len cap zs w.heap.size 6 100 _ (hS.alloc _) (str_row w [⟨#[49, 58, 48, 48]⟩, ⟨#[45, 53, 58, 48, 48]⟩, ⟨#[48, 58, 48, 48]⟩, ⟨#[45]⟩, ⟨#[53, 58, 51, 48]⟩, ⟨#[45, 48, 58, 48, 49, 58, 49, 53]⟩] _ (by decide)) (by have := hS.lt; omega) (by omega) (by omega)).mono ?_
    rintro e w1 ⟨s1, rfl, z1, S1, g1⟩
    have G1 := (World.grownBy.refl w (some p)).trans (gtrans_alloc g1)
    go_wp2_with fail
    refine (src_pick p a len cap zs w1.heap.size 6 100 _ (S1.alloc _) (str_row w1 [⟨#[69, 117]⟩, ⟨#[69, 117]⟩, ⟨#[85, 83]⟩, ⟨#[45]⟩, ⟨#[49, 58, 48, 48]⟩, ⟨#[45, 48, 58, 51, 48]⟩] _ (by decide)) (by have := S1.lt; omega) (by omega) (by omega)).mono ?_
    rintro e w2 ⟨s2, rfl, z2, S2, g2⟩
    have G2 := G1.trans (gtrans_alloc g2)
    go_wp2_with fail
    refine (src_pick p a len cap zs w2.heap.size 5 100 _ (S2.alloc _) (str_row w2 [⟨#[67, 69, 37, 115, 84]⟩, ⟨#[67, 69, 84, 47, 67, 69, 83, 84]⟩, ⟨#[76, 77, 84]⟩, ⟨#[43, 48, 53]⟩, ⟨#[69, 37, 115, 84]⟩] _ (by decide)) (by have := S2.lt; omega) (by omega) (by omega)).mono ?_
    rintro e w3 ⟨s3, rfl, z3, S3, g3⟩
    have G3 := G2.trans (gtrans_alloc g3)
    go_wp2
    go_ret
    exact ⟨_, rfl, by simp only [ByteArray.size_append, sz1, szn]; omega, S3, G3⟩
  | false =>
    go_enter Try.func58, Try.ntmps58
    go_wp2_with fail
    refine (src_pick p a len cap zs w.heap.size 6 100 _ (hS.alloc _) (str_row w [⟨#[49, 58, 48, 48]⟩, ⟨#[45, 53, 58, 48, 48]⟩, ⟨#[48, 58, 48, 48]⟩, ⟨#[45]⟩, ⟨#[53, 58, 51, 48]⟩, ⟨#[45, 48, 58, 48, 49, 58, 49, 53]⟩] _ (by decide)) (by have := hS.lt; omega) (by omega) (by omega)).mono ?_
    rintro e w1 ⟨s1, rfl, z1, S1, g1⟩
    have G1 := (World.grownBy.refl w (some p)).trans (gtrans_alloc g1)
    go_wp2_with fail
    refine (src_pick p a len cap zs w1.heap.size 6 100 _ (S1.alloc _) (str_row w1 [⟨#[69, 117]⟩, ⟨#[69, 117]⟩, ⟨#[85, 83]⟩, ⟨#[45]⟩, ⟨#[49, 58, 48, 48]⟩, ⟨#[45, 48, 58, 51, 48]⟩] _ (by decide)) (by have := S1.lt; omega) (by omega) (by omega)).mono ?_
    rintro e w2 ⟨s2, rfl, z2, S2, g2⟩
    have G2 := G1.trans (gtrans_alloc g2)
    go_wp2_with fail
    refine (src_pick p a len cap zs w2.heap.size 5 100 _ (S2.alloc _) (str_row w2 [⟨#[67, 69, 37, 115, 84]⟩, ⟨#[67, 69, 84, 47, 67, 69, 83, 84]⟩, ⟨#[76, 77, 84]⟩, ⟨#[43, 48, 53]⟩, ⟨#[69, 37, 115, 84]⟩] _ (by decide)) (by have := S2.lt; omega) (by omega) (by omega)).mono ?_
    rintro e w3 ⟨s3, rfl, z3, S3, g3⟩
    have G3 := G2.trans (gtrans_alloc g3)
    go_wp2_with fail
    refine (dec_short (y) _ (by omega) (by omega)).mono ?_
    rintro e w4 ⟨s4, rfl, z4, b4⟩
    have S4 := S3.grown b4
    have G4 := G3.trans (World.grownBy_of_below b4 (some p))
    go_wp2_with fail
    refine (src_pick p a len cap zs w4.heap.size 6 100 _ (S4.alloc _) (str_row w4 [⟨#[]⟩, ⟨#[32, 77, 97, 114]⟩, ⟨#[32, 65, 112, 114, 32, 53]⟩, ⟨#[32, 79, 99, 116, 32, 108, 97, 115, 116, 83, 117, 110, 32, 50, 58, 48, 48]⟩, ⟨#[32, 74, 97, 110, 32, 49, 32, 48, 58, 48, 48, 117]⟩, ⟨#[32, 74, 117, 110, 32, 49, 32, 49, 58, 48, 48, 115]⟩] _ (by decide)) (by have := S4.lt; omega) (by omega) (by omega)).mono ?_
    rintro e w5 ⟨s5, rfl, z5, S5, g5⟩
    have G5 := G4.trans (gtrans_alloc g5)
    go_wp2
    go_ret
    exact ⟨_, rfl, by simp only [ByteArray.size_append, sz1, szn]; omega, S5, G5⟩
end Go.Proofs.Ytcelbkmnbjcjhaa
namespace Go.Proofs.Ytcelbkmnbjcjhaa
open Go.RowKit

theorem StrRow.grown {w w' : World} {b n K p : Nat} (h : StrRow w b n K) (hg : w.grownBy w' (some p)) (hne : b ≠ p) : StrRow w' b n K := fun i hi => by
  obtain ⟨s, hs, hz⟩ := h i hi
  exact ⟨s, hg.cell hs (by simp; omega), hz⟩
theorem szZ : ByteArray.size ⟨#[90, 111, 110, 101, 32]⟩ = 5 := rfl
theorem szL : ByteArray.size ⟨#[76, 105, 110, 107, 32, 69, 117, 47, 65, 32, 65, 108, 105, 97, 115, 10]⟩ = 16 := rfl
set_option maxRecDepth 20000 in
set_option maxHeartbeats 4000000 in
theorem src_text (p : Nat) (a : Option Addr) (len cap : Nat) (zs : List Int) (w : World) (hS : SrcAt p a len cap zs w) :
    Calls Try.prog 45 #[.pointer (some ⟨p, 0, none⟩)] w fun e w' => ∃ s : ByteArray, e = .returned (.string s) ∧ s.size ≤ 50000 ∧ SrcAt p a len cap zs w' ∧ w.grownBy w' (some p) := by
  go_enter Try.func45, Try.ntmps45
  go_wp2_with fail
  refine (src_one p a len cap zs 3 _ hS (by omega) (by omega)).mono ?_
  rintro e w1 ⟨v1, rfl, S1, G1⟩
  cases v1
  all_goals
    go_wp2_with fail
    refine (src_n p a len cap zs 4 _ S1 (by omega) (by omega)).mono ?_
    rintro e w2 ⟨k2, rfl, l2, u2, S2, g2⟩
    have G2 := G1.trans g2
    go_wp2
    go_loopw [3, 4] (fun s3 s4 wr => ∃ (t : ByteArray) (k : Nat), s3 = .string t ∧ s4 = .int .i64 k ∧ k ≤ 3 ∧ t.size + 2000 * k ≤ 10000 ∧ SrcAt p a len cap zs wr ∧ w.grownBy wr (some p)) (fun _ s4 _ => (intOf s4).toNat)
    case atStart =>
      obtain ⟨m, rfl⟩ := Int.eq_ofNat_of_zero_le l2
      refine ⟨_, m, rfl, rfl, by omega, ?_, S2, G2⟩
      have h : ∀ t : ByteArray, t.size ≤ 300 → t.size + 2000 * m ≤ 10000 := fun t h => by omega
      exact h _ (by decide)
    case round =>
      obtain ⟨wa, hwa⟩ : ∃ x : World, x = wr := ⟨_, rfl⟩
      subst hwa
      obtain ⟨t, k, rfl, rfl, hk, ht, S3, G3⟩ := hrel
      by_cases hk0 : k = 0
      · subst hk0
        have hk1 : ¬ (0 : Int) < ((0 : Nat) : Int) := by omega
        have hR4 : StrRow (wa.alloc (.cells (([⟨#[69, 117, 47, 65]⟩, ⟨#[69, 117, 47, 66]⟩, ⟨#[85, 83, 47, 67]⟩] : List ByteArray).map Value.string).toArray 9)) wa.heap.size 3 100 := str_row wa _ _ (by decide)
        have S4 := S3.alloc (.cells (([⟨#[69, 117, 47, 65]⟩, ⟨#[69, 117, 47, 66]⟩, ⟨#[85, 83, 47, 67]⟩] : List ByteArray).map Value.string).toArray 9)
        have G4 := G3.trans (World.grownBy_alloc wa (.cells (([⟨#[69, 117, 47, 65]⟩, ⟨#[69, 117, 47, 66]⟩, ⟨#[85, 83, 47, 67]⟩] : List ByteArray).map Value.string).toArray 9) (some p))
        have hpn : wa.heap.size ≠ p := by have := S3.lt; omega
        obtain ⟨bn, hbn⟩ : ∃ n, wa.heap.size = n := ⟨_, rfl⟩
        rw [hbn] at hR4 hpn
        have ht1 : t.size ≤ 10000 := by omega
        go_wp2
        clear hbn
        go_loopw [3, 6] (fun s3 s6 wr => ∃ (t : ByteArray) (i : Nat), s3 = .string t ∧ s6 = .int .i64 i ∧ i ≤ 3 ∧ t.size ≤ 10000 + 10000 * i ∧ StrRow wr bn 3 100 ∧ SrcAt p a len cap zs wr ∧ w.grownBy wr (some p)) (fun _ s6 _ => 3 - (intOf s6).toNat)
        case atStart => exact ⟨t, 0, rfl, rfl, by omega, by omega, hR4, S4, G4⟩
        case round =>
          obtain ⟨wb, hwb⟩ : ∃ x : World, x = wr := ⟨_, rfl⟩
          subst hwb
          obtain ⟨t, i, rfl, rfl, hi, ht, R5, S5, G5⟩ := hrel
          go_wp2_with fail
          refine (src_n p a len cap zs 3 _ S5 (by omega) (by omega)).mono ?_
          rintro e w6 ⟨n6, rfl, l6, u6, S6, g6⟩
          have G6 := G5.trans g6
          have R6 := R5.grown g6 hpn
          have q6 : IntKind.i64.wrap (1 + n6) = 1 + n6 := by rw [IntKind.wrap_i64]; omega
          by_cases hlt : (i : Int) < 1 + n6
          · obtain ⟨s, hs, hz⟩ := R6 i (by omega)
            have hi3 : (i : Int) < 3 := by omega
            go_wp2_with fail
            refine (src_n p a len cap zs 3 _ S6 (by omega) (by omega)).mono ?_
            rintro e w7 ⟨k7, rfl, l7, u7, S7, g7⟩
            have G7 := G6.trans g7
            have R7 := R6.grown g7 hpn
            go_wp2
            go_loopw [3, 7, 8] (fun s3 s7 s8 wr => ∃ (t2 : ByteArray) (y k : Nat), s3 = .string t2 ∧ s7 = .int .i64 y ∧ s8 = .int .i64 k ∧ k ≤ 2 ∧ y + 40 * k ≤ 2100 ∧ t2.size + 2000 * k ≤ t.size + 5000 ∧ StrRow wr bn 3 100 ∧ SrcAt p a len cap zs wr ∧ w.grownBy wr (some p)) (fun _ _ s8 _ => (intOf s8).toNat)
            case atStart =>
              obtain ⟨m, rfl⟩ := Int.eq_ofNat_of_zero_le l7
              exact ⟨_, 1930, m, rfl, rfl, rfl, by omega, by omega, by simp only [ByteArray.size_append, szZ, sz1]; omega, R7, S7, G7⟩
            case round =>
              obtain ⟨wc, hwc⟩ : ∃ x : World, x = wr := ⟨_, rfl⟩
              subst hwc
              obtain ⟨t2, y, k, rfl, rfl, rfl, hk, hy, ht2, R8, S8, G8⟩ := hrel
              by_cases hk0 : k = 0
              · subst hk0
                have hk1 : ¬ (0 : Int) < ((0 : Nat) : Int) := by omega
                go_wp2_with fail
                refine (src_eraLine p a len cap zs true 0 _ S8 (by omega) (by omega)).mono ?_
                rintro e w9 ⟨s9, rfl, z9, S9, g9⟩
                have G9 := G8.trans g9
                have R9 := R8.grown g9 hpn
                go_wp2
                go_roundw
                case rel => exact ⟨_, i + 1, rfl, by go_num, by omega, by simp only [ByteArray.size_append]; omega, R9, S9, G9⟩
                case measure => simp [intOf]; omega
              · have hk1 : (0 : Int) < (k : Int) := by omega
                go_wp2_with fail
                refine (src_n p a len cap zs 35 _ S8 (by omega) (by omega)).mono ?_
                rintro e w9 ⟨n9, rfl, l9, u9, S9, g9⟩
                have G9 := G8.trans g9
                have R9 := R8.grown g9 hpn
                have q9 : IntKind.i64.wrap ((y : Int) + 1) = (y : Int) + 1 := by rw [IntKind.wrap_i64]; omega
                have q8 : IntKind.i64.wrap ((y : Int) + 1 + n9) = (y : Int) + 1 + n9 := by rw [IntKind.wrap_i64]; omega
                go_wp2_with fail
                refine (src_eraLine p a len cap zs false ((y : Int) + 1 + n9) _ S9 (by omega) (by omega)).mono ?_
                rintro e w10 ⟨s10, rfl, z10, S10, g10⟩
                have G10 := G9.trans g10
                have R10 := R9.grown g10 hpn
                obtain ⟨m, rfl⟩ := Int.eq_ofNat_of_zero_le l9
                go_wp2
                go_roundw
                case rel => exact ⟨_, y + 1 + m, k - 1, rfl, by go_num, by go_num, by omega, by omega, by simp only [ByteArray.size_append]; omega, R10, S10, G10⟩
                case measure => simp [intOf]; omega
          · go_wp2_with fail
            refine (src_one p a len cap zs 2 _ S6 (by omega) (by omega)).mono ?_
            rintro e w7 ⟨v7, rfl, S7, g7⟩
            have G7 := G6.trans g7
            cases v7
            · go_wp2
              go_ret
              exact ⟨_, rfl, by omega, S7, G7⟩
            · go_wp2
              go_ret
              exact ⟨_, rfl, by simp only [ByteArray.size_append, szL]; omega, S7, G7⟩
      · have hk1 : (0 : Int) < (k : Int) := by omega
        go_wp2_with fail
        refine (src_pick p a len cap zs wa.heap.size 2 100 _ (S3.alloc _) (str_row wa [⟨#[69, 117]⟩, ⟨#[85, 83]⟩] _ (by decide)) (by have := S3.lt; omega) (by omega) (by omega)).mono ?_
        rintro e w4 ⟨s4, rfl, z4, S4, g4⟩
        have G4 := G3.trans (gtrans_alloc g4)
        go_wp2_with fail
        refine (src_ruleLine p a len cap zs s4 _ S4 z4).mono ?_
        rintro e w5 ⟨s5, rfl, z5, S5, g5⟩
        have G5 := G4.trans g5
        go_wp2
        go_roundw
        case rel => exact ⟨_, k - 1, rfl, by go_num, by omega, by simp only [ByteArray.size_append]; omega, S5, G5⟩
        case measure => simp [intOf]; omega
end Go.Proofs.Ytcelbkmnbjcjhaa
