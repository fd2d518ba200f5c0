/- Draws of times, offsets and texts. -/
import Derived.Test.YtibhbpgnjikjnaaDoorDraws
import Derived.Test.YtibhbpgnjikjnaaDoorTimeText
import Derived.Test.YtibhbpgnjikjnaaDoorOffText
namespace Go.Proofs.YtibhbpgnjikjnaaDoor
open Go.RowKit

set_option maxHeartbeats 1000000 in
theorem src_instant (p : Nat) (a : Option Addr) (len cap : Nat) (zs : List Int) (w : World) (hS : SrcAt p a len cap zs w) :
    Calls Tryd.prog 62 #[.pointer (some ⟨p, 0, none⟩)] w fun e w' => ∃ v : Int, e = .returned (.int .i64 v) ∧ SrcAt p a len cap zs w' ∧ w.grownBy w' (some p) := by
  go_enter Tryd.func62, Tryd.ntmps62
  go_wp2_with fail
  refine (src_one p a len cap zs 8 _ hS (by omega) (by omega)).mono ?_
  rintro e w1 ⟨v, rfl, hS1, hg1⟩
  cases v
  · go_wp2_with fail
    refine (src_n p a len cap zs 4000000000 _ hS1 (by omega) (by omega)).mono ?_
    rintro e w2 ⟨v, rfl, v0, v1, hS2, hg2⟩
    go_wp2
    go_ret
    exact ⟨_, rfl, hS2, hg1.trans hg2⟩
  · go_wp2_with fail
    refine (src_edge p a len cap zs _ hS1).mono ?_
    rintro e w2 ⟨u, rfl, hS2, hg2⟩
    go_wp2_with fail
    refine (src_n p a len cap zs 7 _ (hS2.alloc _) (by omega) (by omega)).mono ?_
    rintro e w3 ⟨v, rfl, v0, v1, hS3, hg3⟩
    obtain ⟨x, hx⟩ := pick_after [-62135596800, -62135596801, 253402300799, 253402300800, 0, -1, u] hS2.lt hg3 v0 (by simpa using v1)
    have hG := gtrans_alloc hg3
    clear hg3
    go_wp2
    go_ret
    exact ⟨_, rfl, hS3, hg1.trans (hg2.trans hG)⟩
set_option maxHeartbeats 400000 in
theorem draw_TimeText (a : Option Addr) (len cap : Nat) (w : World) (h : RowOf w a len) (hl : len ≤ 1048576) :
    Calls Tryd.prog 29 #[.slice a len cap] w fun e w' => ∃ n : Int, e = .returned (.int .i64 n) ∧ Below w.heap.size w w' := by
  go_enter Tryd.func29, Tryd.ntmps29
  go_wp2_with fail
  refine (src_source a len cap _ h hl).mono ?_
  rintro e w1 ⟨rfl, hS, hb⟩
  go_wp2_with fail
  refine (src_instant _ a len cap [] _ hS).mono ?_
  rintro e w2 ⟨n, rfl, hS2, hg⟩
  go_wp2
  go_ret
  exact ⟨_, rfl, hb.grown hg hb.size (fun k hk => by injection hk with hk; omega)⟩
theorem below_src {w w1 w2 : World} (hb : Below w.heap.size w w1) (hg : w1.grownBy w2 (some w.heap.size)) : Below w.heap.size w w2 :=
  hb.grown hg hb.size (fun k hk => by injection hk with hk; omega)
set_option maxHeartbeats 1000000 in
theorem draw_OffsetText (a : Option Addr) (len cap : Nat) (w : World) (h : RowOf w a len) (hl : len ≤ 1048576) :
    Calls Tryd.prog 31 #[.slice a len cap] w fun e w' => ∃ n : Int, e = .returned (.int .i64 n) ∧ Below w.heap.size w w' := by
  go_enter Tryd.func31, Tryd.ntmps31
  go_wp2_with fail
  refine (src_source a len cap _ h hl).mono ?_
  rintro e w0 ⟨rfl, hS, hb⟩
  go_wp2_with fail
  refine (src_one _ a len cap [] 4 _ hS (by omega) (by omega)).mono ?_
  rintro e w1 ⟨v, rfl, hS1, hg1⟩
  cases v
  · go_wp2_with fail
    refine (src_n _ a len cap [] 200000 _ hS1 (by omega) (by omega)).mono ?_
    rintro e w2 ⟨v, rfl, v0, v1, hS2, hg2⟩
    go_wp2
    go_ret
    exact ⟨_, rfl, below_src hb (hg1.trans hg2)⟩
  · go_wp2_with fail
    refine (src_edge _ a len cap [] _ hS1).mono ?_
    rintro e w2 ⟨u, rfl, hS2, hg2⟩
    go_wp2_with fail
    refine (src_n _ a len cap [] 6 _ (hS2.alloc _) (by omega) (by omega)).mono ?_
    rintro e w3 ⟨v, rfl, v0, v1, hS3, hg3⟩
    obtain ⟨x, hx⟩ := pick_after [-604800, 604800, 604801, -1, 59, u] hS2.lt hg3 v0 (by simpa using v1)
    have hG := gtrans_alloc hg3
    clear hg3
    go_wp2
    go_ret
    exact ⟨_, rfl, below_src hb (hg1.trans (hg2.trans hG))⟩
/-- a row of texts, none longer than K. -/
def StrRow (w : World) (b n K : Nat) : Prop := ∀ i, i < n → ∃ s : ByteArray, w.cell? ⟨b, i, none⟩ = some (.string s) ∧ s.size ≤ K
set_option maxHeartbeats 400000 in
theorem src_pick (p : Nat) (a : Option Addr) (len cap : Nat) (zs : List Int) (b n K : Nat) (w : World) (hS : SrcAt p a len cap zs w) (hR : StrRow w b n K) (hbp : b ≠ p) (h1 : 1 ≤ n) (h2 : n ≤ 1000) :
    Calls Tryd.prog 80 #[.pointer (some ⟨p, 0, none⟩), .slice (some ⟨b, 0, none⟩) n n] w fun e w' => ∃ s : ByteArray, e = .returned (.string s) ∧ s.size ≤ K ∧ SrcAt p a len cap zs w' ∧ w.grownBy w' (some p) := by
  go_enter Tryd.func80, Tryd.ntmps80
  go_wp2_with fail
  refine (src_n p a len cap zs n _ hS (by omega) (by omega)).mono ?_
  rintro e w1 ⟨v, rfl, v0, v1, hS1, hg⟩
  obtain ⟨s, hs, hz⟩ := hR v.toNat (by omega)
  have hx := hg.cell hs (by simp; omega)
  go_wp2
  go_ret
  exact ⟨_, rfl, hz, hS1, hg⟩
end Go.Proofs.YtibhbpgnjikjnaaDoor
