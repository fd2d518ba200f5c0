/- Draws of days' texts. -/
import Derived.Test.YtibhbpgnjikjnaaDoorDraws2
import Derived.Deep.RegionHeld3
namespace Go.Proofs.YtibhbpgnjikjnaaDoor
open Go.RowKit

/-- a row of texts, none longer than 100 bytes. -/
def TxtRow (w : World) (b n : Nat) : Prop := ∀ i, i < n → ∃ s : ByteArray, w.cell? ⟨b, i, none⟩ = some (.string s) ∧ s.size ≤ 100
set_option maxHeartbeats 400000 in
theorem src_pickT (p : Nat) (a : Option Addr) (len cap : Nat) (zs : List Int) (b n : Nat) (w : World) (hS : SrcAt p a len cap zs w) (hR : TxtRow w b n) (hbp : b ≠ p) (h1 : 1 ≤ n) (h2 : n ≤ 1000) :
    Calls Tryd.prog 80 #[.pointer (some ⟨p, 0, none⟩), .slice (some ⟨b, 0, none⟩) n n] w fun e w' => ∃ s : ByteArray, e = .returned (.string s) ∧ s.size ≤ 100 ∧ SrcAt p a len cap zs w' ∧ w.grownBy w' (some p) := by
  go_enter Tryd.func80, Tryd.ntmps80
  go_wp2_with fail
  refine (src_n p a len cap zs n _ hS (by omega) (by omega)).mono ?_
  rintro e w1 ⟨v, rfl, v0, v1, hS1, hg⟩
  obtain ⟨s, hs, hz⟩ := hR v.toNat (by omega)
  have hx := hg.cell hs (by simp; omega)
  go_wp2
  go_ret
  exact ⟨_, rfl, hz, hS1, hg⟩
theorem txt_row (w : World) (l : List ByteArray) (T : TypeId) (hl : ∀ s ∈ l, s.size ≤ 100) : TxtRow (w.alloc (.cells (l.map Value.string).toArray T)) w.heap.size l.length := fun i hi =>
  ⟨l[i], by simp [hi], hl _ (List.getElem_mem hi)⟩
set_option maxHeartbeats 1000000 in
theorem src_onText (p : Nat) (a : Option Addr) (len cap : Nat) (zs : List Int) (w : World) (hS : SrcAt p a len cap zs w) :
    Calls Tryd.prog 59 #[.pointer (some ⟨p, 0, none⟩)] w fun e w' => ∃ s : ByteArray, e = .returned (.string s) ∧ s.size ≤ 100 ∧ SrcAt p a len cap zs w' ∧ w.grownBy w' (some p) := by
  go_enter Tryd.func59, Tryd.ntmps59
  go_wp2_with fail
  refine (src_one p a len cap zs 10 _ hS (by omega) (by omega)).mono ?_
  rintro e w1 ⟨v, rfl, hS1, hg1⟩
  cases v
  · go_wp2_with fail
    refine (src_pickT p a len cap zs w1.heap.size 11 _ (hS1.alloc _) (txt_row w1 [⟨#[49]⟩, ⟨#[49, 53]⟩, ⟨#[51, 49]⟩, ⟨#[50, 57]⟩, ⟨#[108, 97, 115, 116, 83, 117, 110]⟩, ⟨#[108, 97, 115, 116, 70, 114, 105]⟩, ⟨#[83, 117, 110, 62, 61, 56]⟩, ⟨#[83, 117, 110, 62, 61, 49]⟩, ⟨#[77, 111, 110, 60, 61, 55]⟩, ⟨#[83, 97, 116, 62, 61, 50, 57]⟩, ⟨#[83, 117, 110, 60, 61, 49]⟩] _ (by decide)) (by have := hS1.lt; omega) (by omega) (by omega)).mono ?_
    rintro e w2 ⟨s, rfl, hz, hS2, hg2⟩
    go_wp2
    go_ret
    exact ⟨_, rfl, hz, hS2, hg1.trans (gtrans_alloc hg2)⟩
  · go_wp2_with fail
    refine (src_pickT p a len cap zs w1.heap.size 12 _ (hS1.alloc _) (txt_row w1 [⟨#[]⟩, ⟨#[48]⟩, ⟨#[51, 50]⟩, ⟨#[108, 97, 115, 116]⟩, ⟨#[108, 97, 115, 116, 77, 111, 110, 32]⟩, ⟨#[83, 117, 110, 62, 61, 48]⟩, ⟨#[83, 117, 110, 62, 61, 51, 50]⟩, ⟨#[88, 120, 120, 62, 61, 49]⟩, ⟨#[83, 117, 110, 61, 62, 49]⟩, ⟨#[108, 97, 115, 116, 115, 117, 110]⟩, ⟨#[48, 48, 55]⟩, ⟨#[83, 117, 110, 62, 61]⟩] _ (by decide)) (by have := hS1.lt; omega) (by omega) (by omega)).mono ?_
    rintro e w2 ⟨s, rfl, hz, hS2, hg2⟩
    go_wp2
    go_ret
    exact ⟨_, rfl, hz, hS2, hg1.trans (gtrans_alloc hg2)⟩
theorem SrcAt.drew1 {p : Nat} {a : Option Addr} {len cap : Nat} {zs : List Int} {w : World} (h : SrcAt p a len cap zs w) : SrcAt p a len cap zs w.drew := h.grown (below_drewN (Below.refl _ _) 1)
theorem grown_to {w0 w1 w2 : World} {p : Nat} (hb : Below p w0 w1) (hg : w1.grownBy w2 (some p)) (hp : p ≤ w1.heap.size) : Below p w0 w2 := hb.grown hg hp (fun k hk => by injection hk with hk; omega)
set_option maxHeartbeats 2000000 in
theorem draw_DayOn (a : Option Addr) (len cap : Nat) (w : World) (h : RowOf w a len) (hl : len ≤ 1048576) :
    Calls Tryd.prog 26 #[.slice a len cap] w fun e w' => ∃ (x y : Int) (s : ByteArray), e = .returned (.tuple #[.int .i64 x, .int .i64 y, .string s]) ∧ s.size ≤ 100 ∧ Below w.heap.size w w' := by
  go_enter Tryd.func26, Tryd.ntmps26
  go_wp2_with fail
  refine (src_source a len cap _ h hl).mono ?_
  rintro e w0 ⟨rfl, hS, hb⟩
  go_wp2_with fail
  refine (src_some _ a len cap [] _ hS).mono ?_
  rintro e w1 ⟨x, y, z, rfl, hS1, hg1⟩
  have hB1 := grown_to hb hg1 hb.size
  have hne : w1.heap.size ≠ w.heap.size := by have := hS1.lt; omega
  go_wp2_with fail
  go_region_held3 (fun w' => w'.cell? ⟨w1.heap.size, 0, none⟩ = some (.int .i64 x) ∧ w'.cell? ⟨w1.heap.size, 1, none⟩ = some (.int .i64 y)) (go_keep) ((go_at_call 59; refine (src_onText _ a len cap [] _ ?_).mono ?_; (exact (hS1.alloc _).drew1); rintro e w2 ⟨s, rfl, hz, hS2, hg2⟩; obtain ⟨gc, gf⟩ := gcell hg2; have c0 := gc w1.heap.size 0 (by simp) hne; have c1 := gc w1.heap.size 1 (by simp) hne))
  all_goals
    go_wp2
    exact bodyPost_ret (v := .tuple #[.int .i64 x, .int .i64 y, .string s]) (by simp [results, Tryd.results26, go_sem]) rfl ⟨x, y, s, rfl, hz, grown_to (below_drewN (hB1.alloc hB1.size _) 1) hg2 (by simp; have := hB1.size; omega)⟩
end Go.Proofs.YtibhbpgnjikjnaaDoor
