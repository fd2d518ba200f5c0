/- Where two tables differ: the model's, of any tables; spans of one's own, numbered. -/
import Derived.Test.YtjfonbnmdcpepaaDf5
import Derived.Test.YtjfonbnmdcpepaaDf7
import Derived.Test.YtjfonbnmdcpepaaMarkSpan
namespace Go.Proofs.Ytjfonbnmdcpepaa
open Go.RowKit

theorem OwnsS.seq {w : World} {base : Nat} {v : Value} {P : List SpanD} (h : OwnsS w base v P) : ∃ a cap, v = .slice a P.length cap ∧ SeqAt w a 2 (P.map SpanD.cs) := by
  obtain ⟨a, cap, h1, h2, h3⟩ := seq_of_owns (rows := P.map SpanD.cs) (by rw [List.length_map]; exact h) span_len
  rw [List.length_map] at h1 h3
  exact ⟨a, cap, h1, h2⟩
set_option maxRecDepth 20000 in
set_option maxHeartbeats 2000000 in
theorem spec_Diff (la lb : List TurnD) (va vb : Value) (w : World) (hva : TabAt w va la) (hvb : TabAt w vb lb) (oka : ∀ r ∈ la, r.ok) (okb : ∀ r ∈ lb, r.ok) :
    Calls Try.prog 23 #[va, vb] w fun e W' => ∃ v', e = .returned v' ∧ OwnsS W' w.heap.size v' (diffD la lb) ∧ Below w.heap.size w W' := by
  obtain ⟨a, cap, rfl, hA⟩ := hva
  obtain ⟨b, capb, rfl, hAb⟩ := hvb
  have hva : TabAt w (.agg #[.slice a la.length cap]) la := ⟨a, cap, rfl, hA⟩
  have hvb : TabAt w (.agg #[.slice b lb.length capb]) lb := ⟨b, capb, rfl, hAb⟩
  clear hA hAb
  have hB0 := fun o o2 => ((Below.refl w.heap.size w).alloc (Nat.le_refl _) o).alloc (by simp) o2
  have hRa := fun w (h : TabAt w (.agg #[.slice a la.length cap]) la) => spec_TableRight la _ w h oka
  have hRb := fun w (h : TabAt w (.agg #[.slice b lb.length capb]) lb) => spec_TableRight lb _ w h okb
  have KEEP : ∀ w1, Below ((w.alloc (.cells #[.slice a la.length cap] 25)).alloc (.cells #[.slice b lb.length capb] 25)).heap.size ((w.alloc (.cells #[.slice a la.length cap] 25)).alloc (.cells #[.slice b lb.length capb] 25)) w1 →
      w1.cell? ⟨w.heap.size, 0, none⟩ = some (.slice a la.length cap) ∧ w1.cell? ⟨w.heap.size + 1, 0, none⟩ = some (.slice b lb.length capb) ∧ Below w.heap.size w w1 := fun w1 hb1 => by
    obtain ⟨hc1, hf1⟩ := bcell hb1
    exact ⟨(hc1 _ _ (by simp; omega)).trans (by simp [go_sem]), (hc1 _ _ (by simp)).trans (by simp [go_sem]), (hB0 _ _).trans (hb1.mono (by simp; omega))⟩
  have hE : ∀ w1 : World, w.heap.size ≤ w1.heap.size → OwnsS (w1.alloc (.cells #[] 86)) w.heap.size (.slice (some ⟨w1.heap.size, 0, none⟩) 0 0) [] := fun w1 h => ⟨rfl, .inr ⟨w1.heap.size, 0, #[], rfl, h, World.alloc_heap_new w1 _, Nat.le_refl _, by unfold maxLen; omega, rfl, rfl⟩⟩
  cases ha : tabB la
  · rw [diff_no1 ha]
    rw [ha] at hRa
    go_enter Try.func23, Try.ntmps23
    go_wp2_with fail
    refine (hRa _ (hva.below (hB0 _ _))).mono ?_
    rintro e w1 ⟨rfl, hb1⟩
    have hB1 := (KEEP w1 hb1).2.2
    go_wp2
    go_ret
    exact ⟨_, rfl, hE w1 hB1.size, hB1.alloc hB1.size _⟩
  rw [ha] at hRa
  cases hb : tabB lb
  · rw [diff_no2 hb]
    rw [hb] at hRb
    go_enter Try.func23, Try.ntmps23
    go_wp2_with fail
    refine (hRa _ (hva.below (hB0 _ _))).mono ?_
    rintro e w1 ⟨rfl, hb1⟩
    obtain ⟨c0, c1, hB1⟩ := KEEP w1 hb1
    go_wp2_with fail
    refine (hRb _ (hvb.below hB1)).mono ?_
    rintro e w2 ⟨rfl, hb2⟩
    have hB2 := hB1.trans (hb2.mono hB1.size)
    go_wp2
    go_ret
    exact ⟨_, rfl, hE w2 hB2.size, hB2.alloc hB2.size _⟩
  rw [hb] at hRb
  rw [diff_yes ha hb]
  have hP := fun w h1 h2 => spec_l05Diff la lb (.agg #[.slice a la.length cap]) (.agg #[.slice b lb.length capb]) w h1 h2 (tab_of ha) (tab_of hb)
  clear ha hb
  generalize diffR la lb = D at *
  go_enter Try.func23, Try.ntmps23
  go_wp2_with fail
  refine (hRa _ (hva.below (hB0 _ _))).mono ?_
  rintro e w1 ⟨rfl, hb1⟩
  obtain ⟨c0, c1, hB1⟩ := KEEP w1 hb1
  clear KEEP hb1
  go_wp2_with fail
  refine (hRb _ (hvb.below hB1)).mono ?_
  rintro e w2 ⟨rfl, hb2⟩
  have hB2 := hB1.trans (hb2.mono hB1.size)
  have d0 := keepC hb2 c0
  have d1 := keepC hb2 c1
  clear hb2 c0 c1 hB1 hRa hRb hE
  go_wp2_with fail
  refine (hP _ (hva.below hB2) (hvb.below hB2)).mono ?_
  rintro e w3 ⟨v3, rfl, hO3, hb3⟩
  have hB3 := hB2.trans (hb3.mono hB2.size)
  have HO : Hid (OwnsS w3 w.heap.size v3 D) := owns_mono hO3 hB2.size
  clear hO3 hb3
  go_wp2
  go_ret
  exact ⟨_, rfl, HO.out, hB3⟩
/-- a list of no spans, numbered. -/
theorem laws_markSpan0 (a : Option Addr) (cap k : Nat) (w : World) : Calls Try.prog 29 #[.slice a 0 cap, .int .i64 k] w fun e w' => e = .returned (.int .i64 k) ∧ w' = w := by
  go_enter Try.func29, Try.ntmps29
  go_wp2
  go_loopw [1, 5] (fun s t wr => t = .int .i64 0 ∧ s = .int .i64 k ∧ wr = w) (fun _ _ _ => 0)
  case atStart => exact ⟨rfl, rfl, rfl⟩
  case round =>
    obtain ⟨rfl, rfl, hw⟩ := hrel
    have hw := hw.symm
    subst hw
    go_wp2
    go_ret
    exact ⟨rfl, rfl⟩
/-- spans of one's own, numbered. -/
theorem mark_spans (X : List SpanD) (v : Value) (base k : Nat) (w : World) (h : OwnsS w base v X) (h0 : 0 < k) (h1 : k + 2 * X.length < 1000000000) :
    Calls Try.prog 29 #[v, .int .i64 k] w fun e w' => e = .returned (.int .i64 ((k + 2 * X.length : Nat) : Int)) ∧ (∃ a cap, v = .slice a X.length cap ∧ SeqAt w' a 2 (mksSpan k X.length)) ∧ Touch (fun b => v.ownBlock = some b) w w' := by
  rcases h.2 with ⟨hv, hn⟩ | ⟨g, cap, cur, hv, _⟩
  · subst hv
    rw [hn]
    refine (laws_markSpan0 none 0 k w).mono ?_
    rintro e w' ⟨rfl, rfl⟩
    exact ⟨rfl, ⟨_, _, rfl, .inl rfl⟩, Touch.refl _ _⟩
  · subst hv
    refine (laws_markSpanS X.length g cap k w (room_of_owns h) h0 h1).mono ?_
    rintro e w' ⟨rfl, hS, _, ht⟩
    exact ⟨rfl, ⟨_, _, rfl, hS⟩, ht.mono fun b _ hb => by rw [hb.1]; rfl⟩
theorem SeqAt.touchA {S : Nat → Prop} {w w' : World} {a : Option Addr} {n cap k : Nat} {rows : List (List Value)} (h : SeqAt w a k rows) (ht : Touch S w w') (hs : ∀ g, (Value.slice a n cap).ownBlock = some g → ¬ S g) : SeqAt w' a k rows := by
  rcases h with h | ⟨b, o, rfl, h⟩
  · exact .inl h
  · exact .inr ⟨b, o, rfl, fun i j r c hi hj => ht.cell (hs b rfl) (h i j r c hi hj)⟩
end Go.Proofs.Ytjfonbnmdcpepaa
