/- Where two tables differ: the program's. -/
import Derived.Test.YtjfonbnmdcpepaaDf4
namespace Go.Proofs.Ytjfonbnmdcpepaa
open Go.RowKit

theorem OwnsP.seq {w : World} {base : Nat} {v : Value} {P : List PieceD} (h : OwnsP w base v P) : ∃ a cap, v = .slice a P.length cap ∧ SeqAt w a 3 (P.map PieceD.cs) ∧ P.length ≤ cap := by
  obtain ⟨a, cap, h1, h2, h3⟩ := seq_of_owns (rows := P.map PieceD.cs) (by rw [List.length_map]; exact h) piece_len
  rw [List.length_map] at h1 h3
  exact ⟨a, cap, h1, h2, h3⟩
set_option maxRecDepth 20000 in
set_option maxHeartbeats 2000000 in
theorem impl_Diff (la lb : List TurnD) (va vb : Value) (w : World) (hva : TabAt w va la) (hvb : TabAt w vb lb) (oka : ∀ r ∈ la, r.ok) (okb : ∀ r ∈ lb, r.ok) (hla : la.length ≤ 1048576) (hlb : lb.length ≤ 1048576) :
    Calls Try.prog 25 #[va, vb] w fun e W' => ∃ v', e = .returned v' ∧ OwnsS W' w.heap.size v' (diffD la lb) ∧ Below w.heap.size w W' := by
  obtain ⟨a, cap, rfl, hA⟩ := hva
  obtain ⟨b, capb, rfl, hAb⟩ := hvb
  have hva : TabAt w (.agg #[.slice a la.length cap]) la := ⟨a, cap, rfl, hA⟩
  have hvb : TabAt w (.agg #[.slice b lb.length capb]) lb := ⟨b, capb, rfl, hAb⟩
  clear hA hAb
  have hB0 := fun o o2 => ((Below.refl w.heap.size w).alloc (Nat.le_refl _) o).alloc (by simp) o2
  have hRa := fun w (h : TabAt w (.agg #[.slice a la.length cap]) la) => impl_TableRight la _ w h oka hla
  have hRb := fun w (h : TabAt w (.agg #[.slice b lb.length capb]) lb) => impl_TableRight lb _ w h okb hlb
  have KEEP : ∀ w1, Below ((w.alloc (.cells #[.slice a la.length cap] 25)).alloc (.cells #[.slice b lb.length capb] 25)).heap.size ((w.alloc (.cells #[.slice a la.length cap] 25)).alloc (.cells #[.slice b lb.length capb] 25)) w1 →
      w1.cell? ⟨w.heap.size, 0, none⟩ = some (.slice a la.length cap) ∧ w1.cell? ⟨w.heap.size + 1, 0, none⟩ = some (.slice b lb.length capb) ∧ Below w.heap.size w w1 := fun w1 hb1 => by
    obtain ⟨hc1, hf1⟩ := bcell hb1
    exact ⟨(hc1 _ _ (by simp; omega)).trans (by simp [go_sem]), (hc1 _ _ (by simp)).trans (by simp [go_sem]), (hB0 _ _).trans (hb1.mono (by simp; omega))⟩
  cases ha : tabB la
  · rw [diff_no1 ha]
    rw [ha] at hRa
    go_enter Try.func25, Try.ntmps25
    go_wp2_with fail
    refine (hRa _ (hva.below (hB0 _ _))).mono ?_
    rintro e w1 ⟨rfl, hb1⟩
    go_wp2
    go_ret
    exact ⟨_, rfl, World.ownsRow_nil _ _ _ _, (KEEP w1 hb1).2.2⟩
  rw [ha] at hRa
  cases hb : tabB lb
  · rw [diff_no2 hb]
    rw [hb] at hRb
    go_enter Try.func25, Try.ntmps25
    go_wp2_with fail
    refine (hRa _ (hva.below (hB0 _ _))).mono ?_
    rintro e w1 ⟨rfl, hb1⟩
    obtain ⟨c0, c1, hB1⟩ := KEEP w1 hb1
    go_wp2_with fail
    refine (hRb _ (hvb.below hB1)).mono ?_
    rintro e w2 ⟨rfl, hb2⟩
    go_wp2
    go_ret
    exact ⟨_, rfl, World.ownsRow_nil _ _ _ _, hB1.trans (hb2.mono hB1.size)⟩
  rw [hb] at hRb
  rw [diff_yes ha hb]
  have hPl : (piecesD la lb (uniT la lb)).length ≤ 1200 := by rw [pieces_len]; exact uniT_len (tab_of ha) (tab_of hb)
  have hP := fun w h1 h2 => impl_piecesOf la lb (.agg #[.slice a la.length cap]) (.agg #[.slice b lb.length capb]) w h1 h2 (tab_of ha) (tab_of hb)
  have HD : Hid (diffR la lb = (foldS (piecesD la lb (uniT la lb))).1) := rfl
  clear ha hb
  generalize diffR la lb = D at *
  generalize piecesD la lb (uniT la lb) = P at *
  have hU := fun a c w h1 h2 => impl_unlikeSpans P a c w h1 h2 hPl
  go_enter Try.func25, Try.ntmps25
  go_wp2_with fail
  refine (hRa _ (hva.below (hB0 _ _))).mono ?_
  rintro e w1 ⟨rfl, hb1⟩
  obtain ⟨c0, c1, hB1⟩ := KEEP w1 hb1
  clear KEEP hb1
  go_wp2_with fail
  refine (hRb _ (hvb.below hB1)).mono ?_
  rintro e w2 ⟨rfl, hb2⟩
  have hB2 := hB1.trans (hb2.mono hB1.size)
  have d0 := keepC hb2 c0
  have d1 := keepC hb2 c1
  clear hb2 c0 c1 hB1 hRa hRb
  go_wp2_with fail
  refine (hP _ (hva.below hB2) (hvb.below hB2)).mono ?_
  rintro e w3 ⟨v3, rfl, hO3, hb3⟩
  have hB3 := hB2.trans (hb3.mono hB2.size)
  obtain ⟨a3, k3, rfl, hS3, hk3⟩ := hO3.seq
  clear hO3 hb3
  go_wp2_with fail
  refine (hU _ _ _ hS3 hk3).mono ?_
  rintro e w4 ⟨v4, rfl, hO4, hb4⟩
  have hB4 := hB3.trans (hb4.mono hB3.size)
  have HO : Hid (OwnsS w4 w.heap.size v4 D) := by simp only [Hid]; rw [HD.out]; exact owns_mono hO4 hB3.size
  clear hO4 hb4
  go_wp2
  go_ret
  exact ⟨_, rfl, HO.out, hB4⟩
end Go.Proofs.Ytjfonbnmdcpepaa
