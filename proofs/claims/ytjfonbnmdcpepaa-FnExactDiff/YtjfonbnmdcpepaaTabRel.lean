/- Tables: how much they hold, copied, held against each other. -/
import Derived.Test.YtjfonbnmdcpepaaRelTurn
namespace Go.Proofs.Ytjfonbnmdcpepaa
open Go.RowKit Go.Sort

/-- a table in memory: a list of turns. -/
def TabAt (w : World) (v : Value) (l : List TurnD) : Prop := ∃ a cap, v = .agg #[.slice a l.length cap] ∧ SeqAt w a 4 (l.map TurnD.cs)
theorem TabAt.below {w w' : World} {v : Value} {l : List TurnD} (h : TabAt w v l) (hb : Below w.heap.size w w') : TabAt w' v l := by
  obtain ⟨a, cap, rfl, hA⟩ := h
  exact ⟨a, cap, rfl, hA.below hb⟩
/-- a table of one's own memory, from a block on. -/
def OwnTab (w : World) (B : Nat) (v : Value) (l : List TurnD) : Prop := ∃ g, v = .agg #[.slice (some ⟨g, 0, none⟩) l.length l.length] ∧ B ≤ g ∧ SeqAt w (some ⟨g, 0, none⟩) 4 (l.map TurnD.cs) ∧ Room w g (l.length * 4)
theorem OwnTab.tab {w : World} {B : Nat} {v : Value} {l : List TurnD} (h : OwnTab w B v l) : TabAt w v l := by
  obtain ⟨g, hv, _, h1, _⟩ := h
  exact ⟨_, _, hv, h1⟩
theorem OwnTab.below {w w' : World} {B : Nat} {v : Value} {l : List TurnD} (h : OwnTab w B v l) (hb : Below w.heap.size w w') : OwnTab w' B v l := by
  obtain ⟨g, hv, hg, h1, h2⟩ := h
  exact ⟨g, hv, hg, h1.below hb, h2.below hb⟩
set_option maxHeartbeats 1000000 in
theorem laws_szTable (l : List TurnD) (v : Value) (n : Int) (w : World) (hv : TabAt w v l) (hl : l.length ≤ maxLen) (hok : ∀ r ∈ l, r.ok) (h0 : 0 ≤ n) (h1 : n ≤ 1048576) :
    Calls Try.prog 22 #[v, .int .i64 n] w fun e w' => e = .returned (.int .i64 (clip (n - (l.length + tsz l)))) ∧ Below w.heap.size w w' := by
  obtain ⟨a, cap, rfl, hA⟩ := hv
  have hE := fun w (h : SeqAt w a 4 (l.map TurnD.cs)) => laws_szTurnS l a cap n w h hok hl h0 h1
  by_cases g2 : n - (l.length + tsz l) < 0
  · have HR : Hid (clip (n - (l.length + tsz l)) = -1) := clip_n (by omega)
    rw [clip_n g2] at hE
    go_enter Try.func22, Try.ntmps22
    go_wp2_with fail
    refine (hE _ (hA.below ((Below.refl _ _).alloc (Nat.le_refl _) _))).mono ?_
    rintro e w1 ⟨rfl, hb⟩
    go_wp2
    go_ret
    exact ⟨ret_int HR.out.symm, ((Below.refl _ _).alloc (Nat.le_refl _) _).trans (hb.mono (by simp))⟩
  · have HR : Hid (clip (n - (l.length + tsz l)) = n - (l.length + tsz l)) := by
      simp only [Hid]; rw [clip_p (by omega)]
    rw [clip_p (by omega)] at hE
    go_enter Try.func22, Try.ntmps22
    go_wp2_with fail
    refine (hE _ (hA.below ((Below.refl _ _).alloc (Nat.le_refl _) _))).mono ?_
    rintro e w1 ⟨rfl, hb⟩
    go_wp2
    go_ret
    exact ⟨ret_int HR.out.symm, ((Below.refl _ _).alloc (Nat.le_refl _) _).trans (hb.mono (by simp))⟩
theorem ne_blk2T {p q i j : Nat} (h : p ≠ q) : (⟨p, i, none⟩ : Addr) ≠ ⟨q, j, none⟩ := fun e => by injection e with e1; exact h e1
theorem SeqAt.keepT {w w' : World} {g k : Nat} {rows : List (List Value)} (h : SeqAt w (some ⟨g, 0, none⟩) k rows) (hc : ∀ x, w'.cell? ⟨g, x, none⟩ = w.cell? ⟨g, x, none⟩) : SeqAt w' (some ⟨g, 0, none⟩) k rows := by
  rcases h with h | ⟨b, o, ha, hh⟩
  · exact .inl h
  · injection ha with ha
    injection ha with h1 h2
    subst h1 h2
    exact .inr ⟨_, _, rfl, fun i j r c hi hj => by rw [hc]; exact hh i j r c hi hj⟩
theorem Room.keepT {w w' : World} {g m : Nat} (h : Room w g m) (hc : ∀ x, w'.cell? ⟨g, x, none⟩ = w.cell? ⟨g, x, none⟩) (hf : ∀ x, w'.frozen? ⟨g, x, none⟩ = w.frozen? ⟨g, x, none⟩) : Room w' g m := fun x hx => by
  obtain ⟨⟨v, hv⟩, hz⟩ := h x hx
  exact ⟨⟨v, by rw [hc]; exact hv⟩, by rw [hf]; exact hz⟩
set_option maxHeartbeats 2000000 in
theorem laws_toTable (l : List TurnD) (v : Value) (w : World) (hv : TabAt w v l) (hl : l.length ≤ 1048576) :
    Calls Try.prog 24 #[v] w fun e w' => ∃ v', e = .returned v' ∧ OwnTab w' w.heap.size v' l ∧ Below w.heap.size w w' := by
  obtain ⟨a, cap, rfl, hA⟩ := hv
  have hR := fun w (h : SeqAt w a 4 (l.map TurnD.cs)) => laws_toTurnS l a cap w h hl
  have hb0 : ∀ o o2 o3, Below w.heap.size w (((w.alloc o).alloc o2).alloc o3) := fun o o2 o3 => (((Below.refl _ _).alloc (Nat.le_refl _) o).alloc (by simp) o2).alloc (by simp; omega) o3
  go_enter Try.func24, Try.ntmps24
  go_wp2_with fail
  refine (hR _ (hA.below (hb0 _ _ _))).mono ?_
  rintro e w1 ⟨rfl, q1, k1, hb1⟩
  obtain ⟨hc1, hf1⟩ := bcell hb1
  have hB1 : Below w.heap.size w w1 := (hb0 _ _ _).trans (hb1.mono (by simp; omega))
  have hz1 : w.heap.size + 3 ≤ w1.heap.size := by have := hb1.size; simp at this; omega
  have o0 : w1.cell? ⟨w.heap.size + 1 + 1, 0, none⟩ = some (.slice none 0 0) := (hc1 _ _ (by simp)).trans (by simp [go_sem])
  have s0 : w1.cell? ⟨w.heap.size + 1, 0, none⟩ = some (.slice none 0 0) := (hc1 _ _ (by simp)).trans (by simp [go_sem])
  have f2 : ∀ i, w1.frozen? ⟨w.heap.size + 1 + 1, i, none⟩ = false := fun i => (hf1 _ _ (by simp)).trans (by simp [go_sem])
  have f1 : ∀ i, w1.frozen? ⟨w.heap.size + 1, i, none⟩ = false := fun i => (hf1 _ _ (by simp)).trans (by simp [go_sem])
  have hsz3 : ∀ o o2 o3, (((w.alloc o).alloc o2).alloc o3).heap.size = w.heap.size + 1 + 1 + 1 := fun _ _ _ => by simp
  simp only [hsz3] at q1 k1
  clear hc1 hf1 hb1 hsz3 hb0 hR
  generalize hg : w.heap.size + 1 + 1 + 1 = g at *
  have f20 := f2 0
  have f10 := f1 0
  clear f1 f2
  have X0 : (w1.setCell ⟨w.heap.size + 1 + 1, 0, none⟩ (.slice (some ⟨g, 0, none⟩) l.length l.length)).cell? ⟨w.heap.size + 1, 0, none⟩ = some (.slice none 0 0) := by rw [World.cell?_setCell_other _ _ _ _ (ne_blk2T (by omega))]; exact s0
  have X1 := World.cell?_setCell_same (w1.setCell ⟨w.heap.size + 1 + 1, 0, none⟩ (.slice (some ⟨g, 0, none⟩) l.length l.length)) _ (.slice (some ⟨g, 0, none⟩) l.length l.length) X0
  have K : ∀ x, ((w1.setCell ⟨w.heap.size + 1 + 1, 0, none⟩ (.slice (some ⟨g, 0, none⟩) l.length l.length)).setCell ⟨w.heap.size + 1, 0, none⟩ (.slice (some ⟨g, 0, none⟩) l.length l.length)).cell? ⟨g, x, none⟩ = w1.cell? ⟨g, x, none⟩ := fun x => by
    rw [World.cell?_setCell_other _ _ _ _ (ne_blk2T (by omega)), World.cell?_setCell_other _ _ _ _ (ne_blk2T (by omega))]
  have K2 : ∀ x, ((w1.setCell ⟨w.heap.size + 1 + 1, 0, none⟩ (.slice (some ⟨g, 0, none⟩) l.length l.length)).setCell ⟨w.heap.size + 1, 0, none⟩ (.slice (some ⟨g, 0, none⟩) l.length l.length)).frozen? ⟨g, x, none⟩ = w1.frozen? ⟨g, x, none⟩ := fun x => by
    rw [World.frozen?_setCell, World.frozen?_setCell]
  have q2 := q1.keepT K
  have k2 := k1.keepT K K2
  clear K K2 q1 k1
  go_wp2
  exact bodyPost_ret (v := .agg #[.slice (some ⟨g, 0, none⟩) l.length l.length]) (by simp [results, Try.results24, go_sem, X1]) rfl ⟨_, rfl, ⟨g, rfl, by omega, q2, k2⟩, (hB1.setCell (show w.heap.size ≤ w.heap.size + 1 + 1 by omega) _).setCell (show w.heap.size ≤ w.heap.size + 1 by omega) _⟩
set_option maxHeartbeats 1000000 in
theorem laws_eqTable (l : List TurnD) (v v2 : Value) (w : World) (hv : TabAt w v l) (hv2 : TabAt w v2 l) (hl : l.length ≤ 1048576) :
    Calls Try.prog 27 #[v, v2] w fun e w' => e = .returned (.bool true) ∧ Below w.heap.size w w' := by
  obtain ⟨a, cap, rfl, hA⟩ := hv
  obtain ⟨a2, cap2, rfl, hA2⟩ := hv2
  have hR := fun w (h : SeqAt w a 4 (l.map TurnD.cs)) (h2 : SeqAt w a2 4 (l.map TurnD.cs)) => laws_eqTurnS l a a2 cap cap2 w h h2 hl
  have hb0 : ∀ o o2, Below w.heap.size w ((w.alloc o).alloc o2) := fun o o2 => ((Below.refl _ _).alloc (Nat.le_refl _) o).alloc (by simp) o2
  go_enter Try.func27, Try.ntmps27
  go_wp2_with fail
  refine (hR _ (hA.below (hb0 _ _)) (hA2.below (hb0 _ _))).mono ?_
  rintro e w1 ⟨rfl, hb1⟩
  go_wp2
  go_ret
  exact ⟨rfl, (hb0 _ _).trans (hb1.mono (by simp; omega))⟩
end Go.Proofs.Ytjfonbnmdcpepaa
