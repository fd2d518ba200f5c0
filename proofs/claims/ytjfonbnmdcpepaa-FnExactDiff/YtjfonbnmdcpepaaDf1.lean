/- Rows of structs of one's own; the instants of a table's turns. -/
import Derived.Test.YtjfonbnmdcpepaaDfMath2
import Derived.Test.YtjfonbnmdcpepaaStr7
import Derived.Lib.MinMax
import Derived.Deep.AppendLies
namespace Go.Proofs.Ytjfonbnmdcpepaa
open Go.RowKit

theorem flat_at {q : Nat} : ∀ {rows : List (List Value)}, (∀ r ∈ rows, r.length = q) → ∀ {i j : Nat} {r : List Value} {c : Value}, rows[i]? = some r → r[j]? = some c → rows.flatten[i * q + j]? = some c := by
  intro rows
  induction rows with
  | nil => intro _ i j r c h; simp at h
  | cons x rows ih =>
    intro hq i j r c hi hj
    have hx := hq x (by simp)
    cases i with
    | zero =>
      simp at hi
      subst hi
      rw [List.flatten_cons, Nat.zero_mul, Nat.zero_add, List.getElem?_append_left (List.getElem?_eq_some_iff.mp hj).1]
      exact hj
    | succ i =>
      rw [List.flatten_cons, List.getElem?_append_right (by rw [hx, Nat.add_mul]; omega), hx]
      rw [show (i + 1) * q + j - q = i * q + j by rw [Nat.add_mul]; omega]
      exact ih (fun y hy => hq y (List.mem_cons_of_mem _ hy)) (by simpa using hi) hj
theorem flat_len {q : Nat} : ∀ {rows : List (List Value)}, (∀ r ∈ rows, r.length = q) → rows.flatten.length = rows.length * q := by
  intro rows
  induction rows with
  | nil => intro _; simp
  | cons x rows ih =>
    intro hq
    rw [List.flatten_cons, List.length_append, hq x (by simp), ih fun y hy => hq y (List.mem_cons_of_mem _ hy), List.length_cons, Nat.add_mul]
    omega
/-- a row of structs in memory of one's own. -/
theorem seq_of_owns {w : World} {base : Nat} {e : TypeId} {q : Nat} {v : Value} {rows : List (List Value)} (h : w.ownsRow base e q v rows.length rows.flatten) (hq : ∀ r ∈ rows, r.length = q) : ∃ a cap, v = .slice a rows.length cap ∧ SeqAt w a q rows ∧ rows.length ≤ cap := by
  rcases h.2 with ⟨hv, h0⟩ | ⟨g, cap, cur, hv, hb, hg, hc, _, _, _⟩
  · exact ⟨none, 0, by rw [hv, h0], .inl (List.length_eq_zero_iff.mp h0), by omega⟩
  · refine ⟨_, cap, hv, .inr ⟨g, 0, rfl, fun i j r c hi hj => ?_⟩, hc⟩
    rw [hv] at h
    have hl := flat_at hq hi hj
    have hlt := (List.getElem?_eq_some_iff.mp hl).1
    rw [flat_len hq] at hlt
    rw [Nat.zero_add, h.cellAt _ hlt, hl]
theorem room_of_owns {w : World} {base : Nat} {e : TypeId} {q : Nat} {g n cap : Nat} {xs : List Value} (h : w.ownsRow base e q (.slice (some ⟨g, 0, none⟩) n cap) n xs) : Room w g (n * q) := fun x hx => by
  refine ⟨?_, h.frozenAt x⟩
  have h1 := h.cellAt x hx
  have h2 := h.1
  exact ⟨_, h1.trans (List.getElem?_eq_getElem (by rw [h2]; exact hx))⟩
theorem cells_new (w : World) (cs : List Value) (t : TypeId) : ∀ j u, cs[j]? = some u → (w.alloc (.cells cs.toArray t)).cell? ((⟨w.heap.size, 0, none⟩ : Addr).add j) = some u := fun j u h => World.news_of_block (heap_alloc_new w _) j u (by simpa using h)
set_option maxRecDepth 20000 in
set_option maxHeartbeats 2000000 in
theorem impl_turnInstants (l : List TurnD) (v : Value) (w : World) (hv : TabAt w v l) (hl : l.length ≤ 1048576) :
    Calls Try.prog 85 #[v] w fun e W' => ∃ v', e = .returned v' ∧ W'.ownsRow w.heap.size 2 1 v' (l.map TurnD.at_).length ((l.map TurnD.at_).map (Value.int .i64)) ∧ Below w.heap.size w W' := by
  obtain ⟨i0, hi, hz0, hz1, hz2⟩ := info_parts info64
  obtain ⟨a, cap, rfl, hA⟩ := hv
  go_enter Try.func85, Try.ntmps85
  go_wp2
  go_loopw [3, 9] (fun s3 s9 wr => ∃ k : Nat, k ≤ l.length ∧ s9 = .int .i64 k ∧ wr.ownsRow w.heap.size 2 1 s3 ((l.take k).map TurnD.at_).length (((l.take k).map TurnD.at_).map (Value.int .i64)) ∧ Below w.heap.size w wr) (fun _ s9 _ => l.length - (intOf s9).toNat)
  case atStart => exact ⟨0, by omega, rfl, World.ownsRow_nil _ _ _ _, (Below.refl _ _).alloc (Nat.le_refl _) _⟩
  case round =>
    obtain ⟨k, hk, rfl, hown, hB⟩ := hrel
    by_cases hlt : k < l.length
    · obtain ⟨x, hx⟩ : ∃ x, l[k]? = some x := ⟨_, List.getElem?_eq_getElem hlt⟩
      obtain ⟨b, o, rfl, hc⟩ := (hA.below hB).at (i := k) (r := x.cs) (by rw [List.getElem?_map, hx]; rfl)
      have c0 : wr.cell? ⟨b, o + k * 4, none⟩ = some (.int .i64 x.at_) := hc 0 _ rfl
      have c1 := hc 1 _ rfl
      have c2 := hc 2 _ rfl
      have c3 := hc 3 _ rfl
      clear hc
      have HS : Hid ((l.take (k + 1)).map TurnD.at_ = (l.take k).map TurnD.at_ ++ [x.at_]) := by simp only [Hid]; rw [List.take_add_one, hx, List.map_append]; rfl
      have hsl : ((l.take k).map TurnD.at_).length ≤ 1048576 := by simp; omega
      obtain ⟨L, hL⟩ : ∃ L, (l.take k).map TurnD.at_ = L := ⟨_, rfl⟩
      rw [hL] at hown HS hsl
      clear hL hx
      have hsW := hB.size
      go_wp2_with (first
        | (at_builtin; refine wpList_append_own _ rfl _ _ 36 rfl w.heap.size 2 i0 (.int .i64 0) 1 8 Try.underlying36 hi hz0 hz1 hz2 rfl (by decide) _ _ _ rfl ((hown.alloc _).alloc _) ⟨wr.heap.size + 1, 0, none⟩ 1 1 [.int .i64 x.at_] rfl rfl ?c1 ?c2 ?c3 ?c4 ?c5 ?_)
        | fail)
      case c1 => simpa using cell_one_new (wr.alloc _) (.int .i64 x.at_) _
      case c2 => intro u hu; simp at hu; subst hu; rfl
      case c3 => unfold maxLen; omega
      case c4 => omega
      case c5 => simp; omega
      · intro v' w1 hown' hgrow _
        have hB1 : Below w.heap.size w w1 := ((hB.alloc (by omega) _).alloc (by simp; omega) _).grown hgrow (by simp; omega) (fun j hj => (hown.lt j hj).1)
        have HO : Hid (w1.ownsRow w.heap.size 2 1 v' (L ++ [x.at_]).length ((L ++ [x.at_]).map (Value.int .i64))) := by simpa [Hid] using hown'
        clear hgrow hown' hown
        go_wp2
        go_roundw
        case rel => exact ⟨k + 1, by omega, by go_num, by rw [HS.out]; exact HO.out, hB1⟩
        case measure => simp [intOf]; omega
    · obtain rfl : k = l.length := by omega
      rw [List.take_length] at hown
      go_wp2
      go_ret
      exact ⟨_, rfl, hown, hB⟩
end Go.Proofs.Ytjfonbnmdcpepaa
