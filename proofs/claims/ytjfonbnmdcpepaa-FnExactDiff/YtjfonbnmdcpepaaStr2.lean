/- The stretches of a right table: the iterator's walk. -/
import Derived.Test.YtjfonbnmdcpepaaStr1
namespace Go.Proofs.Ytjfonbnmdcpepaa
open Go.RowKit Go.Shelf
attribute [local go_sem] Oper.semAt_some

theorem abides_alloc {β : Type} {B : Nat} {J : β → World → Prop} (h : AbidesFrom B J) {s : β} {W : World} (hs : J s W) (o : Obj) : J s (W.alloc o) :=
  h s W _ none hs (World.grownBy_alloc W o none) (fun r e => by cases e)
set_option maxRecDepth 100000 in
set_option maxHeartbeats 4000000 in
/-- for every loop's body that keeps what lay below, and the blocks of tables and turns. -/
theorem str1_in (F : Fence) (n : Nat) (h : F.fn 95) (hro : F.round = none) (hn : 1 ≤ n) (q Bs n₀ b o cap : Nat) (l : List TurnD) (hT : TabR l) (hb : b < n₀) (J Jx : List StrK → World → Prop) (W : World) (hJa : AbidesFrom W.heap.size J) (hn₀ : n₀ ≤ W.heap.size)
    (hY : ∀ pre x W, J pre W → pre.length < l.length → YieldAt F (n - 1) Try.prog q #[x.1.v] W fun e W' =>
      (e = .returned (.bool true) ∧ J (pre ++ [x]) W' ∧ KpS n₀ W W') ∨ (e = .returned (.bool false) ∧ Jx (pre ++ [x]) W'))
    (hBs : W.heap[Bs]? = some (.cells #[.slice (some ⟨b, o, none⟩) l.length cap] 25 (0, 0))) (hA : SeqAt W (some ⟨b, o, none⟩) 4 (l.map TurnD.cs)) (h0 : J [] W) :
    CallsIn F n Try.prog 95 #[.func (.yield q) #[] #[], .pointer (some ⟨Bs, 0, none⟩)] W fun e W' => (∃ v, e = .returned v) ∧
      ((∃ ys, ys = uptoS l l.length ∧ J ys W') ∨ (∃ pre, (∃ k, k ≤ l.length ∧ pre = uptoS l k) ∧ Jx pre W')) := by
  have hlen := hT.len
  obtain ⟨f, hf⟩ : ∃ x, l[0]? = some x := ⟨_, List.getElem?_eq_getElem (by omega)⟩
  have cs0 : ∀ (wr : World), wr.heap[Bs]? = some (.cells #[.slice (some ⟨b, o, none⟩) l.length cap] 25 (0, 0)) → wr.cell? ⟨Bs, 0, none⟩ = some (.slice (some ⟨b, o, none⟩) l.length cap) := fun wr h => by simp [World.cell?, h]
  have hcells : ∀ (wr : World), Below n₀ W wr → ∀ (k : Nat) (x : TurnD), l[k]? = some x → wr.cell? ⟨b, o + k * 4, none⟩ = some (.int .i64 x.at_) ∧ wr.cell? ⟨b, o + k * 4 + 1, none⟩ = some (.int .i64 x.offset) ∧ wr.cell? ⟨b, o + k * 4 + 2, none⟩ = some (.int .i64 x.save) ∧ wr.cell? ⟨b, o + k * 4 + 3, none⟩ = some (.string x.abbr) := fun wr hB k x hx => by
    obtain ⟨b', o', he, hc⟩ := hA.at (i := k) (r := x.cs) (by rw [List.getElem?_map, hx]; rfl)
    injection he with he
    injection he with u1 u2
    subst u1 u2
    exact ⟨(hB.cell (p := ⟨b, _, none⟩) hb).trans (hc 0 _ rfl), (hB.cell (p := ⟨b, _, none⟩) hb).trans (hc 1 _ rfl), (hB.cell (p := ⟨b, _, none⟩) hb).trans (hc 2 _ rfl), (hB.cell (p := ⟨b, _, none⟩) hb).trans (hc 3 _ rfl)⟩
  have hf1 : W.cell? ⟨b, o + 1, none⟩ = some (.int .i64 f.offset) := by simpa using (hcells W (Below.refl _ _) 0 f hf).2.1
  have cB := cs0 W hBs
  refine callsIn_of_wp Try.func95 rfl h ?_ hro
  simp only [Try.ntmps95, List.size_toArray, List.length_cons, List.length_nil, Nat.reduceAdd, Nat.reduceSub, Array.replicate_succ, Array.replicate_zero, List.push_toArray, List.append_toArray, List.nil_append, List.cons_append]
  gi_wp2
  clear hf1 cB
  gi_loopw [3, 15] (fun s3 s15 wr => ∃ k : Nat, k ≤ l.length ∧ s15 = .int .i64 k ∧ s3 = .int .i64 (l[k - 1]?.getD zeroT).offset ∧ J (uptoS l k) wr ∧ Below n₀ W wr ∧ wr.heap[Bs]? = some (.cells #[.slice (some ⟨b, o, none⟩) l.length cap] 25 (0, 0)))
    (fun _ s15 _ => l.length - (intOf s15).toNat)
  case atStart => exact ⟨0, Nat.zero_le _, rfl, by rw [hf]; rfl, h0, Below.refl _ _, hBs⟩
  case round =>
    obtain ⟨k, hk, rfl, rfl, hJs, hB, hBr⟩ := hrel
    have cB := cs0 wr hBr
    by_cases hlt : k < l.length
    · obtain ⟨x, hx⟩ : ∃ x, l[k]? = some x := ⟨_, List.getElem?_eq_getElem hlt⟩
      obtain ⟨c0, c1, c2, c3⟩ := hcells wr hB k x hx
      have hnw := hB.size
      have hsz : n₀ ≤ wr.heap.size := by omega
      have hsv := strK_val hT hlt
      have hbk := uptoS_succ l k
      have hJ' := abides_alloc hJa hJs (.cells #[.int .i64 x.at_, .int .i64 x.offset, .int .i64 x.save, .string x.abbr] 32)
      have hyy := hY _ (strK l k) _ hJ' (by rw [uptoS_length]; exact hlt)
      rw [hsv] at hyy
      unfold strAt StrD.v at hyy
      simp only [hx, Option.getD_some] at hyy
      have hH : (wr.alloc (.cells #[.int .i64 x.at_, .int .i64 x.offset, .int .i64 x.save, .string x.abbr] 32)).heap[wr.heap.size]? = some (.cells #[.int .i64 x.at_, .int .i64 x.offset, .int .i64 x.save, .string x.abbr] 32 (0, 0)) := World.alloc_heap_new wr _
      have hBa : Below n₀ W (wr.alloc (.cells #[.int .i64 x.at_, .int .i64 x.offset, .int .i64 x.save, .string x.abbr] 32)) := hB.alloc hsz _
      have hBra := TKeep.alloc wr (.cells #[.int .i64 x.at_, .int .i64 x.offset, .int .i64 x.save, .string x.abbr] 32) Bs 25 _ (.inl rfl) hBr
      have cBa := cs0 _ hBra
      generalize hA0 : (l[k - 1]?.getD zeroT).offset = ah at *
      have HX : Hid ((l[k + 1 - 1]?.getD zeroT).offset = x.offset) := by simp only [Hid]; rw [Nat.add_sub_cancel, hx]; rfl
      by_cases hlt2 : k + 1 < l.length
      · obtain ⟨y, hy⟩ : ∃ y, l[k + 1]? = some y := ⟨_, List.getElem?_eq_getElem hlt2⟩
        have d0 := (hcells _ hBa (k + 1) y hy).1
        have y1 := hT.top _ y hy
        have y2 := at_low hT hy
        simp only [hy] at hyy
        obtain ⟨fn, tmps, assign, body, hy1, hR⟩ := hyy
        clear hA0 hx hy hf hcells hY hsv
        gi_wp2
        refine hR.mono ?_
        rintro e W3 (⟨rfl, hJ3, hk3⟩ | ⟨rfl, hJx3⟩)
        · have hH3 := hk3.2 _ _ _ (.inr rfl) hH
          have g1 : W3.cell? ⟨wr.heap.size, 1, none⟩ = some (.int .i64 x.offset) := by simp [World.cell?, hH3]
          have hB3 := hBa.trans hk3.1
          have hBr3 := hk3.2 _ _ _ (.inl rfl) hBra
          gi_wp2
          go_roundw
          case rel => exact ⟨k + 1, by omega, by go_num, by rw [HX.out], by rw [hbk]; exact hJ3, hB3, hBr3⟩
          case measure => simp [intOf]; omega
        · gi_wp2
          refine bodyPost_ret (results_none rfl _ _ _) rfl ?_
          exact ⟨⟨_, rfl⟩, .inr ⟨_, ⟨k + 1, by omega, hbk.symm⟩, hJx3⟩⟩
      · have hy : l[k + 1]? = none := List.getElem?_eq_none (by omega)
        simp only [hy] at hyy
        obtain ⟨fn, tmps, assign, body, hy1, hR⟩ := hyy
        clear hA0 hx hy hf hcells hY hsv
        gi_wp2
        refine hR.mono ?_
        rintro e W3 (⟨rfl, hJ3, hk3⟩ | ⟨rfl, hJx3⟩)
        · have hH3 := hk3.2 _ _ _ (.inr rfl) hH
          have g1 : W3.cell? ⟨wr.heap.size, 1, none⟩ = some (.int .i64 x.offset) := by simp [World.cell?, hH3]
          have hB3 := hBa.trans hk3.1
          have hBr3 := hk3.2 _ _ _ (.inl rfl) hBra
          gi_wp2
          go_roundw
          case rel => exact ⟨k + 1, by omega, by go_num, by rw [HX.out], by rw [hbk]; exact hJ3, hB3, hBr3⟩
          case measure => simp [intOf]; omega
        · gi_wp2
          refine bodyPost_ret (results_none rfl _ _ _) rfl ?_
          exact ⟨⟨_, rfl⟩, .inr ⟨_, ⟨k + 1, by omega, hbk.symm⟩, hJx3⟩⟩
    · obtain rfl : k = l.length := by omega
      gi_wp2
      go_end0
      exact ⟨⟨_, rfl⟩, .inl ⟨_, rfl, hJs⟩⟩
theorem str_stops (F : Fence) (n : Nat) (h : F.fn 95) (hro : F.round = none) (hn : 1 ≤ n) (Bs n₀ b o cap : Nat) (l : List TurnD) (hT : TabR l) (hb : b < n₀) (w : World) (hn₀ : n₀ ≤ w.heap.size)
    (hc : w.heap[Bs]? = some (.cells #[.slice (some ⟨b, o, none⟩) l.length cap] 25 (0, 0))) (hA : SeqAt w (some ⟨b, o, none⟩) 4 (l.map TurnD.cs)) :
    SeqStopsK F n Try.prog 95 #[.pointer (some ⟨Bs, 0, none⟩)] (fun x : StrK => #[x.1.v]) (KpS n₀) (fun ys => ys = uptoS l l.length) (fun pre => ∃ k, k ≤ l.length ∧ pre = uptoS l k) l.length w := fun q J Jx W hW hJa _ hY h0 =>
  str1_in F n h hro hn q Bs n₀ b o cap l hT hb J Jx W hJa (Nat.le_trans hn₀ hW.size) hY ((hW.block Bs (Array.getElem?_eq_some_iff.1 hc).1).trans hc) (hA.below hW) h0
end Go.Proofs.Ytjfonbnmdcpepaa
