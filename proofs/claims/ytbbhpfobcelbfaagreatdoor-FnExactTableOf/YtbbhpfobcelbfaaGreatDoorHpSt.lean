/- Packed: Hp1 Hp2. -/
import Derived.Test.YtbbhpfobcelbfaaGreatDoorOwn1t
namespace Go.Proofs.YtbbhpfobcelbfaaGreatDoor
open Go.RowKit

structure WallD where
  wall : Int
  place : Nat
def WallD.cs (x : WallD) : List Value := [.int .i64 x.wall, .int .i64 x.place]
theorem wall_len {l : List WallD} : ∀ r ∈ l.map WallD.cs, r.length = 2 := fun r hr => by
  obtain ⟨x, _, rfl⟩ := List.mem_map.mp hr; rfl
def atW (t : Int) (l : List WallD) : List WallD := l.filter fun x => decide (x.wall = t)
theorem atW_append (t : Int) (a b : List WallD) : atW t (a ++ b) = atW t a ++ atW t b := List.filter_append ..
theorem atW_hit {t : Int} {x : WallD} (l : List WallD) (h : x.wall = t) : atW t (x :: l) = x :: atW t l := List.filter_cons_of_pos (by simpa using h)
theorem atW_miss {t : Int} {x : WallD} (l : List WallD) (h : x.wall ≠ t) : atW t (x :: l) = atW t l := List.filter_cons_of_neg (by simpa using h)
theorem atW_none {t : Int} {l : List WallD} (h : ∀ x ∈ l, t < x.wall) : atW t l = [] := by
  unfold atW
  rw [List.filter_eq_nil_iff]
  intro x hx
  have := h x hx
  simp
  omega
def UpW (l : List WallD) : Prop := l.Pairwise fun a b => a.wall ≤ b.wall
/-- s is l, sorted by wall times, those of one as they stand. -/
structure SrtOf (l s : List WallD) : Prop where
  up : UpW s
  at_ : ∀ t, atW t s = atW t l
  len : s.length = l.length
theorem srt_short {l : List WallD} (h : l.length < 2) : SrtOf l l := by
  refine ⟨?_, fun _ => rfl, rfl⟩
  match l, h with
  | [], _ => exact List.Pairwise.nil
  | [x], _ => exact List.pairwise_singleton _ _
def mergeWA (x : WallD) (f : List WallD → List WallD) : List WallD → List WallD
  | [] => x :: f []
  | y :: b => if x.wall ≤ y.wall then x :: f (y :: b) else y :: mergeWA x f b
def mergeW : List WallD → List WallD → List WallD
  | [], b => b
  | x :: a, b => mergeWA x (mergeW a) b
theorem merge_nil (b : List WallD) : mergeW [] b = b := rfl
theorem merge_nil2 (a : List WallD) : mergeW a [] = a := by
  induction a with
  | nil => rfl
  | cons x a ih => rw [mergeW, mergeWA, ih]
theorem merge_left {x y : WallD} {a b : List WallD} (h : x.wall ≤ y.wall) : mergeW (x :: a) (y :: b) = x :: mergeW a (y :: b) := by rw [mergeW, mergeWA, if_pos h]
theorem merge_right {x y : WallD} {a b : List WallD} (h : ¬ x.wall ≤ y.wall) : mergeW (x :: a) (y :: b) = y :: mergeW (x :: a) b := by rw [mergeW, mergeWA, if_neg h, mergeW]
theorem merge_mem : ∀ {n : Nat} {a b : List WallD} {z : WallD}, a.length + b.length ≤ n → (z ∈ mergeW a b ↔ z ∈ a ∨ z ∈ b) := by
  intro n
  induction n with
  | zero =>
    intro a b z h
    obtain rfl : a = [] := List.length_eq_zero_iff.mp (by omega)
    rw [merge_nil]; simp
  | succ n ih =>
    intro a b z h
    match a, b with
    | [], b => rw [merge_nil]; simp
    | x :: a, [] => rw [merge_nil2]; simp
    | x :: a, y :: b =>
      by_cases hc : x.wall ≤ y.wall
      · rw [merge_left hc, List.mem_cons, ih (by simp at h ⊢; omega), List.mem_cons, List.mem_cons]
        constructor
        · rintro (h | h | h)
          · exact .inl (.inl h)
          · exact .inl (.inr h)
          · exact .inr h
        · rintro ((h | h) | h)
          · exact .inl h
          · exact .inr (.inl h)
          · exact .inr (.inr h)
      · rw [merge_right hc, List.mem_cons, ih (by simp at h ⊢; omega), List.mem_cons, List.mem_cons]
        constructor
        · rintro (h | h | h)
          · exact .inr (.inl h)
          · exact .inl h
          · exact .inr (.inr h)
        · rintro (h | h | h)
          · exact .inr (.inl h)
          · exact .inl h
          · exact .inr (.inr h)
theorem merge_srt : ∀ {n : Nat} {a b : List WallD}, a.length + b.length ≤ n → UpW a → UpW b → SrtOf (a ++ b) (mergeW a b) := by
  intro n
  induction n with
  | zero =>
    intro a b h ha hb
    obtain rfl : a = [] := List.length_eq_zero_iff.mp (by omega)
    rw [merge_nil]
    exact ⟨hb, fun _ => rfl, rfl⟩
  | succ n ih =>
    intro a b h ha hb
    match a, b with
    | [], b => rw [merge_nil]; exact ⟨hb, fun _ => rfl, rfl⟩
    | x :: a, [] => rw [merge_nil2, List.append_nil]; exact ⟨ha, fun _ => rfl, rfl⟩
    | x :: a, y :: b =>
      have ha' := List.pairwise_cons.mp ha
      have hb' := List.pairwise_cons.mp hb
      by_cases hc : x.wall ≤ y.wall
      · have := ih (a := a) (b := y :: b) (by simp at h ⊢; omega) ha'.2 hb
        rw [merge_left hc]
        refine ⟨List.pairwise_cons.mpr ⟨fun z hz => ?_, this.up⟩, fun t => ?_, by simp [this.len]⟩
        · rcases (merge_mem (Nat.le_refl _)).mp hz with e | e
          · exact ha'.1 z e
          · rcases List.mem_cons.mp e with e | e
            · subst e; exact hc
            · have := hb'.1 z e; omega
        · rw [List.cons_append]
          by_cases ht : x.wall = t
          · rw [atW_hit _ ht, atW_hit _ ht, this.at_]
          · rw [atW_miss _ ht, atW_miss _ ht, this.at_]
      · have := ih (a := x :: a) (b := b) (by simp at h ⊢; omega) ha hb'.2
        rw [merge_right hc]
        refine ⟨List.pairwise_cons.mpr ⟨fun z hz => ?_, this.up⟩, fun t => ?_, by simp [this.len]; omega⟩
        · rcases (merge_mem (Nat.le_refl _)).mp hz with e | e
          · rcases List.mem_cons.mp e with e | e
            · subst e; omega
            · have := ha'.1 z e; omega
          · exact hb'.1 z e
        · by_cases ht : y.wall = t
          · rw [atW_hit _ ht, this.at_, atW_append, atW_append, atW_hit _ ht, atW_none (l := x :: a)]
            · rfl
            · intro z hz
              rcases List.mem_cons.mp hz with e | e
              · subst e; omega
              · have := ha'.1 z e; omega
          · rw [atW_miss _ ht, this.at_, atW_append, atW_append, atW_miss _ ht]
theorem srt_merge {l1 l2 s1 s2 : List WallD} (h1 : SrtOf l1 s1) (h2 : SrtOf l2 s2) : SrtOf (l1 ++ l2) (mergeW s1 s2) := by
  have h := merge_srt (Nat.le_refl _) h1.up h2.up
  refine ⟨h.up, fun t => ?_, by rw [h.len, List.length_append, List.length_append, h1.len, h2.len]⟩
  rw [h.at_, atW_append, atW_append, h1.at_, h2.at_]
/-- there is but one. -/
theorem srt_one : ∀ {s1 s2 : List WallD}, UpW s1 → UpW s2 → (∀ t, atW t s1 = atW t s2) → s1 = s2 := by
  intro s1
  induction s1 with
  | nil =>
    intro s2 _ _ h
    cases s2 with
    | nil => rfl
    | cons y s2 => have := h y.wall; rw [atW_hit _ rfl] at this; simp [atW] at this
  | cons x s1 ih =>
    intro s2 h1 h2 h
    have h1' := List.pairwise_cons.mp h1
    cases s2 with
    | nil => have := h x.wall; rw [atW_hit _ rfl] at this; simp [atW] at this
    | cons y s2 =>
      have h2' := List.pairwise_cons.mp h2
      have hw : x.wall = y.wall := by
        rcases Int.lt_trichotomy x.wall y.wall with e | e | e
        · have := h x.wall
          rw [atW_hit _ rfl, atW_none (l := y :: s2)] at this
          · cases this
          · intro z hz
            rcases List.mem_cons.mp hz with e2 | e2
            · subst e2; exact e
            · have := h2'.1 z e2; omega
        · exact e
        · have := h y.wall
          rw [atW_hit (x := y) _ rfl, atW_none (l := x :: s1)] at this
          · cases this
          · intro z hz
            rcases List.mem_cons.mp hz with e2 | e2
            · subst e2; exact e
            · have := h1'.1 z e2; omega
      have hxy := h x.wall
      rw [atW_hit _ rfl, atW_hit _ hw.symm] at hxy
      injection hxy with e1 e2
      subst e1
      rw [ih h1'.2 h2'.2 fun t => ?_]
      have := h t
      by_cases ht : x.wall = t
      · rw [atW_hit _ ht, atW_hit _ ht] at this
        injection this
      · rw [atW_miss _ ht, atW_miss _ ht] at this
        exact this
end Go.Proofs.YtbbhpfobcelbfaaGreatDoor
namespace Go.Proofs.YtbbhpfobcelbfaaGreatDoor
open Go.RowKit

theorem infoWall : (Tryz.prog.info? 143).map (fun i => (i.zero, i.size, i.bytes)) = some (some (.agg #[.int .i64 0, .int .i64 0]), 2, 16) := by kernel_rfl
def OwnsW (w : World) (base : Nat) (v : Value) (P : List WallD) : Prop := w.ownsRow base 143 2 v P.length (P.map WallD.cs).flatten
theorem OwnsW.add {w : World} {base : Nat} {v : Value} {P : List WallD} {p : WallD} (h : w.ownsRow base 143 2 v (P.length + 1) ((P.map WallD.cs).flatten ++ p.cs)) : OwnsW w base v (P ++ [p]) := by
  unfold OwnsW
  rw [List.length_append, List.map_append, List.flatten_append]
  simpa using h
theorem OwnsW.seq {w : World} {base : Nat} {v : Value} {P : List WallD} (h : OwnsW w base v P) : ∃ a cap, v = .slice a P.length cap ∧ SeqAt w a 2 (P.map WallD.cs) ∧ P.length ≤ cap := by
  obtain ⟨a, cap, h1, h2, h3⟩ := seq_of_owns (rows := P.map WallD.cs) (by rw [List.length_map]; exact h) wall_len
  rw [List.length_map] at h1 h3
  exact ⟨a, cap, h1, h2, h3⟩
/-- a list of what happens, in memory. -/
def WallsAt (w : World) (v : Value) (l : List WallD) : Prop := ∃ a cap, v = .slice a l.length cap ∧ l.length ≤ cap ∧ SeqAt w a 2 (l.map WallD.cs)
theorem WallsAt.below {w w' : World} {v : Value} {l : List WallD} (h : WallsAt w v l) (hb : Below w.heap.size w w') : WallsAt w' v l := by
  obtain ⟨a, cap, h1, h2, h3⟩ := h
  exact ⟨a, cap, h1, h2, h3.below hb⟩
theorem OwnsW.walls {w : World} {base : Nat} {v : Value} {P : List WallD} (h : OwnsW w base v P) : WallsAt w v P := by
  obtain ⟨a, cap, h1, h2, h3⟩ := h.seq
  exact ⟨a, cap, h1, h3, h2⟩
/-- two sorted lists put together: what the loop does. -/
theorem srt_half {l : List WallD} {k : Nat} {s1 s2 : List WallD} (h1 : SrtOf (l.take k) s1) (h2 : SrtOf (l.drop k) s2) : SrtOf l (mergeW s1 s2) := by
  have := srt_merge h1 h2
  rw [List.take_append_drop] at this
  exact this
set_option maxRecDepth 20000 in
set_option maxHeartbeats 2000000 in
theorem spec_l03Sort (N : Nat) : ∀ (l : List WallD) (v : Value) (w : World), l.length ≤ N → l.length ≤ 4000 → WallsAt w v l →
    Calls Tryz.prog 148 #[v] w fun e W' => ∃ v' s, e = .returned v' ∧ WallsAt W' v' s ∧ SrtOf l s ∧ Below w.heap.size w W' := by
  induction N with
  | zero =>
    intro l v w h0 _ hv
    obtain ⟨a, cap, rfl, hcap, hA⟩ := hv
    have HR : Hid (SrtOf l l) := srt_short (by omega)
    have HA : Hid (WallsAt w (.slice a l.length cap) l) := ⟨a, cap, rfl, hcap, hA⟩
    go_enter Tryz.func148, Tryz.ntmps148
    go_wp2
    go_ret
    exact ⟨_, l, rfl, HA.out, HR.out, Below.refl _ _⟩
  | succ N ih =>
    intro l v w h0 h4 hv
    obtain ⟨a, cap, rfl, hcap, hA⟩ := hv
    by_cases h2 : l.length < 2
    · have HR : Hid (SrtOf l l) := srt_short h2
      have HA : Hid (WallsAt w (.slice a l.length cap) l) := ⟨a, cap, rfl, hcap, hA⟩
      go_enter Tryz.func148, Tryz.ntmps148
      go_wp2
      go_ret
      exact ⟨_, l, rfl, HA.out, HR.out, Below.refl _ _⟩
    · obtain ⟨i0, hi, hz0, hz1, hz2⟩ := info_parts infoWall
      obtain ⟨f, hf⟩ : ∃ f, l[0]? = some f := ⟨_, List.getElem?_eq_getElem (by omega)⟩
      obtain ⟨b, o, rfl, hc⟩ := hA.at (i := 0) (r := f.cs) (by rw [List.getElem?_map, hf]; rfl)
      clear hc hf
      have lk : (l.take (l.length / 2)).length = l.length / 2 := by rw [List.length_take]; omega
      have ld : (l.drop (l.length / 2)).length = l.length - l.length / 2 := by rw [List.length_drop]
      have T1 : SeqAt w (some ⟨b, o, none⟩) 2 ((l.take (l.length / 2)).map WallD.cs) := by rw [List.map_take]; exact hA.take _
      have T2 : SeqAt w (some ⟨b, o + l.length / 2 * 2, none⟩) 2 ((l.drop (l.length / 2)).map WallD.cs) := by rw [List.map_drop]; exact hA.drop
      have HM : Hid (∀ s1 s2, SrtOf (l.take (l.length / 2)) s1 → SrtOf (l.drop (l.length / 2)) s2 → SrtOf l (mergeW s1 s2)) := fun s1 s2 h1 h2 => srt_half h1 h2
      have hI1 := fun v w h => ih (l.take (l.length / 2)) v w (by omega) (by omega) h
      have hI2 := fun v w h => ih (l.drop (l.length / 2)) v w (by omega) (by omega) h
      obtain ⟨l1, e1⟩ : ∃ x, l.take (l.length / 2) = x := ⟨_, rfl⟩
      obtain ⟨l2, e2⟩ : ∃ x, l.drop (l.length / 2) = x := ⟨_, rfl⟩
      rw [e1] at lk T1 HM hI1
      rw [e2] at ld T2 HM hI2
      clear e1 e2 ih
      have f1 : (l1.map WallD.cs).flatten.length = l.length / 2 * 2 := by rw [flat_len wall_len, List.length_map, lk]
      have f2 : (l2.map WallD.cs).flatten.length = (l.length - l.length / 2) * 2 := by rw [flat_len wall_len, List.length_map, ld]
      have one : ∀ (m : List WallD) u, u ∈ (m.map WallD.cs).flatten → u.oneCell' = true := fun m u hu => by
        obtain ⟨r, hr, hu⟩ := List.mem_flatten.mp hu
        obtain ⟨x, _, rfl⟩ := List.mem_map.mp hr
        simp [WallD.cs] at hu
        rcases hu with rfl | rfl <;> rfl
      have o1 := one l1
      have o2 := one l2
      clear one
      have HN : Hid (l.length = l1.length + l2.length) := by simp only [Hid]; omega
      have tk : ((l.length : Int) / 2).toNat = l.length / 2 := by omega
      have bk : (0 : Int) ≤ (l.length : Int) / 2 := by omega
      have bk2 : (l.length : Int) / 2 ≤ (cap : Int) := by omega
      have bk3 : (l.length : Int) / 2 ≤ (l.length : Int) := by omega
      have hck : ¬ cap = l.length / 2 := by omega
      have HK : Hid (l1.length = l.length / 2 ∧ l2.length = l.length - l.length / 2) := ⟨lk, ld⟩
      clear lk ld
      have n1 := T1.flat wall_len
      have HT2 : Hid (∀ w2, Below w.heap.size w w2 → ∀ j u, (l2.map WallD.cs).flatten[j]? = some u → w2.cell? ((⟨b, o + l.length / 2 * 2, none⟩ : Addr).add j) = some u) := fun w2 hb => (T2.below hb).flat wall_len
      have n1' : ∀ j u, (l1.map WallD.cs).flatten[j]? = some u → (w.alloc (.cells #[] 143)).cell? ((⟨b, o, none⟩ : Addr).add j) = some u := (T1.below ((Below.refl _ w).alloc (Nat.le_refl _) _)).flat wall_len
      have hE := own_empty w 143 2
      go_enter Tryz.func148, Tryz.ntmps148
      go_wp2_with (first
        | (at_builtin; refine wpList_append_own _ rfl _ _ 139 rfl w.heap.size 143 i0 (.agg #[.int .i64 0, .int .i64 0]) 2 16 Tryz.underlying139 hi hz0 hz1 hz2 rfl (by decide) _ _ _ rfl hE ⟨b, o, none⟩ (l.length / 2) cap (l1.map WallD.cs).flatten rfl f1 n1' o1 ?d3 ?d4 ?d5 ?_)
        | fail)
      case d3 => unfold maxLen; omega
      case d4 => omega
      case d5 => simp
      intro v1 w1 hown1 hgrow1 _
      have hB1 : Below w.heap.size w w1 := ((Below.refl w.heap.size w).alloc (Nat.le_refl _) _).grown hgrow1 (by simp) (fun j hj => (hE.lt j hj).1)
      have hW1 : WallsAt w1 v1 l1 := OwnsW.walls (base := w.heap.size) (by unfold OwnsW; rw [HK.out.1]; exact hown1)
      obtain ⟨a1, m1, c1, rfl⟩ := row_shape3 hown1
      clear hgrow1 hE hown1 n1' o1 f1
      go_wp2_with fail
      refine (hI1 _ _ hW1).mono ?_
      rintro e w2 ⟨v2, s1, rfl, hW2, hs1, hb2⟩
      have hB2 := hB1.trans (hb2.mono hB1.size)
      obtain ⟨a2, c2, rfl, hc2, hS2⟩ := hW2
      clear hW1 hb2 hI1
      have hE := own_empty w2 143 2
      have hb2a : Below w.heap.size w (w2.alloc (.cells #[] 143)) := hB2.alloc hB2.size _
      have n2 := HT2.out _ hb2a
      go_wp2_with (first
        | (at_builtin; refine wpList_append_own _ rfl _ _ 139 rfl w2.heap.size 143 i0 (.agg #[.int .i64 0, .int .i64 0]) 2 16 Tryz.underlying139 hi hz0 hz1 hz2 rfl (by decide) _ _ _ rfl hE ⟨b, o + l.length / 2 * 2, none⟩ (l.length - l.length / 2) (cap - l.length / 2) (l2.map WallD.cs).flatten rfl f2 n2 o2 ?e3 ?e4 ?e5 ?_)
        | fail)
      case e3 => unfold maxLen; omega
      case e4 => omega
      case e5 => simp
      intro v3 w3 hown3 hgrow3 _
      have hb3 : Below w2.heap.size w2 w3 := ((Below.refl w2.heap.size w2).alloc (Nat.le_refl _) _).grown hgrow3 (by simp) (fun j hj => (hE.lt j hj).1)
      have hB3 := hB2.trans (hb3.mono hB2.size)
      have hW3 : WallsAt w3 v3 l2 := OwnsW.walls (base := w2.heap.size) (by unfold OwnsW; rw [HK.out.2]; exact hown3)
      have hS3 := hS2.below hb3
      obtain ⟨a3, m3, c3, rfl⟩ := row_shape3 hown3
      clear hgrow3 hE hown3 n2 o2 f2 hb3 hS2
      go_wp2_with fail
      refine (hI2 _ _ hW3).mono ?_
      rintro e w4 ⟨v4, s2, rfl, hW4, hs2, hb4⟩
      have hB4 := hB3.trans (hb4.mono hB3.size)
      obtain ⟨a4, c4, rfl, hc4, hS4⟩ := hW4
      have hS1 := hS3.below hb4
      clear hW3 hb4 hI2 hS3 HT2 T1 T2 n1 hA
      have HR : Hid (SrtOf l (mergeW s1 s2)) := HM.out s1 s2 hs1 hs2
      have hlen : s1.length + s2.length ≤ 4000 := by have := hs1.len; have := hs2.len; have := HN.out; omega
      clear HM hs1 hs2
      have hE : OwnsW (w4.alloc (.cells #[] 143)) w4.heap.size (.slice (some ⟨w4.heap.size, 0, none⟩) 0 0) [] := own_empty w4 143 2
      go_wp2
      go_loopw [4, 5, 6] (fun x4 x5 x6 wr => ∃ (aa ab : Option Addr) (ca cb na nb : Nat) (ra rb out : List WallD), x4 = .slice aa na ca ∧ Hid (ra.length = na) ∧ na ≤ ca ∧ SeqAt w4 aa 2 (ra.map WallD.cs) ∧ x5 = .slice ab nb cb ∧ Hid (rb.length = nb) ∧ nb ≤ cb ∧ SeqAt w4 ab 2 (rb.map WallD.cs) ∧ OwnsW wr w4.heap.size x6 out ∧ Hid (out ++ mergeW ra rb = mergeW s1 s2) ∧ out.length + na + nb ≤ 4000 ∧ Below w4.heap.size w4 wr) (fun x4 x5 _ _ => (match x4 with | .slice _ n _ => n | _ => 0) + (match x5 with | .slice _ n _ => n | _ => 0))
      case atStart => exact ⟨a2, a4, c2, c4, _, _, s1, s2, [], rfl, rfl, hc2, hS1, rfl, rfl, hc4, hS4, hE, rfl, by simpa using hlen, (Below.refl _ _).alloc (Nat.le_refl _) _⟩
      case round =>
        clear hE hc2 hS1 hc4 hS4 hlen
        obtain ⟨aa, ab, ca, cb, na, nb, ra, rb, out, rfl, HA, hca, hSa, rfl, HB, hcb, hSb, hown, HG, hlen, hBr⟩ := hrel
        have hsW := hBr.size
        have hBw := hB4.trans (hBr.mono hB4.size)
        obtain ⟨a6, m6, c6, rfl⟩ := row_shape3 hown
        cases hra : ra with
        | nil =>
          subst hra
          obtain rfl : na = 0 := HA.out.symm
          cases hrb : rb with
          | nil =>
            subst hrb
            obtain rfl : nb = 0 := HB.out.symm
            have HX : Hid (out = mergeW s1 s2) := by
              have := HG.out
              rw [merge_nil, List.append_nil] at this
              exact this
            have HO : Hid (WallsAt wr (.slice a6 m6 c6) (mergeW s1 s2)) := by simp only [Hid]; rw [← HX.out]; exact hown.walls
            clear HG
            go_wp2
            go_ret
            exact ⟨_, _, rfl, HO.out, HR.out, hBw⟩
          | cons y rb' =>
            subst hrb
            have HG2 : Hid ((out ++ [y]) ++ mergeW [] rb' = mergeW s1 s2) := by
              have := HG.out
              rw [merge_nil] at this
              simp only [Hid]
              rw [merge_nil, ← this]; simp
            obtain ⟨bb, ob, rfl, hcy⟩ := (hSb.below hBr).at (i := 0) (r := y.cs) rfl
            have pb : 0 < nb := by have := HB.out; simp at this; omega
            have eb : ((nb : Int) == 0) = false := by simp; omega
            have db : decide ((0 : Int) < (nb : Int)) = true := by simp; omega
            have db2 : decide (0 < nb) = true := by simp; omega
            have ob1 : (1 : Int) ≤ (nb : Int) := by omega
            have ob2 : (0 : Int) < (nb : Int) := by omega
            have cy0 : wr.cell? ⟨bb, ob, none⟩ = some (.int .i64 y.wall) := by simpa using hcy 0 _ rfl
            have cy1 : wr.cell? ⟨bb, ob + 1, none⟩ = some (.int .i64 y.place) := by simpa using hcy 1 _ rfl
            have hSb2 : SeqAt w4 (some ⟨bb, ob + 2, none⟩) 2 (rb'.map WallD.cs) := by simpa using hSb.drop (m := 1)
            clear hcy
            by_cases hc1 : cb = 1
            · have hn : rb' = [] := List.length_eq_zero_iff.mp (by have := HB.out; simp at this; omega)
              subst hn hc1
              obtain rfl : nb = 1 := by omega
              clear HG
              go_wp2_with fail
              go_quiet (fail)
              go_wp2_with (first
                | (at_builtin; refine wpList_append_own _ rfl _ _ 139 rfl w4.heap.size 143 i0 (.agg #[.int .i64 0, .int .i64 0]) 2 16 Tryz.underlying139 hi hz0 hz1 hz2 rfl (by decide) _ _ _ rfl (World.ownsRow.alloc hown _) ⟨wr.heap.size, 0, none⟩ 1 1 [.int .i64 y.wall, .int .i64 y.place] rfl rfl ?c1a1 ?c2a1 ?c3a1 ?c4a1 ?c5a1 ?_)
                | fail)
              case c1a1 => exact cells_new _ [.int .i64 y.wall, .int .i64 y.place] _
              case c2a1 => intro u hu; simp at hu; rcases hu with rfl | rfl <;> rfl
              case c3a1 => unfold maxLen; omega
              case c4a1 => omega
              case c5a1 => simp; omega
              intro v' wn hown' hgrow _
              have hBn : Below w4.heap.size w4 wn := (Below.alloc (below_drewN hBr _) (by simp; omega) _).grown hgrow (by simp; omega) (fun j hj => (hown.lt j hj).1)
              have HO : Hid (OwnsW wn w4.heap.size v' (out ++ [y])) := OwnsW.add (p := y) hown'
              obtain ⟨a7, m7, c7, rfl⟩ := row_shape3 hown'
              clear hgrow hown' hown
              go_wp2
              go_roundw
              case rel => exact ⟨_, _, _, _, 0, 0, [], [], out ++ [y], rfl, rfl, hca, hSa, rfl, rfl, by omega, .inl rfl, HO.out, HG2, by simp; omega, hBn⟩
              case measure => simp
            · clear HG
              go_wp2_with fail
              go_quiet (fail)
              go_wp2_with (first
                | (at_builtin; refine wpList_append_own _ rfl _ _ 139 rfl w4.heap.size 143 i0 (.agg #[.int .i64 0, .int .i64 0]) 2 16 Tryz.underlying139 hi hz0 hz1 hz2 rfl (by decide) _ _ _ rfl (World.ownsRow.alloc hown _) ⟨wr.heap.size, 0, none⟩ 1 1 [.int .i64 y.wall, .int .i64 y.place] rfl rfl ?c1a2 ?c2a2 ?c3a2 ?c4a2 ?c5a2 ?_)
                | fail)
              case c1a2 => exact cells_new _ [.int .i64 y.wall, .int .i64 y.place] _
              case c2a2 => intro u hu; simp at hu; rcases hu with rfl | rfl <;> rfl
              case c3a2 => unfold maxLen; omega
              case c4a2 => omega
              case c5a2 => simp; omega
              intro v' wn hown' hgrow _
              have hBn : Below w4.heap.size w4 wn := (Below.alloc (below_drewN hBr _) (by simp; omega) _).grown hgrow (by simp; omega) (fun j hj => (hown.lt j hj).1)
              have HO : Hid (OwnsW wn w4.heap.size v' (out ++ [y])) := OwnsW.add (p := y) hown'
              obtain ⟨a7, m7, c7, rfl⟩ := row_shape3 hown'
              clear hgrow hown' hown
              go_wp2
              go_roundw
              case rel => exact ⟨_, _, _, _, 0, nb - 1, [], rb', out ++ [y], rfl, rfl, hca, hSa, rfl, by have := HB.out; simp at this; simp only [Hid]; omega, by omega, hSb2, HO.out, HG2, by simp; omega, hBn⟩
              case measure => simp; omega
        | cons x ra' =>
          subst hra
          obtain ⟨ba, oa, rfl, hcx⟩ := (hSa.below hBr).at (i := 0) (r := x.cs) rfl
          have pa : 0 < na := by have := HA.out; simp at this; omega
          have ea : ((na : Int) == 0) = false := by simp; omega
          have da : decide ((0 : Int) < (na : Int)) = true := by simp; omega
          have da2 : decide (0 < na) = true := by simp; omega
          have oa1 : (1 : Int) ≤ (na : Int) := by omega
          have oa2 : (0 : Int) < (na : Int) := by omega
          have cx0 : wr.cell? ⟨ba, oa, none⟩ = some (.int .i64 x.wall) := by simpa using hcx 0 _ rfl
          have cx1 : wr.cell? ⟨ba, oa + 1, none⟩ = some (.int .i64 x.place) := by simpa using hcx 1 _ rfl
          have hSa2 : SeqAt w4 (some ⟨ba, oa + 2, none⟩) 2 (ra'.map WallD.cs) := by simpa using hSa.drop (m := 1)
          clear hcx
          cases hrb : rb with
          | nil =>
            subst hrb
            obtain rfl : nb = 0 := HB.out.symm
            have HG2 : Hid ((out ++ [x]) ++ mergeW ra' [] = mergeW s1 s2) := by
              have := HG.out
              rw [merge_nil2] at this
              simp only [Hid]
              rw [merge_nil2, ← this]; simp
            by_cases hc1 : ca = 1
            · have hn : ra' = [] := List.length_eq_zero_iff.mp (by have := HA.out; simp at this; omega)
              subst hn hc1
              obtain rfl : na = 1 := by omega
              clear HG
              go_wp2_with fail
              go_quiet (fail)
              go_wp2_with (first
                | (at_builtin; refine wpList_append_own _ rfl _ _ 139 rfl w4.heap.size 143 i0 (.agg #[.int .i64 0, .int .i64 0]) 2 16 Tryz.underlying139 hi hz0 hz1 hz2 rfl (by decide) _ _ _ rfl (World.ownsRow.alloc hown _) ⟨wr.heap.size, 0, none⟩ 1 1 [.int .i64 x.wall, .int .i64 x.place] rfl rfl ?c1b1 ?c2b1 ?c3b1 ?c4b1 ?c5b1 ?_)
                | fail)
              case c1b1 => exact cells_new _ [.int .i64 x.wall, .int .i64 x.place] _
              case c2b1 => intro u hu; simp at hu; rcases hu with rfl | rfl <;> rfl
              case c3b1 => unfold maxLen; omega
              case c4b1 => omega
              case c5b1 => simp; omega
              intro v' wn hown' hgrow _
              have hBn : Below w4.heap.size w4 wn := (Below.alloc (below_drewN hBr _) (by simp; omega) _).grown hgrow (by simp; omega) (fun j hj => (hown.lt j hj).1)
              have HO : Hid (OwnsW wn w4.heap.size v' (out ++ [x])) := OwnsW.add (p := x) hown'
              obtain ⟨a7, m7, c7, rfl⟩ := row_shape3 hown'
              clear hgrow hown' hown
              go_wp2
              go_roundw
              case rel => exact ⟨_, _, _, _, 0, 0, [], [], out ++ [x], rfl, rfl, by omega, .inl rfl, rfl, rfl, hcb, hSb, HO.out, HG2, by simp; omega, hBn⟩
              case measure => simp
            · clear HG
              go_wp2_with fail
              go_quiet (fail)
              go_wp2_with (first
                | (at_builtin; refine wpList_append_own _ rfl _ _ 139 rfl w4.heap.size 143 i0 (.agg #[.int .i64 0, .int .i64 0]) 2 16 Tryz.underlying139 hi hz0 hz1 hz2 rfl (by decide) _ _ _ rfl (World.ownsRow.alloc hown _) ⟨wr.heap.size, 0, none⟩ 1 1 [.int .i64 x.wall, .int .i64 x.place] rfl rfl ?c1b2 ?c2b2 ?c3b2 ?c4b2 ?c5b2 ?_)
                | fail)
              case c1b2 => exact cells_new _ [.int .i64 x.wall, .int .i64 x.place] _
              case c2b2 => intro u hu; simp at hu; rcases hu with rfl | rfl <;> rfl
              case c3b2 => unfold maxLen; omega
              case c4b2 => omega
              case c5b2 => simp; omega
              intro v' wn hown' hgrow _
              have hBn : Below w4.heap.size w4 wn := (Below.alloc (below_drewN hBr _) (by simp; omega) _).grown hgrow (by simp; omega) (fun j hj => (hown.lt j hj).1)
              have HO : Hid (OwnsW wn w4.heap.size v' (out ++ [x])) := OwnsW.add (p := x) hown'
              obtain ⟨a7, m7, c7, rfl⟩ := row_shape3 hown'
              clear hgrow hown' hown
              go_wp2
              go_roundw
              case rel => exact ⟨_, _, _, _, na - 1, 0, ra', [], out ++ [x], rfl, by have := HA.out; simp at this; simp only [Hid]; omega, by omega, hSa2, rfl, rfl, hcb, hSb, HO.out, HG2, by simp; omega, hBn⟩
              case measure => simp; omega
          | cons y rb' =>
            subst hrb
            obtain ⟨bb, ob, rfl, hcy⟩ := (hSb.below hBr).at (i := 0) (r := y.cs) rfl
            have pb : 0 < nb := by have := HB.out; simp at this; omega
            have eb : ((nb : Int) == 0) = false := by simp; omega
            have db : decide ((0 : Int) < (nb : Int)) = true := by simp; omega
            have db2 : decide (0 < nb) = true := by simp; omega
            have ob1 : (1 : Int) ≤ (nb : Int) := by omega
            have ob2 : (0 : Int) < (nb : Int) := by omega
            have cy0 : wr.cell? ⟨bb, ob, none⟩ = some (.int .i64 y.wall) := by simpa using hcy 0 _ rfl
            have cy1 : wr.cell? ⟨bb, ob + 1, none⟩ = some (.int .i64 y.place) := by simpa using hcy 1 _ rfl
            have hSb2 : SeqAt w4 (some ⟨bb, ob + 2, none⟩) 2 (rb'.map WallD.cs) := by simpa using hSb.drop (m := 1)
            clear hcy
            by_cases hxy : x.wall ≤ y.wall
            · have HG2 : Hid ((out ++ [x]) ++ mergeW ra' (y :: rb') = mergeW s1 s2) := by
                have := HG.out
                rw [merge_left hxy] at this
                simp only [Hid]
                rw [← this]; simp
              have dxy : decide (x.wall ≤ y.wall) = true := decide_eq_true hxy
              by_cases hc1 : ca = 1
              · have hn : ra' = [] := List.length_eq_zero_iff.mp (by have := HA.out; simp at this; omega)
                subst hn hc1
                obtain rfl : na = 1 := by omega
                clear HG
                go_wp2_with fail
                go_quiet (fail)
                go_wp2_with (first
                  | (at_builtin; refine wpList_append_own _ rfl _ _ 139 rfl w4.heap.size 143 i0 (.agg #[.int .i64 0, .int .i64 0]) 2 16 Tryz.underlying139 hi hz0 hz1 hz2 rfl (by decide) _ _ _ rfl (World.ownsRow.alloc hown _) ⟨wr.heap.size, 0, none⟩ 1 1 [.int .i64 x.wall, .int .i64 x.place] rfl rfl ?c1c1 ?c2c1 ?c3c1 ?c4c1 ?c5c1 ?_)
                  | fail)
                case c1c1 => exact cells_new _ [.int .i64 x.wall, .int .i64 x.place] _
                case c2c1 => intro u hu; simp at hu; rcases hu with rfl | rfl <;> rfl
                case c3c1 => unfold maxLen; omega
                case c4c1 => omega
                case c5c1 => simp; omega
                intro v' wn hown' hgrow _
                have hBn : Below w4.heap.size w4 wn := (Below.alloc (below_drewN hBr _) (by simp; omega) _).grown hgrow (by simp; omega) (fun j hj => (hown.lt j hj).1)
                have HO : Hid (OwnsW wn w4.heap.size v' (out ++ [x])) := OwnsW.add (p := x) hown'
                obtain ⟨a7, m7, c7, rfl⟩ := row_shape3 hown'
                clear hgrow hown' hown
                go_wp2
                go_roundw
                case rel => exact ⟨_, _, _, _, 0, nb, [], (y :: rb'), out ++ [x], rfl, rfl, by omega, .inl rfl, rfl, HB, hcb, hSb, HO.out, HG2, by simp; omega, hBn⟩
                case measure => simp
              · clear HG
                go_wp2_with fail
                go_quiet (fail)
                go_wp2_with (first
                  | (at_builtin; refine wpList_append_own _ rfl _ _ 139 rfl w4.heap.size 143 i0 (.agg #[.int .i64 0, .int .i64 0]) 2 16 Tryz.underlying139 hi hz0 hz1 hz2 rfl (by decide) _ _ _ rfl (World.ownsRow.alloc hown _) ⟨wr.heap.size, 0, none⟩ 1 1 [.int .i64 x.wall, .int .i64 x.place] rfl rfl ?c1c2 ?c2c2 ?c3c2 ?c4c2 ?c5c2 ?_)
                  | fail)
                case c1c2 => exact cells_new _ [.int .i64 x.wall, .int .i64 x.place] _
                case c2c2 => intro u hu; simp at hu; rcases hu with rfl | rfl <;> rfl
                case c3c2 => unfold maxLen; omega
                case c4c2 => omega
                case c5c2 => simp; omega
                intro v' wn hown' hgrow _
                have hBn : Below w4.heap.size w4 wn := (Below.alloc (below_drewN hBr _) (by simp; omega) _).grown hgrow (by simp; omega) (fun j hj => (hown.lt j hj).1)
                have HO : Hid (OwnsW wn w4.heap.size v' (out ++ [x])) := OwnsW.add (p := x) hown'
                obtain ⟨a7, m7, c7, rfl⟩ := row_shape3 hown'
                clear hgrow hown' hown
                go_wp2
                go_roundw
                case rel => exact ⟨_, _, _, _, na - 1, nb, ra', (y :: rb'), out ++ [x], rfl, by have := HA.out; simp at this; simp only [Hid]; omega, by omega, hSa2, rfl, HB, hcb, hSb, HO.out, HG2, by simp; omega, hBn⟩
                case measure => simp; omega
            · have HG2 : Hid ((out ++ [y]) ++ mergeW (x :: ra') rb' = mergeW s1 s2) := by
                have := HG.out
                rw [merge_right hxy] at this
                simp only [Hid]
                rw [← this]; simp
              have dxy : decide (x.wall ≤ y.wall) = false := decide_eq_false hxy
              by_cases hc1 : cb = 1
              · have hn : rb' = [] := List.length_eq_zero_iff.mp (by have := HB.out; simp at this; omega)
                subst hn hc1
                obtain rfl : nb = 1 := by omega
                clear HG
                go_wp2_with fail
                go_quiet (fail)
                go_wp2_with (first
                  | (at_builtin; refine wpList_append_own _ rfl _ _ 139 rfl w4.heap.size 143 i0 (.agg #[.int .i64 0, .int .i64 0]) 2 16 Tryz.underlying139 hi hz0 hz1 hz2 rfl (by decide) _ _ _ rfl (World.ownsRow.alloc hown _) ⟨wr.heap.size, 0, none⟩ 1 1 [.int .i64 y.wall, .int .i64 y.place] rfl rfl ?c1d1 ?c2d1 ?c3d1 ?c4d1 ?c5d1 ?_)
                  | fail)
                case c1d1 => exact cells_new _ [.int .i64 y.wall, .int .i64 y.place] _
                case c2d1 => intro u hu; simp at hu; rcases hu with rfl | rfl <;> rfl
                case c3d1 => unfold maxLen; omega
                case c4d1 => omega
                case c5d1 => simp; omega
                intro v' wn hown' hgrow _
                have hBn : Below w4.heap.size w4 wn := (Below.alloc (below_drewN hBr _) (by simp; omega) _).grown hgrow (by simp; omega) (fun j hj => (hown.lt j hj).1)
                have HO : Hid (OwnsW wn w4.heap.size v' (out ++ [y])) := OwnsW.add (p := y) hown'
                obtain ⟨a7, m7, c7, rfl⟩ := row_shape3 hown'
                clear hgrow hown' hown
                go_wp2
                go_roundw
                case rel => exact ⟨_, _, _, _, na, 0, (x :: ra'), [], out ++ [y], rfl, HA, hca, hSa, rfl, rfl, by omega, .inl rfl, HO.out, HG2, by simp; omega, hBn⟩
                case measure => simp
              · clear HG
                go_wp2_with fail
                go_quiet (fail)
                go_wp2_with (first
                  | (at_builtin; refine wpList_append_own _ rfl _ _ 139 rfl w4.heap.size 143 i0 (.agg #[.int .i64 0, .int .i64 0]) 2 16 Tryz.underlying139 hi hz0 hz1 hz2 rfl (by decide) _ _ _ rfl (World.ownsRow.alloc hown _) ⟨wr.heap.size, 0, none⟩ 1 1 [.int .i64 y.wall, .int .i64 y.place] rfl rfl ?c1d2 ?c2d2 ?c3d2 ?c4d2 ?c5d2 ?_)
                  | fail)
                case c1d2 => exact cells_new _ [.int .i64 y.wall, .int .i64 y.place] _
                case c2d2 => intro u hu; simp at hu; rcases hu with rfl | rfl <;> rfl
                case c3d2 => unfold maxLen; omega
                case c4d2 => omega
                case c5d2 => simp; omega
                intro v' wn hown' hgrow _
                have hBn : Below w4.heap.size w4 wn := (Below.alloc (below_drewN hBr _) (by simp; omega) _).grown hgrow (by simp; omega) (fun j hj => (hown.lt j hj).1)
                have HO : Hid (OwnsW wn w4.heap.size v' (out ++ [y])) := OwnsW.add (p := y) hown'
                obtain ⟨a7, m7, c7, rfl⟩ := row_shape3 hown'
                clear hgrow hown' hown
                go_wp2
                go_roundw
                case rel => exact ⟨_, _, _, _, na, nb - 1, (x :: ra'), rb', out ++ [y], rfl, HA, hca, hSa, rfl, by have := HB.out; simp at this; simp only [Hid]; omega, by omega, hSb2, HO.out, HG2, by simp; omega, hBn⟩
                case measure => simp; omega
end Go.Proofs.YtbbhpfobcelbfaaGreatDoor
