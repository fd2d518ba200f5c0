/- Packed: Dw3 Tw1. -/
import Derived.Test.YtcelbkmnbjcjhaaGreatMoPd
import Derived.Test.YtcelbkmnbjcjhaaGreatRelAd
import Derived.Deep.AppendLies
namespace Go.Proofs.YtcelbkmnbjcjhaaGreat
open Go.RowKit

set_option maxRecDepth 100000 in
theorem infoSpanW : ∃ i : TypeInfo, Tryz.prog.info? 31 = some i ∧ i.zero = some (.agg #[.int .i64 0, .int .i64 0]) ∧ i.size = 2 ∧ i.bytes = 16 := ⟨_, rfl, rfl, rfl, rfl⟩
/-- drawn spans, and a stretch. -/
structure DrawTP (w : World) (e : Ending) (w' : World) : Prop where
 ex : ∃ (sv : Value) (P : List SpanD) (f t : Int), e = .returned (.tuple #[sv, .int .i64 f, .int .i64 t]) ∧ w'.ownsRow w.heap.size 31 2 sv P.length (P.map SpanD.cs).flatten ∧ P.length ≤ 4 ∧ Below w.heap.size w w'
theorem own_sepW {w : World} {B p : Nat} {e : TypeId} {q : Nat} {v : Value} {n : Nat} {xs : List Value} (h : w.ownsRow B e q v n xs) (hB : p < B) : v.ownBlock = none ∨ v.ownBlock ≠ some p := by
 cases e : v.ownBlock with
 | none => exact .inl rfl
 | some g => right; intro e2; have := (World.ownsRow.lt h g e).1; injection e2 with e2; omega
set_option maxRecDepth 20000 in
set_option maxHeartbeats 4000000 in
theorem draw_Touched (a : Option Addr) (len cap : Nat) (w : World) (h : RowOf w a len) (hl : len ≤ 1048576) :
  Calls Tryz.prog 14 #[.slice a len cap] w (DrawTP w) := by
 obtain ⟨i0, hi, hz0, hz1, hz2⟩ := infoSpanW
 go_enter Tryz.func14, Tryz.ntmps14
 go_wp2_with fail
 refine (src_source a len cap _ h hl).mono ?_
 rintro e w1 ⟨rfl, S1, B1⟩
 have hp1 : w.heap.size < w1.heap.size := S1.lt
 have S2 := S1.alloc (.cells #[] 31)
 have B2 : Below w.heap.size w (w1.alloc (.cells #[] 31)) := B1.alloc B1.size _
 have O2 : (w1.alloc (.cells #[] 31)).ownsRow w1.heap.size 31 2 (.slice (some ⟨w1.heap.size, 0, none⟩) 0 0) 0 [] := own_empty _ _ _
 clear S1 B1 h
 go_wp2_with fail
 refine (src_n _ a len cap [] 4 _ S2 (by omega) (by omega)).mono ?_
 rintro e w3 ⟨k3, rfl, l3, u3x, S3, g3⟩
 have O3 := World.ownsRow.kept O2 g3 (own_sepW O2 hp1)
 have B3 : Below w.heap.size w w3 := B2.grown g3 (by have := B2.size; omega) (fun k hk => by injection hk with hk; omega)
 have z3 : w1.heap.size + 1 ≤ w3.heap.size := by have := g3.size; simpa using this
 clear g3 S2 B2 O2
 go_wp2
 go_loopw [6, 7] (fun v s wr => ∃ (k : Nat) (P : List SpanD), k ≤ 3 ∧ P.length + k ≤ 3 ∧ s = .int .i64 k ∧ wr.ownsRow w1.heap.size 31 2 v P.length (P.map SpanD.cs).flatten ∧ SrcAt w.heap.size a len cap [] wr ∧ Below w.heap.size w wr ∧ w1.heap.size ≤ wr.heap.size) (fun _ s _ => (intOf s).toNat)
 case atStart =>
  obtain ⟨m, rfl⟩ := Int.eq_ofNat_of_zero_le l3
  exact ⟨m, [], by omega, by simp; omega, rfl, by simpa using O3, S3, B3, by omega⟩
 case round =>
  obtain ⟨wa, hwa⟩ : ∃ x : World, x = wr := ⟨_, rfl⟩
  subst hwa
  clear O3 S3 B3 z3
  obtain ⟨k, P, hk, hP, rfl, O4, S4, B4, z4⟩ := hrel
  obtain ⟨n, hn⟩ : ∃ n, P.length = n := ⟨_, rfl⟩
  have HN : Hid (P.length = n) := hn
  rw [hn] at O4 hP
  clear hn
  by_cases hk0 : k = 0
  ·
   subst hk0
   have hk1 : ¬ (0 : Int) < ((0 : Nat) : Int) := by omega
   go_wp2_with fail
   refine (src_n _ a len cap [] 60 _ S4 (by omega) (by omega)).mono ?_
   rintro e w5 ⟨x5, rfl, l5, u5x, S5, g5⟩
   have O5 := World.ownsRow.kept O4 g5 (own_sepW O4 hp1)
   have B5 : Below w.heap.size w w5 := B4.grown g5 B4.size (fun k hk => by injection hk with hk; omega)
   clear g5 S4 B4 O4
   go_wp2_with fail
   refine (src_n _ a len cap [] 6 _ S5 (by omega) (by omega)).mono ?_
   rintro e w6 ⟨x6, rfl, l6, u6x, S6, g6⟩
   have O6 := World.ownsRow.kept O5 g6 (own_sepW O5 hp1)
   have B6 : Below w.heap.size w w6 := B5.grown g6 B5.size (fun k hk => by injection hk with hk; omega)
   clear g6 S5 S6 B5 O5
   go_wp2
   exact bodyPost_ret (v := .tuple #[_, .int .i64 x5, .int .i64 (x5 + x6 - 1)]) (by simp [results, Tryz.results14, go_sem]) rfl ⟨_, P, _, _, rfl, owns_mono (HN.out ▸ O6) (by omega), by have := HN.out; omega, B6⟩
  ·
   have hk1 : (0 : Int) < (k : Int) := by omega
   go_wp2_with fail
   refine (src_n _ a len cap [] 50 _ S4 (by omega) (by omega)).mono ?_
   rintro e w5 ⟨x5, rfl, l5, u5x, S5, g5⟩
   have O5 := World.ownsRow.kept O4 g5 (own_sepW O4 hp1)
   have B5 : Below w.heap.size w w5 := B4.grown g5 B4.size (fun k hk => by injection hk with hk; omega)
   have z5 := g5.size
   clear g5 S4 B4 O4
   go_wp2_with fail
   refine (src_n _ a len cap [] 9 _ S5 (by omega) (by omega)).mono ?_
   rintro e w6 ⟨x6, rfl, l6, u6x, S6, g6⟩
   have O6 := World.ownsRow.kept O5 g6 (own_sepW O5 hp1)
   have B6 : Below w.heap.size w w6 := B5.grown g6 B5.size (fun k hk => by injection hk with hk; omega)
   have z6 := g6.size
   clear g6 S5 B5 O5
   have q1 : IntKind.i64.wrap (x5 + x6) = x5 + x6 := by rw [IntKind.wrap_i64]; omega
   have q2 : IntKind.i64.wrap (x5 + x6 - 1) = x5 + x6 - 1 := by rw [IntKind.wrap_i64]; omega
   go_wp2_with (first
    | (at_builtin; refine wpList_append_own _ rfl _ _ 28 rfl w1.heap.size 31 i0 (.agg #[.int .i64 0, .int .i64 0]) 2 16 Tryz.underlying28 hi hz0 hz1 hz2 rfl (by decide) _ _ _ rfl (O6.alloc _) ⟨w6.heap.size, 0, none⟩ 1 1 [.int .i64 x5, .int .i64 (x5 + x6 - 1)] rfl rfl (cells_new _ _ _) ?c2 ?c3 ?c4 ?c5 ?_)
    | fail)
   case c2 => intro u hu; simp at hu; rcases hu with rfl | rfl <;> rfl
   case c3 => unfold maxLen; omega
   case c4 => omega
   case c5 => simp; omega
   ·
    intro v7 w7 O7 g7 _
    have HO7 : Hid (w7.ownsRow w1.heap.size 31 2 v7 (P ++ [(⟨x5, x5 + x6 - 1⟩ : SpanD)]).length ((P ++ [(⟨x5, x5 + x6 - 1⟩ : SpanD)]).map SpanD.cs).flatten) := by
     simp only [Hid, List.length_append, HN.out, List.length_singleton, List.map_append, List.flatten_append]
     simpa [SpanD.cs] using O7
    have S7 : SrcAt w.heap.size a len cap [] w7 := (S6.alloc _).fr (Fr.of_grown g7) (fun b hb e => by have := (World.ownsRow.lt O6 b e).1; omega)
    have B7 : Below w.heap.size w w7 := (B6.alloc B6.size _).grown g7 (by have := B6.size; simp; omega) (fun k hk => by have := (World.ownsRow.lt O6 k hk).1; omega)
    have z7 : w6.heap.size + 1 ≤ w7.heap.size := by have := g7.size; simpa using this
    clear O7 g7 O6 S6 B6
    go_wp2
    go_roundw
    case rel => exact ⟨k - 1, P ++ [(⟨x5, x5 + x6 - 1⟩ : SpanD)], by omega, by rw [List.length_append, HN.out]; simp; omega, by go_num, HO7.out, S7, B7, by omega⟩
    case measure => simp [intOf]; omega
end Go.Proofs.YtcelbkmnbjcjhaaGreat
namespace Go.Proofs.YtcelbkmnbjcjhaaGreat
open Go.RowKit

structure TwAt (p : Nat) (a : Option Addr) (len cap : Nat) (zs : List Int) (w : World) (b4 b5 E : Nat) (tv bv : Value) (T U : List TurnD) (W : World) : Prop where
 src : SrcAt p a len cap zs W
 grow : w.grownBy W (some p)
 r1 : W.cell? ⟨w.heap.size, 0, none⟩ = some (.slice none 0 0)
 q1 : W.frozen? ⟨w.heap.size, 0, none⟩ = false
 r2 : W.cell? ⟨w.heap.size + 1, 0, none⟩ = some (.slice none 0 0)
 q2 : W.frozen? ⟨w.heap.size + 1, 0, none⟩ = false
 c4 : W.cell? ⟨b4, 0, none⟩ = some tv
 c5 : W.cell? ⟨b5, 0, none⟩ = some bv
 f5 : W.frozen? ⟨b5, 0, none⟩ = false
 ot : OwnsT W (w.heap.size + 1 + 1) tv T
 lt : ∀ g, tv.ownBlock = some g → g < E ∧ g ≠ b5
 ob : OwnsT W E bv U
 nb : bv.ownBlock ≠ some b5
 o4 : w.heap.size + 1 + 1 ≤ b4 ∧ b4 < E ∧ E ≤ W.heap.size
 o5 : w.heap.size + 1 + 1 ≤ b5 ∧ b4 ≠ b5
 lT : T.length ≤ 2000
 lU : U.length ≤ 2000
 kT : ∀ t ∈ T, t.ok
 kU : ∀ t ∈ U, t.ok
section
variable {p : Nat} {a : Option Addr} {len cap : Nat} {zs : List Int} {w W W1 : World} {b4 b5 E : Nat} {tv bv : Value} {T U : List TurnD}
theorem own_neW {w : World} {B : Nat} {v : Value} {T : List TurnD} (h : OwnsT w B v T) {S : Nat → Prop} (hS : ∀ g, v.ownBlock = some g → ¬ S g) {w' : World} (hF : Fr S w w') : OwnsT w' B v T := by
 have h' : w.ownsRow B 38 4 v T.length (T.map TurnD.cs).flatten := h
 refine ⟨h'.1, ?_⟩
 rcases h'.2 with h1 | ⟨g, c, cur, hv, hb, hg, hr⟩
 ·
  exact .inl h1
 ·
  refine .inr ⟨g, c, cur, hv, hb, ?_, hr⟩
  rw [hF.block g (Array.getElem?_eq_some_iff.1 hg).1 (hS g (by rw [hv]; rfl))]
  exact hg
/-- nothing that matters is touched. -/
theorem TwAt.fr (h : TwAt p a len cap zs w b4 b5 E tv bv T U W) {S : Nat → Prop} (hF : Fr S W W1) (hs : SrcAt p a len cap zs W1) (hg : w.grownBy W1 (some p)) (n1 : ¬ S w.heap.size) (n2 : ¬ S (w.heap.size + 1)) (n4 : ¬ S b4) (n5 : ¬ S b5) (nt : ∀ g, tv.ownBlock = some g → ¬ S g) (nu : ∀ g, bv.ownBlock = some g → ¬ S g) : TwAt p a len cap zs w b4 b5 E tv bv T U W1 := by
 have l1 : w.heap.size < W.heap.size := World.block_lt_of_cell? _ _ h.r1
 have l2 : w.heap.size + 1 < W.heap.size := World.block_lt_of_cell? _ _ h.r2
 have l5 : b5 < W.heap.size := World.block_lt_of_cell? _ _ h.c5
 exact ⟨hs, hg, hF.cell n1 h.r1, (hF.frozen l1 n1).trans h.q1, hF.cell n2 h.r2, (hF.frozen l2 n2).trans h.q2, hF.cell n4 h.c4, hF.cell n5 h.c5, (hF.frozen l5 n5).trans h.f5, own_neW h.ot nt hF, h.lt, own_neW h.ob nu hF, h.nb, ⟨h.o4.1, h.o4.2.1, Nat.le_trans h.o4.2.2 hF.size⟩, h.o5, h.lT, h.lU, h.kT, h.kU⟩
theorem TwAt.drawn (h : TwAt p a len cap zs w b4 b5 E tv bv T U W) (hp : p < w.heap.size) (hS : SrcAt p a len cap zs W1) (hg : W.grownBy W1 (some p)) : TwAt p a len cap zs w b4 b5 E tv bv T U W1 := by
 have o4 := h.o4
 have o5 := h.o5
 refine h.fr (S := fun b => b = p) ((Fr.of_grown hg).mono fun b _ e => by injection e with e; exact e.symm) hS (h.grow.trans hg) (by omega) (by omega) (by omega) (by omega) (fun g e => ?_) (fun g e => ?_)
 ·
  have := (World.ownsRow.lt h.ot g e).1; omega
 ·
  have := (World.ownsRow.lt h.ob g e).1; omega
theorem TwAt.below (h : TwAt p a len cap zs w b4 b5 E tv bv T U W) (hb : Below W.heap.size W W1) : TwAt p a len cap zs w b4 b5 E tv bv T U W1 :=
 h.fr (S := fun _ => False) (Fr.of_below hb) (h.src.grown hb) (h.grow.trans (World.grownBy_of_below hb _)) id id id id (fun _ _ => id) (fun _ _ => id)
theorem TwAt.drew (h : TwAt p a len cap zs w b4 b5 E tv bv T U W) : TwAt p a len cap zs w b4 b5 E tv bv T U W.drew := h.below (below_drew W)
/-- a cell of the second table is written. -/
theorem TwAt.put {g n ct : Nat} (h : TwAt p a len cap zs w b4 b5 E tv (.slice (some ⟨g, 0, none⟩) n ct) T U W) (hp : p < w.heap.size) (hn : U.length = n) (j : Nat) (u : Value) {U' : List TurnD} (hU : (U'.map TurnD.cs).flatten = (U.map TurnD.cs).flatten.set j u) (hl : U'.length = n) (hok : ∀ t ∈ U', t.ok) :
  TwAt p a len cap zs w b4 b5 E tv (.slice (some ⟨g, 0, none⟩) n ct) T U' (W.setCell ⟨g, j, none⟩ u) := by
 have o4 := h.o4
 have o5 := h.o5
 have hob : W.ownsRow E 38 4 (.slice (some ⟨g, 0, none⟩) n ct) n (U.map TurnD.cs).flatten := by have := h.ob; unfold OwnsT at this; rw [hn] at this; exact this
 obtain ⟨o1, hg⟩ := World.ownsRow.stored hob j u
 have hge := (World.ownsRow.lt hob g rfl).1
 have hF := Fr.of_grown hg
 have ng : g ≠ b5 := fun e => h.nb (by rw [e]; rfl)
 have l1 : w.heap.size < W.heap.size := World.block_lt_of_cell? _ _ h.r1
 have l2 : w.heap.size + 1 < W.heap.size := World.block_lt_of_cell? _ _ h.r2
 have l5 : b5 < W.heap.size := World.block_lt_of_cell? _ _ h.c5
 refine ⟨h.src.fr hF (fun b hb e => by injection e with e; omega), ?_, hF.cell (fun e => by injection e with e; omega) h.r1, (hF.frozen l1 (fun e => by injection e with e; omega)).trans h.q1, hF.cell (fun e => by injection e with e; omega) h.r2, (hF.frozen l2 (fun e => by injection e with e; omega)).trans h.q2, hF.cell (fun e => by injection e with e; omega) h.c4, hF.cell (fun e => by injection e with e; omega) h.c5, (hF.frozen l5 (fun e => by injection e with e; omega)).trans h.f5, own_neW h.ot (fun k hk e => by injection e with e; have := (h.lt k hk).1; omega) hF, h.lt, ?_, h.nb, ⟨o4.1, o4.2.1, Nat.le_trans o4.2.2 hF.size⟩, o5, h.lT, by rw [hl, ← hn]; exact h.lU, h.kT, hok⟩
 ·
  refine ⟨hg.os.trans h.grow.os, hg.tape.trans h.grow.tape, hg.output.trans h.grow.output, Nat.le_trans h.grow.size hg.size, fun k hk hne => ?_⟩
  rw [hg.block k (by have := h.grow.size; omega) (by simp; omega)]
  exact h.grow.block k hk hne
 ·
  unfold OwnsT; rw [hU, hl]; exact o1
/-- another second table. -/
theorem TwAt.other (h : TwAt p a len cap zs w b4 b5 E tv bv T U W) (hp : p < w.heap.size) (hS : SrcAt p a len cap zs W1) (hg : W.grownBy W1 (some p)) {bv' : Value} {U' : List TurnD} (ho : OwnsT W1 W.heap.size bv' U') (hl : U'.length ≤ 2000) (hok : ∀ t ∈ U', t.ok) :
  TwAt p a len cap zs w b4 b5 E tv bv' T U' (W1.setCell ⟨b5, 0, none⟩ bv') := by
 have h1 := h.drawn hp hS hg
 have o4 := h.o4
 have o5 := h.o5
 have l5 : b5 < W.heap.size := World.block_lt_of_cell? _ _ h.c5
 have l4 : b4 < W.heap.size := World.block_lt_of_cell? _ _ h.c4
 have g5 : W1.grownBy (W1.setCell ⟨b5, 0, none⟩ bv') (some b5) := Lib.grownBy_setB (World.grownBy.refl _ _) 0 bv'
 have hF := Fr.of_grown g5
 have l1 : w.heap.size < W1.heap.size := World.block_lt_of_cell? _ _ h1.r1
 have l2 : w.heap.size + 1 < W1.heap.size := World.block_lt_of_cell? _ _ h1.r2
 have nb' : bv'.ownBlock ≠ some b5 := fun e => by have := (World.ownsRow.lt ho b5 e).1; omega
 refine ⟨h1.src.fr hF (fun b hb e => by injection e with e; omega), ?_, hF.cell (fun e => by injection e with e; omega) h1.r1, (hF.frozen l1 (fun e => by injection e with e; omega)).trans h1.q1, hF.cell (fun e => by injection e with e; omega) h1.r2, (hF.frozen l2 (fun e => by injection e with e; omega)).trans h1.q2, hF.cell (fun e => by injection e with e; omega) h1.c4, World.cell?_setCell_same _ _ _ h1.c5, by rw [World.frozen?_setCell]; exact h1.f5, own_neW h1.ot (fun k hk e => by injection e with e; have := (h.lt k hk).2; omega) hF, h.lt, own_neW (owns_mono ho o4.2.2) (fun k hk e => nb' (by rw [hk]; exact e.symm ▸ rfl)) hF, nb', ⟨o4.1, o4.2.1, Nat.le_trans h1.o4.2.2 hF.size⟩, o5, h.lT, hl, h.kT, hok⟩
 refine ⟨g5.os.trans h1.grow.os, g5.tape.trans h1.grow.tape, g5.output.trans h1.grow.output, Nat.le_trans h1.grow.size g5.size, fun k hk hne => ?_⟩
 rw [g5.block k (by have := h1.grow.size; omega) (by simp; omega)]
 exact h1.grow.block k hk hne
end
end Go.Proofs.YtcelbkmnbjcjhaaGreat
