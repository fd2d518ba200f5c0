/- Packed: DrE Sm1 Mo1 Mo2. -/
import Derived.Test.YtcelbkmnbjcjhaaGreatDrPd
import Derived.Test.YtcelbkmnbjcjhaaGreatTbQd
import Derived.Test.YtcelbkmnbjcjhaaGreatBaseAd
namespace Go.Proofs.YtcelbkmnbjcjhaaGreat
open Go.RowKit

set_option maxHeartbeats 1000000 in
theorem src_edge (p : Nat) (a : Option Addr) (len cap : Nat) (zs : List Int) (w : World) (hS : SrcAt p a len cap zs w) :
  Calls Tryz.prog 55 #[.pointer (some ⟨p, 0, none⟩)] w fun e w' => ∃ v : Int, e = .returned (.int .i64 v) ∧ SrcAt p a len cap zs w' ∧ w.grownBy w' (some p) := by
 have hp := hS.lt
 go_enter Tryz.func55, Tryz.ntmps55
 go_wp2_with fail
 refine (src_n p a len cap zs 14 _ (hS.alloc _) (by omega) (by omega)).mono ?_
 rintro e w1 ⟨v, rfl, v0, v1, hS1, hg⟩
 obtain ⟨x, hx⟩ := pick_after [0, 1, -1, 2, 1000, 1001, 2147483648, 2147483647, -2147483648, 4611686018427387904, 9223372036854775807, -9223372036854775808, 1000000, 1000001] hp hg v0 (by simpa using v1)
 have hG := gtrans_alloc hg
 clear hg
 go_wp2
 go_ret
 exact ⟨_, rfl, hS1, hG⟩
set_option maxHeartbeats 1000000 in
theorem src_instant (p : Nat) (a : Option Addr) (len cap : Nat) (zs : List Int) (w : World) (hS : SrcAt p a len cap zs w) :
  Calls Tryz.prog 43 #[.pointer (some ⟨p, 0, none⟩)] w fun e w' => ∃ v : Int, e = .returned (.int .i64 v) ∧ SrcAt p a len cap zs w' ∧ w.grownBy w' (some p) := by
 go_enter Tryz.func43, Tryz.ntmps43
 go_wp2_with fail
 refine (src_one p a len cap zs 8 _ hS (by omega) (by omega)).mono ?_
 rintro e w1 ⟨v, rfl, hS1, hg1⟩
 cases v
 ·
  go_wp2_with fail
  refine (src_n p a len cap zs 4000000000 _ hS1 (by omega) (by omega)).mono ?_
  rintro e w2 ⟨v, rfl, v0, v1, hS2, hg2⟩
  go_wp2
  go_ret
  exact ⟨_, rfl, hS2, hg1.trans hg2⟩
 ·
  go_wp2_with fail
  refine (src_edge p a len cap zs _ hS1).mono ?_
  rintro e w2 ⟨u, rfl, hS2, hg2⟩
  go_wp2_with fail
  refine (src_n p a len cap zs 7 _ (hS2.alloc _) (by omega) (by omega)).mono ?_
  rintro e w3 ⟨v, rfl, v0, v1, hS3, hg3⟩
  obtain ⟨x, hx⟩ := pick_after [-62135596800, -62135596801, 253402300799, 253402300800, 0, -1, u] hS2.lt hg3 v0 (by simpa using v1)
  have hG := gtrans_alloc hg3
  clear hg3
  go_wp2
  go_ret
  exact ⟨_, rfl, hS3, hg1.trans (hg2.trans hG)⟩
end Go.Proofs.YtcelbkmnbjcjhaaGreat
namespace Go.Proofs.YtcelbkmnbjcjhaaGreat
open Go.RowKit

/-- what the drawing of a table calls. -/
structure SomeC (Rok : World → Value → Prop) : Prop where
 read : ∀ (s : ByteArray) (w : World), s.size ≤ 1000000 → Calls Tryz.prog 51 #[.string s] w fun e w' => ∃ (rv zv lv : Value) (ln cd : Int), e = .returned (.agg #[rv, zv, lv, .int .i64 ln, .int .i64 cd]) ∧ Below w.heap.size w w' ∧ Rok w' (.agg #[rv, zv, lv])
 tab : ∀ (v : Value) (w : World), Rok w v → Calls Tryz.prog 50 #[v, .string ⟨#[69, 117, 47, 65]⟩] w fun e w' => ∃ (tv : Value) (T : List TurnD) (cd : Int), e = .returned (.agg #[tv, .int .i64 cd]) ∧ OwnsT w' w.heap.size tv T ∧ T.length ≤ 600 ∧ (∀ t ∈ T, t.ok) ∧ Below w.heap.size w w'
/-- the table's variable, the result's, the source. -/
structure SmAt (p : Nat) (a : Option Addr) (len cap : Nat) (zs : List Int) (w : World) (N : Nat) (tv : Value) (T : List TurnD) (W : World) : Prop where
 src : SrcAt p a len cap zs W
 grow : w.grownBy W (some p)
 c : W.cell? ⟨w.heap.size + 1, 0, none⟩ = some tv
 f : W.frozen? ⟨w.heap.size + 1, 0, none⟩ = false
 rc : W.cell? ⟨w.heap.size, 0, none⟩ = some (.slice none 0 0)
 rf : W.frozen? ⟨w.heap.size, 0, none⟩ = false
 own : OwnsT W (w.heap.size + 1 + 1) tv T
 len : T.length ≤ N
 ok : ∀ t ∈ T, t.ok
structure SomeP (p : Nat) (a : Option Addr) (len cap : Nat) (zs : List Int) (w : World) (e : Ending) (w' : World) : Prop where
 ex : ∃ (tv : Value) (T : List TurnD), e = .returned (.agg #[tv]) ∧ OwnsT w' w.heap.size tv T ∧ T.length ≤ 2000 ∧ (∀ t ∈ T, t.ok) ∧ SrcAt p a len cap zs w' ∧ w.grownBy w' (some p)
section
variable {p : Nat} {a : Option Addr} {len cap : Nat} {zs : List Int} {w W W1 : World} {N : Nat} {tv : Value} {T : List TurnD}

theorem SrcAt.fr {S : Nat → Prop} (h : SrcAt p a len cap zs W) (hF : Fr S W W1) (hS : ∀ b, b ≤ p → ¬ S b) : SrcAt p a len cap zs W1 := by
 have hp := h.lt
 obtain ⟨k, mix, sz, k1, wm, ws, c0, c1, c2, c3, hf, hrow, hl, hz⟩ := h
 have np := hS p (Nat.le_refl _)
 refine ⟨k, mix, sz, k1, wm, ws, hF.cell np c0, hF.cell np c1, hF.cell np c2, hF.cell np c3, fun i hi => by rw [hF.frozen hp np]; exact hf i hi, ?_, hl, hz⟩
 rcases hrow with h | ⟨b, o, ha, hne, hc⟩
 ·
  exact .inl h
 ·
  refine .inr ⟨b, o, ha, hne, fun i hi => ?_⟩
  obtain ⟨z, h, z0, z1⟩ := hc i hi
  exact ⟨z, hF.cell (hS b (by omega)) h, z0, z1⟩
theorem SmAt.size (h : SmAt p a len cap zs w N tv T W) : w.heap.size + 1 + 1 ≤ W.heap.size := World.block_lt_of_cell? _ _ h.c
/-- the source is drawn from. -/
theorem SmAt.drawn (h : SmAt p a len cap zs w N tv T W) (hp : p < w.heap.size) (hS : SrcAt p a len cap zs W1) (hg : W.grownBy W1 (some p)) : SmAt p a len cap zs w N tv T W1 := by
 have hs := h.size
 refine ⟨hS, h.grow.trans hg, hg.cell h.c (by simp; omega), ?_, hg.cell h.rc (by simp; omega), ?_, World.ownsRow.kept h.own hg ?_, h.len, h.ok⟩
 ·
  rw [hg.frozen_far _ (by show w.heap.size + 1 < W.heap.size; omega) (by simp; omega)]; exact h.f
 ·
  rw [hg.frozen_far _ (by show w.heap.size < W.heap.size; omega) (by simp; omega)]; exact h.rf
 ·
  cases e : tv.ownBlock with
  | none => exact .inl rfl
  | some g => right; intro e2; have := (World.ownsRow.lt h.own g e).1; injection e2 with e2; omega
theorem SmAt.below (h : SmAt p a len cap zs w N tv T W) (hb : Below W.heap.size W W1) : SmAt p a len cap zs w N tv T W1 := by
 have hs := h.size
 have ⟨b1, b2⟩ := bcell hb
 exact ⟨h.src.grown hb, h.grow.trans (World.grownBy_of_below hb _), (b1 _ _ (by omega)).trans h.c, (b2 _ _ (by omega)).trans h.f, (b1 _ _ (by omega)).trans h.rc, (b2 _ _ (by omega)).trans h.rf, owns_below h.own hb, h.len, h.ok⟩
theorem SmAt.alloc (h : SmAt p a len cap zs w N tv T W) (o : Obj) : SmAt p a len cap zs w N tv T (W.alloc o) := h.below ((Below.refl _ _).alloc (Nat.le_refl _) o)
theorem SmAt.drew (h : SmAt p a len cap zs w N tv T W) : SmAt p a len cap zs w N tv T W.drew := h.below (below_drew W)
/-- another table is stored. -/
theorem SmAt.store (h : SmAt p a len cap zs w N tv T W) (hp : p < w.heap.size) {S : Nat → Prop} (hF : Fr S W W1) (hS : ∀ b, b < W.heap.size → S b → w.heap.size + 1 + 1 ≤ b) {tv' : Value} {T' : List TurnD} {N' : Nat} (own : OwnsT W1 (w.heap.size + 1 + 1) tv' T') (hl : T'.length ≤ N') (hok : ∀ t ∈ T', t.ok) :
  SmAt p a len cap zs w N' tv' T' (W1.setCell ⟨w.heap.size + 1, 0, none⟩ tv') := by
 have hs := h.size
 have nS : ∀ b, b < w.heap.size + 1 + 1 → ¬ S b := fun b hb h1 => by have := hS b (by omega) h1; omega
 have hg : W1.grownBy (W1.setCell ⟨w.heap.size + 1, 0, none⟩ tv') (some (w.heap.size + 1)) := Lib.grownBy_setB (World.grownBy.refl _ _) 0 tv'
 have c1 := hF.cell (nS _ (by omega)) h.c
 have f1 := (hF.frozen (o := 0) (by omega) (nS (w.heap.size + 1) (by omega))).trans h.f
 have r1 := hF.cell (nS _ (by omega)) h.rc
 have q1 := (hF.frozen (o := 0) (by omega) (nS (w.heap.size) (by omega))).trans h.rf
 have hs1 := hF.size
 refine ⟨(h.src.fr hF fun b hb => nS b (by omega)).fr (Fr.of_grown hg) fun b hb e => by injection e with e; omega, ?_, World.cell?_setCell_same _ _ _ c1, by rw [World.frozen?_setCell]; exact f1, hg.cell r1 (by simp), by rw [World.frozen?_setCell]; exact q1, World.ownsRow.kept own hg ?_, hl, hok⟩
 ·
  refine ⟨hg.os.trans (hF.os.trans h.grow.os), hg.tape.trans (hF.tape.trans h.grow.tape), hg.output.trans (hF.output.trans h.grow.output), Nat.le_trans h.grow.size (Nat.le_trans hs1 hg.size), fun k hk hne => ?_⟩
  rw [hg.block k (by omega) (by simp; omega), hF.block k (by omega) (nS k (by omega))]
  exact h.grow.block k hk hne
 ·
  cases e : tv'.ownBlock with
  | none => exact .inl rfl
  | some g => right; intro e2; have := (World.ownsRow.lt own g e).1; injection e2 with e2; omega
/-- a turn is appended. -/
theorem SmAt.app (h : SmAt p a len cap zs w N tv T W) (hp : p < w.heap.size) {o : Obj} {tv' : Value} {T' : List TurnD} {N' : Nat} (hg : (W.alloc o).grownBy W1 tv.ownBlock) (own : OwnsT W1 (w.heap.size + 1 + 1) tv' T') (hl : T'.length ≤ N') (hok : ∀ t ∈ T', t.ok) :
  SmAt p a len cap zs w N' tv' T' (W1.setCell ⟨w.heap.size + 1, 0, none⟩ tv') := by
 have hF : Fr (fun b => tv.ownBlock = some b) W W1 := (Fr.of_below (S := fun b => tv.ownBlock = some b) ((Below.refl W.heap.size W).alloc (Nat.le_refl _) o)).trans (Fr.of_grown hg)
 exact h.store hp hF (fun b _ hb => (World.ownsRow.lt h.own b hb).1) own hl hok
theorem SmAt.slice (h : SmAt p a len cap zs w N tv T W) : ∃ b c, tv = .slice b T.length c := by
 obtain ⟨b, c, h1, _⟩ := h.own.seq
 exact ⟨b, c, h1⟩
/-- the answer. -/
theorem SmAt.done (h : SmAt p a len cap zs w N tv T W) (hp : p < w.heap.size) (hN : N ≤ 2000) : SomeP p a len cap zs w (.returned (.agg #[tv])) (W.setCell ⟨w.heap.size, 0, none⟩ tv) := by
 have hs := h.size
 have hg : W.grownBy (W.setCell ⟨w.heap.size, 0, none⟩ tv) (some w.heap.size) := Lib.grownBy_setB (World.grownBy.refl _ _) 0 tv
 refine ⟨tv, T, rfl, owns_mono (World.ownsRow.kept h.own hg ?_) (by omega), Nat.le_trans h.len hN, h.ok, h.src.fr (Fr.of_grown hg) (fun b hb e => by injection e with e; omega), ?_⟩
 ·
  cases e : tv.ownBlock with
  | none => exact .inl rfl
  | some g => right; intro e2; have := (World.ownsRow.lt h.own g e).1; injection e2 with e2; omega
 ·
  refine ⟨hg.os.trans h.grow.os, hg.tape.trans h.grow.tape, hg.output.trans h.grow.output, Nat.le_trans h.grow.size hg.size, fun k hk hne => ?_⟩
  rw [hg.block k (by omega) (by simp; omega)]
  exact h.grow.block k hk hne
end
end Go.Proofs.YtcelbkmnbjcjhaaGreat
namespace Go.Proofs.YtcelbkmnbjcjhaaGreat
open Go.RowKit
/-- the cells of a turn of one's own. -/
theorem OwnsT.get {w : World} {B : Nat} {v : Value} {T : List TurnD} (h : OwnsT w B v T) {k : Nat} (hk : k < T.length) : ∃ g c t, v = .slice (some ⟨g, 0, none⟩) T.length c ∧ T[k]? = some t ∧ B ≤ g ∧ g < w.heap.size ∧ w.cell? ⟨g, k * 4, none⟩ = some (.int .i64 t.at_) ∧ w.cell? ⟨g, k * 4 + 1, none⟩ = some (.int .i64 t.offset) := by
 have h' : w.ownsRow B 38 4 v T.length (T.map TurnD.cs).flatten := h
 rcases h'.2 with ⟨_, h0⟩ | ⟨g, c, cur, hv, hb, hg, _⟩
 ·
  omega
 ·
  subst hv
  have hT : T[k]? = some T[k] := List.getElem?_eq_getElem hk
  have hm : (T.map TurnD.cs)[k]? = some T[k].cs := by rw [List.getElem?_map, hT]; rfl
  refine ⟨g, c, T[k], rfl, hT, hb, (Array.getElem?_eq_some_iff.1 hg).1, ?_, ?_⟩
  ·
   rw [h'.cellAt (k * 4) (by omega)]
   exact flat_at (q := 4) turnCs_len (j := 0) hm rfl
  ·
   rw [h'.cellAt (k * 4 + 1) (by omega)]
   exact flat_at (q := 4) turnCs_len (j := 1) hm rfl
theorem sep_p {w : World} {B p : Nat} {v : Value} {T : List TurnD} (h : OwnsT w B v T) (hB : p < B) : v.ownBlock = none ∨ v.ownBlock ≠ some p := by
 cases e : v.ownBlock with
 | none => exact .inl rfl
 | some g => right; intro e2; have := (World.ownsRow.lt h g e).1; injection e2 with e2; omega
end Go.Proofs.YtcelbkmnbjcjhaaGreat
namespace Go.Proofs.YtcelbkmnbjcjhaaGreat
open Go.RowKit
set_option linter.unusedSimpArgs false in
set_option maxRecDepth 20000 in
set_option maxHeartbeats 8000000 in
theorem src_near (p : Nat) (a : Option Addr) (len cap : Nat) (zs : List Int) (tv : Value) (T : List TurnD) (B : Nat) (w : World) (hS : SrcAt p a len cap zs w) (hO : OwnsT w B tv T) (hB : p < B) (hl : T.length ≤ 2000) :
  Calls Tryz.prog 22 #[.pointer (some ⟨p, 0, none⟩), .agg #[tv]] w fun e w' => ∃ v : Int, e = .returned (.int .i64 v) ∧ SrcAt p a len cap zs w' ∧ w.grownBy w' (some p) := by
 obtain ⟨bt, ct, rfl⟩ : ∃ b c, tv = .slice b T.length c := by obtain ⟨b, c, h, _⟩ := hO.seq; exact ⟨b, c, h⟩
 have hp := hS.lt
 obtain ⟨n, hn⟩ : ∃ n, T.length = n := ⟨_, rfl⟩
 have HN : Hid (T.length = n) := hn
 rw [hn] at hO hl
 rw [hn]
 clear hn
 have S0 := hS.alloc (.cells #[.slice bt n ct] 25)
 have G0 := World.grownBy_alloc w (.cells #[.slice bt n ct] 25) (some p)
 have c0 : (w.alloc (.cells #[.slice bt n ct] 25)).cell? ⟨w.heap.size, 0, none⟩ = some (.slice bt n ct) := by simp [go_sem]
 have O0 : OwnsT (w.alloc (.cells #[.slice bt n ct] 25)) B (.slice bt n ct) T := World.ownsRow.alloc hO _
 clear hS hO
 by_cases h0 : n < 2
 ·
  have h0' : (n : Int) < 2 := by omega
  skip
  go_enter Tryz.func22, Tryz.ntmps22
  go_wp2_with fail
  refine (src_instant p a len cap zs _ S0).mono ?_
  rintro e w1 ⟨v, rfl, S1, g1⟩
  go_wp2
  go_ret
  exact ⟨v, rfl, S1, G0.trans g1⟩
 ·
  have h0' : ¬ (n : Int) < 2 := by omega
  go_enter Tryz.func22, Tryz.ntmps22
  go_wp2_with fail
  refine (src_one p a len cap zs 8 _ S0 (by omega) (by omega)).mono ?_
  rintro e w1 ⟨v, rfl, S1, g1⟩
  have G1 := G0.trans g1
  have O1 : OwnsT w1 B (.slice bt n ct) T := World.ownsRow.kept O0 g1 (sep_p O0 hB)
  have c1 := g1.cell (a := ⟨w.heap.size, 0, none⟩) c0 (by simp; omega)
  clear g1 S0 c0 O0 G0
  cases v
  case true =>
   go_wp2_with fail
   refine (src_instant p a len cap zs _ S1).mono ?_
   rintro e w2 ⟨v, rfl, S2, g2⟩
   go_wp2
   go_ret
   exact ⟨v, rfl, S2, G1.trans g2⟩
  case false =>
   have qn : IntKind.i64.wrap ((n : Int) - 1) = (n : Int) - 1 := by rw [IntKind.wrap_i64]; omega
   go_wp2_with fail
   refine (src_n p a len cap zs ((n : Int) - 1) _ S1 (by omega) (by omega)).mono ?_
   rintro e w2 ⟨kz, rfl, k0, k1, S2, g2⟩
   have G2 := G1.trans g2
   have O2 : OwnsT w2 B (.slice bt n ct) T := World.ownsRow.kept O1 g2 (sep_p O1 hB)
   have c2 := g2.cell (a := ⟨w.heap.size, 0, none⟩) c1 (by simp; omega)
   obtain ⟨k, hk⟩ : ∃ k : Nat, 1 + kz = (k : Int) := ⟨(1 + kz).toNat, by omega⟩
   have qk : IntKind.i64.wrap (1 + kz) = (k : Int) := by rw [IntKind.wrap_i64]; omega
   have kb1 : 1 ≤ k := by omega
   have kb2 : (k : Int) < (n : Int) := by omega
   obtain ⟨g, c, t, hv, ht, hBg, hgl, ca, co⟩ := O2.get (k := k) (by have := HN.out; omega)
   injection hv with hv1 hv2 hv3
   subst hv1 hv3
   generalize t.at_ = ta at *
   have hoff : ∀ j : Nat, j < n → ∃ off : Int, w2.cell? ⟨g, j * 4 + 1, none⟩ = some (.int .i64 off) := fun j hj => by
    obtain ⟨g3, c3, t3, hv3, _, _, _, _, co3⟩ := O2.get (k := j) (by have := HN.out; omega)
    injection hv3 with hv3 _ _
    injection hv3 with hv3
    injection hv3 with hv3 _ _
    subst hv3
    exact ⟨_, co3⟩
   have HO : Hid (∀ j : Nat, j < n → ∃ off : Int, w2.cell? ⟨g, j * 4 + 1, none⟩ = some (.int .i64 off)) := hoff
   clear g2 S1 c1 O1 G1 k0 ht co hv2 O2 hoff hk k1
   go_wp2_with fail
   refine wp_region_noPanic ?_
   refine wp_region_held_drew (S := fun w' => w'.cell? ⟨w.heap.size, 0, none⟩ = some (.slice (some ⟨g, 0, none⟩) n ct) ∧ w'.cell? ⟨g, k * 4, none⟩ = some (.int .i64 ta)) (by kernel_rfl) ⟨by simpa using c2, by simpa using ca⟩ (fun hHeld => ?_)
   have S3 : SrcAt p a len cap zs w2.drew := S2.grown (below_drew w2)
   have G3 : w.grownBy w2.drew (some p) := G2.trans (World.grownBy_of_below (below_drew w2) _)
   clear S2 G2 c2 ca
   refine wpAnyH_take (i := 0) (v := ?v1) rfl (by kernel_rfl) (by kernel_rfl) (by kernel_rfl) (fun _ _ _ h => h) (Or.inl ⟨by rfl, ?y1⟩) hHeld ?z1
   case y1 => (intro wq hSw; (try dsimp only at hSw); go_simp; try with_reducible rfl)
   try simp only [Act.put, List.setIfInBounds_toArray, List.set_cons_zero, List.set_cons_succ]
   refine wpAnyH_take (i := 1) (v := ?v2) rfl (by kernel_rfl) (by kernel_rfl) (by kernel_rfl) (fun _ _ _ h => h) (Or.inl ⟨by rfl, ?y2⟩) hHeld ?z2
   case y2 => (intro wq hSw; (try dsimp only at hSw); go_simp; try with_reducible rfl)
   try simp only [Act.put, List.setIfInBounds_toArray, List.set_cons_zero, List.set_cons_succ]
   refine wpAnyH_take (i := 2) (v := ?v3) rfl (by kernel_rfl) (by kernel_rfl) (by kernel_rfl) (fun _ _ _ h => h) (Or.inl ⟨by rfl, ?y3⟩) hHeld ?z3
   case y3 => (intro wq hSw; (try dsimp only at hSw); go_simp; try with_reducible rfl)
   try simp only [Act.put, List.setIfInBounds_toArray, List.set_cons_zero, List.set_cons_succ]
   refine wpAnyH_take (i := 3) (v := ?v4) rfl (by kernel_rfl) (by kernel_rfl) (by kernel_rfl) (fun _ _ _ h => h) (Or.inl ⟨by rfl, ?y4⟩) hHeld ?z4
   case y4 => (intro wq hSw; (try dsimp only at hSw); go_simp; try with_reducible rfl)
   try simp only [Act.put, List.setIfInBounds_toArray, List.set_cons_zero, List.set_cons_succ]
   refine wpAnyH_take (i := 4) (v := ?v5) rfl (by kernel_rfl) (by kernel_rfl) (by kernel_rfl) (fun _ _ _ h => h) (Or.inl ⟨by rfl, ?y5⟩) hHeld ?z5
   case y5 => (intro wq hSw; (try dsimp only at hSw); go_simp; try with_reducible rfl)
   try simp only [Act.put, List.setIfInBounds_toArray, List.set_cons_zero, List.set_cons_succ]
   refine wpAnyH_take (i := 5) (v := ?v6) rfl (by kernel_rfl) (by kernel_rfl) (by kernel_rfl) (fun _ _ _ h => h) (Or.inl ⟨by rfl, ?y6⟩) hHeld ?z6
   case y6 => (intro wq hSw; (try dsimp only at hSw); go_simp; try with_reducible rfl)
   try simp only [Act.put, List.setIfInBounds_toArray, List.set_cons_zero, List.set_cons_succ]
   refine wpAnyH_take (i := 6) (v := ?v7) rfl (by kernel_rfl) (by kernel_rfl) (by kernel_rfl) (fun _ _ _ h => h) (Or.inl ⟨by rfl, ?y7⟩) hHeld ?z7
   case y7 => (intro wq hSw; (try dsimp only at hSw); go_simp; try with_reducible rfl)
   try simp only [Act.put, List.setIfInBounds_toArray, List.set_cons_zero, List.set_cons_succ]
   refine wpAnyH_take (i := 7) (v := ?v8) rfl (by kernel_rfl) (by kernel_rfl) (by kernel_rfl) (fun _ _ _ h => h) (Or.inl ⟨by rfl, ?y8⟩) hHeld ?z8
   case y8 => (intro wq hSw; (try dsimp only at hSw); go_simp; try with_reducible rfl)
   try simp only [Act.put, List.setIfInBounds_toArray, List.set_cons_zero, List.set_cons_succ]
   refine wpAnyH_take (i := 8) (v := ?v9) rfl (by kernel_rfl) (by kernel_rfl) (by kernel_rfl) (fun _ _ _ h => h) (Or.inl ⟨by rfl, ?y9⟩) hHeld ?z9
   case y9 => (intro wq hSw; (try dsimp only at hSw); go_simp; try with_reducible rfl)
   try simp only [Act.put, List.setIfInBounds_toArray, List.set_cons_zero, List.set_cons_succ]
   refine wpAnyH_take (i := 9) (v := ?v10) rfl (by kernel_rfl) (by kernel_rfl) (by kernel_rfl) (fun _ _ _ h => h) (Or.inl ⟨by rfl, ?y10⟩) hHeld ?z10
   case y10 => (intro wq hSw; (try dsimp only at hSw); go_simp; try with_reducible rfl)
   try simp only [Act.put, List.setIfInBounds_toArray, List.set_cons_zero, List.set_cons_succ]
   refine wpAnyH_take (i := 17) (v := ?v11) rfl (by kernel_rfl) (by kernel_rfl) (by kernel_rfl) (fun _ _ _ h => h) (Or.inl ⟨by rfl, ?y11⟩) hHeld ?z11
   case y11 => (intro wq hSw; (try dsimp only at hSw); go_simp; try with_reducible rfl)
   try simp only [Act.put, List.setIfInBounds_toArray, List.set_cons_zero, List.set_cons_succ]
   refine wpAnyH_ready (rs := [10, 16]) (by kernel_rfl) (by simp) ?_
   refine AllReadyH.cons rfl (fun K hK => ?_) (AllReadyH.cons rfl (fun K hK => ?_) AllReadyH.nil)
   ·
    skip
    go_simp
    refine (src_n p a len cap zs 2 _ (S3) (by omega) (by omega)).mono ?_
    rintro e w4 ⟨x, rfl, lx, ux, S4, g4⟩
    have hH2 : (fun w' => w'.cell? ⟨w.heap.size, 0, none⟩ = some (.slice (some ⟨g, 0, none⟩) n ct) ∧ w'.cell? ⟨g, k * 4, none⟩ = some (.int .i64 ta)) w4 := ⟨g4.cell (a := ⟨w.heap.size, 0, none⟩) (hHeld.1) (by simp; omega), g4.cell (a := ⟨g, k * 4, none⟩) (hHeld.2) (by simp; omega)⟩
    go_wp2_with fail
    refine hK.out _ _ hH2 (fun hHeld => ?_)
    clear hK K hH2
    try simp only [Act.put, List.setIfInBounds_toArray, List.set_cons_zero, List.set_cons_succ]
    have G4 := G3.trans g4
    obtain ⟨j, hj⟩ : ∃ j : Nat, (k : Int) - x = (j : Int) := ⟨((k : Int) - x).toNat, by omega⟩
    have qj : IntKind.i64.wrap ((k : Int) - x) = (j : Int) := by rw [IntKind.wrap_i64]; omega
    have jb : (j : Int) < (n : Int) := by omega
    obtain ⟨off, co⟩ := HO.out j (by omega)
    have co2 := g4.cell (a := ⟨g, j * 4 + 1, none⟩) (show w2.drew.cell? ⟨g, j * 4 + 1, none⟩ = _ from co) (by simp; omega)
    clear hj co
    refine wpAnyH_sub (S2 := fun w' => w'.cell? ⟨w.heap.size, 0, none⟩ = some (.slice (some ⟨g, 0, none⟩) n ct) ∧ w'.cell? ⟨g, k * 4, none⟩ = some (.int .i64 ta) ∧ w'.cell? ⟨g, j * 4 + 1, none⟩ = some (.int .i64 off)) (fun _ h => ⟨h.1, h.2.1⟩) _ _ _ _ ?_
    have hHeld : (fun w' => w'.cell? ⟨w.heap.size, 0, none⟩ = some (.slice (some ⟨g, 0, none⟩) n ct) ∧ w'.cell? ⟨g, k * 4, none⟩ = some (.int .i64 ta) ∧ w'.cell? ⟨g, j * 4 + 1, none⟩ = some (.int .i64 off)) w4 := ⟨hHeld.1, hHeld.2, co2⟩
    refine wpAnyH_take (i := 11) (v := ?v12) rfl (by kernel_rfl) (by kernel_rfl) (by kernel_rfl) (fun _ _ _ h => h) (Or.inl ⟨by rfl, ?y12⟩) hHeld ?z12
    case y12 => (intro wq hSw; (try dsimp only at hSw); go_simp; try with_reducible rfl)
    try simp only [Act.put, List.setIfInBounds_toArray, List.set_cons_zero, List.set_cons_succ]
    refine wpAnyH_take (i := 12) (v := ?v13) rfl (by kernel_rfl) (by kernel_rfl) (by kernel_rfl) (fun _ _ _ h => h) (Or.inl ⟨by rfl, ?y13⟩) hHeld ?z13
    case y13 => (intro wq hSw; (try dsimp only at hSw); go_simp; try with_reducible rfl)
    try simp only [Act.put, List.setIfInBounds_toArray, List.set_cons_zero, List.set_cons_succ]
    refine wpAnyH_take (i := 13) (v := ?v14) rfl (by kernel_rfl) (by kernel_rfl) (by kernel_rfl) (fun _ _ _ h => h) (Or.inl ⟨by rfl, ?y14⟩) hHeld ?z14
    case y14 => (intro wq hSw; (try dsimp only at hSw); go_simp; try with_reducible rfl)
    try simp only [Act.put, List.setIfInBounds_toArray, List.set_cons_zero, List.set_cons_succ]
    refine wpAnyH_take (i := 14) (v := ?v15) rfl (by kernel_rfl) (by kernel_rfl) (by kernel_rfl) (fun _ _ _ h => h) (Or.inl ⟨by rfl, ?y15⟩) hHeld ?z15
    case y15 => (intro wq hSw; (try dsimp only at hSw); go_simp; try with_reducible rfl)
    try simp only [Act.put, List.setIfInBounds_toArray, List.set_cons_zero, List.set_cons_succ]
    refine wpAnyH_take (i := 15) (v := ?v16) rfl (by kernel_rfl) (by kernel_rfl) (by kernel_rfl) (fun _ _ _ h => h) (Or.inl ⟨by rfl, ?y16⟩) hHeld ?z16
    case y16 => (intro wq hSw; (try dsimp only at hSw); go_simp; try with_reducible rfl)
    try simp only [Act.put, List.setIfInBounds_toArray, List.set_cons_zero, List.set_cons_succ]
    clear co2
    clear g4 S3 G3
    refine wpAnyH_ready (rs := [16, 18]) (by kernel_rfl) (by simp) ?_
    refine AllReadyH.cons rfl (fun K hK => ?_) (AllReadyH.cons rfl (fun K hK => ?_) AllReadyH.nil)
    ·
     skip
     go_simp
     refine hK.out _ _ ⟨keepC ((Below.refl _ w4).alloc (Nat.le_refl _) _) hHeld.1, keepC ((Below.refl _ w4).alloc (Nat.le_refl _) _) hHeld.2.1, keepC ((Below.refl _ w4).alloc (Nat.le_refl _) _) hHeld.2.2⟩ (fun hHeld => ?_)
     clear hK K
     try simp only [Act.put, List.setIfInBounds_toArray, List.set_cons_zero, List.set_cons_succ]
     refine wpAnyH_ready (rs := [18]) (by kernel_rfl) (by simp) ?_
     refine AllReadyH.cons rfl (fun K hK => ?_) AllReadyH.nil
     go_simp
     refine (src_n p a len cap zs 7 _ (S4.alloc _) (by omega) (by omega)).mono ?_
     rintro e w5 ⟨z, rfl, lz, uz, S6, g5⟩
     have hH2 : (fun w' => w'.cell? ⟨w.heap.size, 0, none⟩ = some (.slice (some ⟨g, 0, none⟩) n ct) ∧ w'.cell? ⟨g, k * 4, none⟩ = some (.int .i64 ta) ∧ w'.cell? ⟨g, j * 4 + 1, none⟩ = some (.int .i64 off)) w5 := ⟨g5.cell (a := ⟨w.heap.size, 0, none⟩) (hHeld.1) (by simp; omega), g5.cell (a := ⟨g, k * 4, none⟩) (hHeld.2.1) (by simp; omega), g5.cell (a := ⟨g, j * 4 + 1, none⟩) (hHeld.2.2) (by simp; omega)⟩
     go_wp2_with fail
     refine hK.out _ _ hH2 (fun hHeld => ?_)
     clear hK K hH2
     try simp only [Act.put, List.setIfInBounds_toArray, List.set_cons_zero, List.set_cons_succ]
     obtain ⟨y, cy⟩ := pick_after ([-1, 0, 1, 1800, -1800, 3599, 86400] : List Int) S4.lt g5 lz (by simpa using uz)
     have G6 := G4.trans (gtrans_alloc g5)
     obtain ⟨m, rfl⟩ := Int.eq_ofNat_of_zero_le lz
     simp only [Int.toNat_natCast] at cy
     clear g5 S4 G4 lz
     refine wpAnyH_sub (S2 := fun w' => w'.cell? ⟨w.heap.size, 0, none⟩ = some (.slice (some ⟨g, 0, none⟩) n ct) ∧ w'.cell? ⟨g, k * 4, none⟩ = some (.int .i64 ta) ∧ w'.cell? ⟨g, j * 4 + 1, none⟩ = some (.int .i64 off) ∧ w'.cell? ⟨w4.heap.size, m, none⟩ = some (.int .i64 y)) (fun _ h => ⟨h.1, h.2.1, h.2.2.1⟩) _ _ _ _ ?_
     have hHeld : (fun w' => w'.cell? ⟨w.heap.size, 0, none⟩ = some (.slice (some ⟨g, 0, none⟩) n ct) ∧ w'.cell? ⟨g, k * 4, none⟩ = some (.int .i64 ta) ∧ w'.cell? ⟨g, j * 4 + 1, none⟩ = some (.int .i64 off) ∧ w'.cell? ⟨w4.heap.size, m, none⟩ = some (.int .i64 y)) w5 := ⟨hHeld.1, hHeld.2.1, hHeld.2.2, cy⟩
     refine wpAnyH_take (i := 19) (v := ?v17) rfl (by kernel_rfl) (by kernel_rfl) (by kernel_rfl) (fun _ _ _ h => h) (Or.inl ⟨by rfl, ?y17⟩) hHeld ?z17
     case y17 => (intro wq hSw; (try dsimp only at hSw); go_simp; try with_reducible rfl)
     try simp only [Act.put, List.setIfInBounds_toArray, List.set_cons_zero, List.set_cons_succ]
     refine wpAnyH_take (i := 20) (v := ?v18) rfl (by kernel_rfl) (by kernel_rfl) (by kernel_rfl) (fun _ _ _ h => h) (Or.inl ⟨by rfl, ?y18⟩) hHeld ?z18
     case y18 => (intro wq hSw; (try dsimp only at hSw); go_simp; try with_reducible rfl)
     try simp only [Act.put, List.setIfInBounds_toArray, List.set_cons_zero, List.set_cons_succ]
     refine wpAnyH_take (i := 21) (v := ?v19) rfl (by kernel_rfl) (by kernel_rfl) (by kernel_rfl) (fun _ _ _ h => h) (Or.inl ⟨by rfl, ?y19⟩) hHeld ?z19
     case y19 => (intro wq hSw; (try dsimp only at hSw); go_simp; try with_reducible rfl)
     try simp only [Act.put, List.setIfInBounds_toArray, List.set_cons_zero, List.set_cons_succ]
     refine wpAnyH_take (i := 22) (v := ?v20) rfl (by kernel_rfl) (by kernel_rfl) (by kernel_rfl) (fun _ _ _ h => h) (Or.inl ⟨by rfl, ?y20⟩) hHeld ?z20
     case y20 => (intro wq hSw; (try dsimp only at hSw); go_simp; try with_reducible rfl)
     try simp only [Act.put, List.setIfInBounds_toArray, List.set_cons_zero, List.set_cons_succ]
     try simp only [Act.put, List.getElem_toArray, List.getElem_cons_succ, List.getElem_cons_zero, List.setIfInBounds_toArray, List.set_cons_zero, List.set_cons_succ]
     refine wpAnyH_done (by kernel_rfl) ?_ _
     refine NoPanic.normal ?_
     clear hHeld cy
     go_wp2
     go_ret
     first | exact ⟨_, rfl, S6, G6⟩ | exact ⟨S6, G6⟩
    ·
     skip
     go_simp
     refine (src_n p a len cap zs 7 _ (S4) (by omega) (by omega)).mono ?_
     rintro e w5 ⟨z, rfl, lz, uz, S5, g5⟩
     have hH2 : (fun w' => w'.cell? ⟨w.heap.size, 0, none⟩ = some (.slice (some ⟨g, 0, none⟩) n ct) ∧ w'.cell? ⟨g, k * 4, none⟩ = some (.int .i64 ta) ∧ w'.cell? ⟨g, j * 4 + 1, none⟩ = some (.int .i64 off)) w5 := ⟨g5.cell (a := ⟨w.heap.size, 0, none⟩) (hHeld.1) (by simp; omega), g5.cell (a := ⟨g, k * 4, none⟩) (hHeld.2.1) (by simp; omega), g5.cell (a := ⟨g, j * 4 + 1, none⟩) (hHeld.2.2) (by simp; omega)⟩
     go_wp2_with fail
     refine hK.out _ _ hH2 (fun hHeld => ?_)
     clear hK K hH2
     try simp only [Act.put, List.setIfInBounds_toArray, List.set_cons_zero, List.set_cons_succ]
     have G5 := G4.trans g5
     clear g5 S4 G4
     refine wpAnyH_ready (rs := [16]) (by kernel_rfl) (by simp) ?_
     refine AllReadyH.cons rfl (fun K hK => ?_) AllReadyH.nil
     have S6 := S5.alloc (.cells (([-1, 0, 1, 1800, -1800, 3599, 86400] : List Int).map (Value.int .i64)).toArray 2)
     have G6 : w.grownBy (w5.alloc (.cells (([-1, 0, 1, 1800, -1800, 3599, 86400] : List Int).map (Value.int .i64)).toArray 2)) (some p) := G5.trans (World.grownBy_alloc _ _ _)
     obtain ⟨m, rfl⟩ := Int.eq_ofNat_of_zero_le lz
     obtain ⟨y, cy⟩ : ∃ y : Int, (w5.alloc (.cells (([-1, 0, 1, 1800, -1800, 3599, 86400] : List Int).map (Value.int .i64)).toArray 2)).cell? ⟨w5.heap.size, m, none⟩ = some (.int .i64 y) := ⟨_, pick_int w5 2 ([-1, 0, 1, 1800, -1800, 3599, 86400] : List Int) m (by simp; omega)⟩
     clear lz S5 G5
     go_simp
     refine hK.out _ _ ⟨keepC ((Below.refl _ w5).alloc (Nat.le_refl _) _) hHeld.1, keepC ((Below.refl _ w5).alloc (Nat.le_refl _) _) hHeld.2.1, keepC ((Below.refl _ w5).alloc (Nat.le_refl _) _) hHeld.2.2⟩ (fun hHeld => ?_)
     clear hK K
     try simp only [Act.put, List.setIfInBounds_toArray, List.set_cons_zero, List.set_cons_succ]
     refine wpAnyH_sub (S2 := fun w' => w'.cell? ⟨w.heap.size, 0, none⟩ = some (.slice (some ⟨g, 0, none⟩) n ct) ∧ w'.cell? ⟨g, k * 4, none⟩ = some (.int .i64 ta) ∧ w'.cell? ⟨g, j * 4 + 1, none⟩ = some (.int .i64 off) ∧ w'.cell? ⟨w5.heap.size, m, none⟩ = some (.int .i64 y)) (fun _ h => ⟨h.1, h.2.1, h.2.2.1⟩) _ _ _ _ ?_
     have hHeld : (fun w' => w'.cell? ⟨w.heap.size, 0, none⟩ = some (.slice (some ⟨g, 0, none⟩) n ct) ∧ w'.cell? ⟨g, k * 4, none⟩ = some (.int .i64 ta) ∧ w'.cell? ⟨g, j * 4 + 1, none⟩ = some (.int .i64 off) ∧ w'.cell? ⟨w5.heap.size, m, none⟩ = some (.int .i64 y)) (w5.alloc (.cells (([-1, 0, 1, 1800, -1800, 3599, 86400] : List Int).map (Value.int .i64)).toArray 2)) := ⟨hHeld.1, hHeld.2.1, hHeld.2.2, cy⟩
     refine wpAnyH_take (i := 19) (v := ?v21) rfl (by kernel_rfl) (by kernel_rfl) (by kernel_rfl) (fun _ _ _ h => h) (Or.inl ⟨by rfl, ?y21⟩) hHeld ?z21
     case y21 => (intro wq hSw; (try dsimp only at hSw); go_simp; try with_reducible rfl)
     try simp only [Act.put, List.setIfInBounds_toArray, List.set_cons_zero, List.set_cons_succ]
     refine wpAnyH_take (i := 20) (v := ?v22) rfl (by kernel_rfl) (by kernel_rfl) (by kernel_rfl) (fun _ _ _ h => h) (Or.inl ⟨by rfl, ?y22⟩) hHeld ?z22
     case y22 => (intro wq hSw; (try dsimp only at hSw); go_simp; try with_reducible rfl)
     try simp only [Act.put, List.setIfInBounds_toArray, List.set_cons_zero, List.set_cons_succ]
     refine wpAnyH_take (i := 21) (v := ?v23) rfl (by kernel_rfl) (by kernel_rfl) (by kernel_rfl) (fun _ _ _ h => h) (Or.inl ⟨by rfl, ?y23⟩) hHeld ?z23
     case y23 => (intro wq hSw; (try dsimp only at hSw); go_simp; try with_reducible rfl)
     try simp only [Act.put, List.setIfInBounds_toArray, List.set_cons_zero, List.set_cons_succ]
     refine wpAnyH_take (i := 22) (v := ?v24) rfl (by kernel_rfl) (by kernel_rfl) (by kernel_rfl) (fun _ _ _ h => h) (Or.inl ⟨by rfl, ?y24⟩) hHeld ?z24
     case y24 => (intro wq hSw; (try dsimp only at hSw); go_simp; try with_reducible rfl)
     try simp only [Act.put, List.setIfInBounds_toArray, List.set_cons_zero, List.set_cons_succ]
     try simp only [Act.put, List.getElem_toArray, List.getElem_cons_succ, List.getElem_cons_zero, List.setIfInBounds_toArray, List.set_cons_zero, List.set_cons_succ]
     refine wpAnyH_done (by kernel_rfl) ?_ _
     refine NoPanic.normal ?_
     clear hHeld cy
     go_wp2
     go_ret
     first | exact ⟨_, rfl, S6, G6⟩ | exact ⟨S6, G6⟩
   ·
    skip
    have B3 : Below w2.heap.size w2 (w2.drew.alloc (.cells (([-1, 0, 1, 1800, -1800, 3599, 86400] : List Int).map (Value.int .i64)).toArray 2)) := (below_drew w2).alloc (Nat.le_refl _) _
    go_simp
    refine hK.out _ _ ⟨keepC ((Below.refl _ w2.drew).alloc (Nat.le_refl _) _) hHeld.1, keepC ((Below.refl _ w2.drew).alloc (Nat.le_refl _) _) hHeld.2⟩ (fun hHeld => ?_)
    clear hK K
    try simp only [Act.put, List.setIfInBounds_toArray, List.set_cons_zero, List.set_cons_succ]
    refine wpAnyH_ready (rs := [10]) (by kernel_rfl) (by simp) ?_
    refine AllReadyH.cons rfl (fun K hK => ?_) AllReadyH.nil
    go_simp
    refine (src_n p a len cap zs 2 _ (S3.alloc _) (by omega) (by omega)).mono ?_
    rintro e w4 ⟨x, rfl, lx, ux, S4, g4⟩
    have hH2 : (fun w' => w'.cell? ⟨w.heap.size, 0, none⟩ = some (.slice (some ⟨g, 0, none⟩) n ct) ∧ w'.cell? ⟨g, k * 4, none⟩ = some (.int .i64 ta)) w4 := ⟨g4.cell (a := ⟨w.heap.size, 0, none⟩) (hHeld.1) (by simp; omega), g4.cell (a := ⟨g, k * 4, none⟩) (hHeld.2) (by simp; omega)⟩
    go_wp2_with fail
    refine hK.out _ _ hH2 (fun hHeld => ?_)
    clear hK K hH2
    try simp only [Act.put, List.setIfInBounds_toArray, List.set_cons_zero, List.set_cons_succ]
    have hrow : ∀ m : Nat, m < 7 → ∃ y : Int, w4.cell? ⟨w2.heap.size, m, none⟩ = some (.int .i64 y) := fun m hm => ⟨_, g4.cell (pick_int w2.drew 2 ([-1, 0, 1, 1800, -1800, 3599, 86400] : List Int) m (by simpa using hm)) (by have := S3.lt; simp; exact fun e => by have : p < w2.heap.size := S3.lt; omega)⟩
    have G4 := G3.trans (gtrans_alloc g4)
    obtain ⟨j, hj⟩ : ∃ j : Nat, (k : Int) - x = (j : Int) := ⟨((k : Int) - x).toNat, by omega⟩
    have qj : IntKind.i64.wrap ((k : Int) - x) = (j : Int) := by rw [IntKind.wrap_i64]; omega
    have jb : (j : Int) < (n : Int) := by omega
    obtain ⟨off, co⟩ := HO.out j (by omega)
    have co2 := g4.cell (a := ⟨g, j * 4 + 1, none⟩) (keepC B3 co) (by simp; omega)
    clear hj co
    refine wpAnyH_sub (S2 := fun w' => w'.cell? ⟨w.heap.size, 0, none⟩ = some (.slice (some ⟨g, 0, none⟩) n ct) ∧ w'.cell? ⟨g, k * 4, none⟩ = some (.int .i64 ta) ∧ w'.cell? ⟨g, j * 4 + 1, none⟩ = some (.int .i64 off)) (fun _ h => ⟨h.1, h.2.1⟩) _ _ _ _ ?_
    have hHeld : (fun w' => w'.cell? ⟨w.heap.size, 0, none⟩ = some (.slice (some ⟨g, 0, none⟩) n ct) ∧ w'.cell? ⟨g, k * 4, none⟩ = some (.int .i64 ta) ∧ w'.cell? ⟨g, j * 4 + 1, none⟩ = some (.int .i64 off)) w4 := ⟨hHeld.1, hHeld.2, co2⟩
    refine wpAnyH_take (i := 11) (v := ?v25) rfl (by kernel_rfl) (by kernel_rfl) (by kernel_rfl) (fun _ _ _ h => h) (Or.inl ⟨by rfl, ?y25⟩) hHeld ?z25
    case y25 => (intro wq hSw; (try dsimp only at hSw); go_simp; try with_reducible rfl)
    try simp only [Act.put, List.setIfInBounds_toArray, List.set_cons_zero, List.set_cons_succ]
    refine wpAnyH_take (i := 12) (v := ?v26) rfl (by kernel_rfl) (by kernel_rfl) (by kernel_rfl) (fun _ _ _ h => h) (Or.inl ⟨by rfl, ?y26⟩) hHeld ?z26
    case y26 => (intro wq hSw; (try dsimp only at hSw); go_simp; try with_reducible rfl)
    try simp only [Act.put, List.setIfInBounds_toArray, List.set_cons_zero, List.set_cons_succ]
    refine wpAnyH_take (i := 13) (v := ?v27) rfl (by kernel_rfl) (by kernel_rfl) (by kernel_rfl) (fun _ _ _ h => h) (Or.inl ⟨by rfl, ?y27⟩) hHeld ?z27
    case y27 => (intro wq hSw; (try dsimp only at hSw); go_simp; try with_reducible rfl)
    try simp only [Act.put, List.setIfInBounds_toArray, List.set_cons_zero, List.set_cons_succ]
    refine wpAnyH_take (i := 14) (v := ?v28) rfl (by kernel_rfl) (by kernel_rfl) (by kernel_rfl) (fun _ _ _ h => h) (Or.inl ⟨by rfl, ?y28⟩) hHeld ?z28
    case y28 => (intro wq hSw; (try dsimp only at hSw); go_simp; try with_reducible rfl)
    try simp only [Act.put, List.setIfInBounds_toArray, List.set_cons_zero, List.set_cons_succ]
    refine wpAnyH_take (i := 15) (v := ?v29) rfl (by kernel_rfl) (by kernel_rfl) (by kernel_rfl) (fun _ _ _ h => h) (Or.inl ⟨by rfl, ?y29⟩) hHeld ?z29
    case y29 => (intro wq hSw; (try dsimp only at hSw); go_simp; try with_reducible rfl)
    try simp only [Act.put, List.setIfInBounds_toArray, List.set_cons_zero, List.set_cons_succ]
    clear co2
    have hpw : p < w2.heap.size := S3.lt
    have HRow : Hid (∀ m : Nat, m < 7 → ∃ y : Int, w4.cell? ⟨w2.heap.size, m, none⟩ = some (.int .i64 y)) := hrow
    clear g4 S3 G3 B3 hrow
    refine wpAnyH_ready (rs := [18]) (by kernel_rfl) (by simp) ?_
    refine AllReadyH.cons rfl (fun K hK => ?_) AllReadyH.nil
    go_simp
    refine (src_n p a len cap zs 7 _ (S4) (by omega) (by omega)).mono ?_
    rintro e w5 ⟨z, rfl, lz, uz, S6, g5⟩
    have hH2 : (fun w' => w'.cell? ⟨w.heap.size, 0, none⟩ = some (.slice (some ⟨g, 0, none⟩) n ct) ∧ w'.cell? ⟨g, k * 4, none⟩ = some (.int .i64 ta) ∧ w'.cell? ⟨g, j * 4 + 1, none⟩ = some (.int .i64 off)) w5 := ⟨g5.cell (a := ⟨w.heap.size, 0, none⟩) (hHeld.1) (by simp; omega), g5.cell (a := ⟨g, k * 4, none⟩) (hHeld.2.1) (by simp; omega), g5.cell (a := ⟨g, j * 4 + 1, none⟩) (hHeld.2.2) (by simp; omega)⟩
    go_wp2_with fail
    refine hK.out _ _ hH2 (fun hHeld => ?_)
    clear hK K hH2
    try simp only [Act.put, List.setIfInBounds_toArray, List.set_cons_zero, List.set_cons_succ]
    have G6 := G4.trans g5
    obtain ⟨m, rfl⟩ := Int.eq_ofNat_of_zero_le lz
    obtain ⟨y, cy0⟩ := HRow.out m (by omega)
    have cy := g5.cell (a := ⟨w2.heap.size, m, none⟩) cy0 (by simp; omega)
    clear g5 S4 G4 lz cy0
    refine wpAnyH_sub (S2 := fun w' => w'.cell? ⟨w.heap.size, 0, none⟩ = some (.slice (some ⟨g, 0, none⟩) n ct) ∧ w'.cell? ⟨g, k * 4, none⟩ = some (.int .i64 ta) ∧ w'.cell? ⟨g, j * 4 + 1, none⟩ = some (.int .i64 off) ∧ w'.cell? ⟨w2.heap.size, m, none⟩ = some (.int .i64 y)) (fun _ h => ⟨h.1, h.2.1, h.2.2.1⟩) _ _ _ _ ?_
    have hHeld : (fun w' => w'.cell? ⟨w.heap.size, 0, none⟩ = some (.slice (some ⟨g, 0, none⟩) n ct) ∧ w'.cell? ⟨g, k * 4, none⟩ = some (.int .i64 ta) ∧ w'.cell? ⟨g, j * 4 + 1, none⟩ = some (.int .i64 off) ∧ w'.cell? ⟨w2.heap.size, m, none⟩ = some (.int .i64 y)) w5 := ⟨hHeld.1, hHeld.2.1, hHeld.2.2, cy⟩
    refine wpAnyH_take (i := 19) (v := ?v30) rfl (by kernel_rfl) (by kernel_rfl) (by kernel_rfl) (fun _ _ _ h => h) (Or.inl ⟨by rfl, ?y30⟩) hHeld ?z30
    case y30 => (intro wq hSw; (try dsimp only at hSw); go_simp; try with_reducible rfl)
    try simp only [Act.put, List.setIfInBounds_toArray, List.set_cons_zero, List.set_cons_succ]
    refine wpAnyH_take (i := 20) (v := ?v31) rfl (by kernel_rfl) (by kernel_rfl) (by kernel_rfl) (fun _ _ _ h => h) (Or.inl ⟨by rfl, ?y31⟩) hHeld ?z31
    case y31 => (intro wq hSw; (try dsimp only at hSw); go_simp; try with_reducible rfl)
    try simp only [Act.put, List.setIfInBounds_toArray, List.set_cons_zero, List.set_cons_succ]
    refine wpAnyH_take (i := 21) (v := ?v32) rfl (by kernel_rfl) (by kernel_rfl) (by kernel_rfl) (fun _ _ _ h => h) (Or.inl ⟨by rfl, ?y32⟩) hHeld ?z32
    case y32 => (intro wq hSw; (try dsimp only at hSw); go_simp; try with_reducible rfl)
    try simp only [Act.put, List.setIfInBounds_toArray, List.set_cons_zero, List.set_cons_succ]
    refine wpAnyH_take (i := 22) (v := ?v33) rfl (by kernel_rfl) (by kernel_rfl) (by kernel_rfl) (fun _ _ _ h => h) (Or.inl ⟨by rfl, ?y33⟩) hHeld ?z33
    case y33 => (intro wq hSw; (try dsimp only at hSw); go_simp; try with_reducible rfl)
    try simp only [Act.put, List.setIfInBounds_toArray, List.set_cons_zero, List.set_cons_succ]
    try simp only [Act.put, List.getElem_toArray, List.getElem_cons_succ, List.getElem_cons_zero, List.setIfInBounds_toArray, List.set_cons_zero, List.set_cons_succ]
    refine wpAnyH_done (by kernel_rfl) ?_ _
    refine NoPanic.normal ?_
    clear hHeld cy
    go_wp2
    go_ret
    first | exact ⟨_, rfl, S6, G6⟩ | exact ⟨S6, G6⟩
end Go.Proofs.YtcelbkmnbjcjhaaGreat
