/- Packed: Ft1 FtMath. -/
import Derived.Test.YtcelbkmnbjcjhaaGreatDoorTsRk
import Derived.Test.YtcelbkmnbjcjhaaGreatDoorTbQk
import Derived.Test.YtcelbkmnbjcjhaaGreatDoorZonePk
import Derived.Test.YtcelbkmnbjcjhaaGreatDoorRelPk
import Derived.Deep.RegionHeld3
import Derived.Laws.StructEq
import Derived.Test.YtcelbkmnbjcjhaaGreatDoorTbSk
import Derived.Test.YtcelbkmnbjcjhaaGreatDoorTabPk
namespace Go.Proofs.YtcelbkmnbjcjhaaGreatDoor
open Go.RowKit

set_option maxRecDepth 100000 in
theorem fields_turnF : ∃ a b c d e f g h i j k l, (Tryz.prog.fieldsOf 53).toList = [⟨ "At", 2, 0, false, a, b, c⟩, ⟨ "Offset", 2, 1, false, d, e, f⟩, ⟨ "Save", 2, 2, false, g, h, i⟩, ⟨ "Abbr", 9, 3, false, j, k, l⟩] := ⟨_, _, _, _, _, _, _, _, _, _, _, _, rfl⟩
theorem neq_turnF (t o s : Int) (b : ByteArray) (w : World) : (binOp .neq 53 (.agg #[.int .i64 t, .int .i64 o, .int .i64 s, .string b]) (.agg #[.int .i64 t, .int .i64 o, .int .i64 s, .string b])).run Tryz.prog w = .ok (.bool false) w := by
 have ht : Tryz.prog.underlying 53 = some (.struct (Tryz.prog.fieldsOf 53)) := by kernel_rfl
 have hp : Tryz.prog.stoodInHeld 53 = false := by kernel_rfl
 obtain ⟨a, b', c, d, e, f, g, h, i, j, k, l, hf⟩ := fields_turnF
 rw [run_neq_struct, run_equalIn_agg _ 9999 _ _ _ ht hp, hf]
 simp [Op.eqFields, go_sem]
theorem guard_turnF (op : BinOp) (x y : Operand) (v1 v2 : Array Value) (w : World) : (eqGuard op 53 x y (.agg v1) (.agg v2)).run Tryz.prog w = .ok () w := run_eqGuard_agg w _ _ _ _ _ _ (by kernel_rfl)
theorem TabAt.get4 {w : World} {n c : Nat} {a : Option Addr} {T : List TurnD} (h : TabAt w (.agg #[.slice a n c]) T) {k : Nat} {t : TurnD} (hk : T[k]? = some t) : ∃ b o, a = some ⟨b, o, none⟩ ∧ w.cell? ⟨b, o + k * 4, none⟩ = some (.int .i64 t.at_) ∧ w.cell? ⟨b, o + k * 4 + 1, none⟩ = some (.int .i64 t.offset) ∧ w.cell? ⟨b, o + k * 4 + 2, none⟩ = some (.int .i64 t.save) ∧ w.cell? ⟨b, o + k * 4 + 3, none⟩ = some (.string t.abbr) := by
 obtain ⟨a', c', e, hs⟩ := h
 injection e with e
 injection e with e
 simp at e
 obtain ⟨rfl, rfl, rfl⟩ := e
 have hm : (T.map TurnD.cs)[k]? = some t.cs := by rw [List.getElem?_map, hk]; rfl
 obtain ⟨b, o, ha, hc⟩ := hs.at hm
 exact ⟨b, o, ha, hc 0 _ rfl, hc 1 _ rfl, hc 2 _ rfl, hc 3 _ rfl⟩
theorem OwnsT.tabF {w : World} {B : Nat} {v : Value} {T : List TurnD} (h : OwnsT w B v T) : TabAt w (.agg #[v]) T := by
 obtain ⟨a, c, rfl, h2⟩ := h.seq
 exact ⟨a, c, rfl, h2⟩
theorem EraSl.getO {w : World} {n c : Nat} {a : Option Addr} {E : List EraD} (h : EraSl w (.slice a n c) E) {k : Nat} {e : EraD} (hk : E[k]? = some e) : ∃ b o, a = some ⟨b, o, none⟩ ∧ w.cell? ⟨b, o + k * 6, none⟩ = some (.int .i64 e.offset) := by
 obtain ⟨a', c', e1, hs⟩ := h
 injection e1 with e1 e2 e3
 subst e1
 have hm : (E.map EraD.cs)[k]? = some e.cs := by rw [List.getElem?_map, hk]; rfl
 obtain ⟨b, o, ha, hc⟩ := hs.at hm
 exact ⟨b, o, ha, hc 0 _ rfl⟩
set_option linter.unusedSimpArgs false in
set_option maxRecDepth 20000 in
set_option maxHeartbeats 4000000 in
theorem laws_lwTable (T : List TurnD) (n : Nat) (a1 a2 : Option Addr) (c1 c2 : Nat) (w : World) (h1 : TabAt w (.agg #[.slice a1 n c1]) T) (h2 : TabAt w (.agg #[.slice a2 n c2]) T) (hn : T.length = n) (hl : n ≤ 1000000) :
  Calls Tryz.prog 14 #[.agg #[.slice a1 n c1], .agg #[.slice a2 n c2]] w fun e w' => e = .returned (.bool true) ∧ Below w.heap.size w w' := by
 have hneq := fun t o s b w => neq_turnF t o s b w
 have hgo := fun op x y v1 v2 w => guard_turnF op x y v1 v2 w
 have hB := ((Below.refl w.heap.size w).alloc (Nat.le_refl _) (.cells #[.slice a1 n c1] 42)).alloc (by simp) (.cells #[.slice a2 n c2] 42)
 have k1 := h1.below hB
 have k2 := h2.below hB
 have HN : Hid (T.length = n) := hn
 have hnn : ((n : Int) != (n : Int)) = false := by simp
 have x1 : ((w.alloc (.cells #[.slice a1 n c1] 42)).alloc (.cells #[.slice a2 n c2] 42)).cell? ⟨w.heap.size, 0, none⟩ = some (.slice a1 n c1) := by simp [go_sem]
 have x2 : ((w.alloc (.cells #[.slice a1 n c1] 42)).alloc (.cells #[.slice a2 n c2] 42)).cell? ⟨w.heap.size + 1, 0, none⟩ = some (.slice a2 n c2) := by simp [go_sem]
 clear h1 h2 hn
 go_enter Tryz.func14, Tryz.ntmps14
 go_wp2
 generalize ((w.alloc (.cells #[.slice a1 n c1] 42)).alloc (.cells #[.slice a2 n c2] 42)) = w0 at *
 go_loopw [5] (fun s wr => ∃ i : Nat, i ≤ n ∧ s = .int .i64 i ∧ Below w0.heap.size w0 wr) (fun s _ => n - (intOf s).toNat)
 case atStart => exact ⟨0, by omega, rfl, Below.refl _ _⟩
 case round =>
  obtain ⟨wa, hwa⟩ : ∃ x : World, x = wr := ⟨_, rfl⟩
  subst hwa
  obtain ⟨i, hi, rfl, hBr⟩ := hrel
  have y1 := keepC hBr x1
  have y2 := keepC hBr x2
  by_cases him : i < n
  ·
   have q1 : (i : Int) < (n : Int) := by omega
   have q0 : (0 : Int) ≤ (i : Int) := by omega
   obtain ⟨t, ht⟩ : ∃ t, T[i]? = some t := ⟨_, List.getElem?_eq_getElem (by have := HN.out; omega)⟩
   obtain ⟨b1, o1, rfl, u0, u1x, u2, u3⟩ := (k1.below hBr).get4 ht
   obtain ⟨b2, o2, rfl, v0, v1, v2, v3⟩ := (k2.below hBr).get4 ht
   obtain ⟨ta, tof, ts, tb⟩ := t
   simp only at u0 u1x u2 u3 v0 v1 v2 v3
   clear ht k1 k2 x1 x2
   go_wp2_with fail
   refine wp_region_noPanic ?_
   refine wp_region_held_drew (S := fun w' => w'.cell? ⟨w.heap.size, 0, none⟩ = some (.slice (some ⟨b1, o1, none⟩) n c1) ∧ w'.cell? ⟨w.heap.size + 1, 0, none⟩ = some (.slice (some ⟨b2, o2, none⟩) n c2) ∧ w'.cell? ⟨b1, o1 + i * 4, none⟩ = some (.int .i64 ta) ∧ w'.cell? ⟨b1, o1 + i * 4 + 1, none⟩ = some (.int .i64 tof) ∧ w'.cell? ⟨b1, o1 + i * 4 + 2, none⟩ = some (.int .i64 ts) ∧ w'.cell? ⟨b1, o1 + i * 4 + 3, none⟩ = some (.string tb) ∧ w'.cell? ⟨b2, o2 + i * 4, none⟩ = some (.int .i64 ta) ∧ w'.cell? ⟨b2, o2 + i * 4 + 1, none⟩ = some (.int .i64 tof) ∧ w'.cell? ⟨b2, o2 + i * 4 + 2, none⟩ = some (.int .i64 ts) ∧ w'.cell? ⟨b2, o2 + i * 4 + 3, none⟩ = some (.string tb)) (by kernel_rfl) ⟨(show wa.drew.cell? ⟨w.heap.size, 0, none⟩ = _ from y1), (show wa.drew.cell? ⟨w.heap.size + 1, 0, none⟩ = _ from y2), (show wa.drew.cell? ⟨b1, o1 + i * 4, none⟩ = _ from u0), (show wa.drew.cell? ⟨b1, o1 + i * 4 + 1, none⟩ = _ from u1x), (show wa.drew.cell? ⟨b1, o1 + i * 4 + 2, none⟩ = _ from u2), (show wa.drew.cell? ⟨b1, o1 + i * 4 + 3, none⟩ = _ from u3), (show wa.drew.cell? ⟨b2, o2 + i * 4, none⟩ = _ from v0), (show wa.drew.cell? ⟨b2, o2 + i * 4 + 1, none⟩ = _ from v1), (show wa.drew.cell? ⟨b2, o2 + i * 4 + 2, none⟩ = _ from v2), (show wa.drew.cell? ⟨b2, o2 + i * 4 + 3, none⟩ = _ from v3)⟩ (fun hHeld => ?_)
   refine wpAnyH_take (i := 0) (v := ?v1) rfl (by kernel_rfl) (by kernel_rfl) (by kernel_rfl) (fun _ _ _ h => h) (Or.inl ⟨by kernel_rfl, ?y1⟩) hHeld ?z1
   case y1 => (intro wq hSw; (try dsimp only at hSw); go_simp; try with_reducible rfl)
   try simp only [Act.put, qq1, qq2, qq3]
   refine wpAnyH_take (i := 1) (v := ?v2) rfl (by kernel_rfl) (by kernel_rfl) (by kernel_rfl) (fun _ _ _ h => h) (Or.inl ⟨by kernel_rfl, ?y2⟩) hHeld ?z2
   case y2 => (intro wq hSw; (try dsimp only at hSw); go_simp; try with_reducible rfl)
   try simp only [Act.put, qq1, qq2, qq3]
   refine wpAnyH_take (i := 2) (v := ?v3) rfl (by kernel_rfl) (by kernel_rfl) (by kernel_rfl) (fun _ _ _ h => h) (Or.inl ⟨by kernel_rfl, ?y3⟩) hHeld ?z3
   case y3 => (intro wq hSw; (try dsimp only at hSw); go_simp; try with_reducible rfl)
   try simp only [Act.put, qq1, qq2, qq3]
   refine wpAnyH_take (i := 3) (v := ?v4) rfl (by kernel_rfl) (by kernel_rfl) (by kernel_rfl) (fun _ _ _ h => h) (Or.inl ⟨by kernel_rfl, ?y4⟩) hHeld ?z4
   case y4 => (intro wq hSw; (try dsimp only at hSw); go_simp; try with_reducible rfl)
   try simp only [Act.put, qq1, qq2, qq3]
   refine wpAnyH_take (i := 4) (v := ?v5) rfl (by kernel_rfl) (by kernel_rfl) (by kernel_rfl) (fun _ _ _ h => h) (Or.inl ⟨by kernel_rfl, ?y5⟩) hHeld ?z5
   case y5 => (intro wq hSw; (try dsimp only at hSw); go_simp; try with_reducible rfl)
   try simp only [Act.put, qq1, qq2, qq3]
   refine wpAnyH_take (i := 5) (v := ?v6) rfl (by kernel_rfl) (by kernel_rfl) (by kernel_rfl) (fun _ _ _ h => h) (Or.inl ⟨by kernel_rfl, ?y6⟩) hHeld ?z6
   case y6 => (intro wq hSw; (try dsimp only at hSw); go_simp; try with_reducible rfl)
   try simp only [Act.put, qq1, qq2, qq3]
   refine wpAnyH_take (i := 6) (v := ?v7) rfl (by kernel_rfl) (by kernel_rfl) (by kernel_rfl) (fun _ _ _ h => h) (Or.inl ⟨by kernel_rfl, ?y7⟩) hHeld ?z7
   case y7 => (intro wq hSw; (try dsimp only at hSw); go_simp; try with_reducible rfl)
   try simp only [Act.put, qq1, qq2, qq3]
   refine wpAnyH_take (i := 7) (v := ?v8) rfl (by kernel_rfl) (by kernel_rfl) (by kernel_rfl) (fun _ _ _ h => h) (Or.inl ⟨by kernel_rfl, ?y8⟩) hHeld ?z8
   case y8 => (intro wq hSw; (try dsimp only at hSw); go_simp; try with_reducible rfl)
   try simp only [Act.put, qq1, qq2, qq3]
   refine wpAnyH_take (i := 8) (v := ?v9) rfl (by kernel_rfl) (by kernel_rfl) (by kernel_rfl) (fun _ _ _ h => h) (Or.inl ⟨by kernel_rfl, ?y9⟩) hHeld ?z9
   case y9 => (intro wq hSw; (try dsimp only at hSw); go_simp; try with_reducible rfl)
   try simp only [Act.put, qq1, qq2, qq3]
   refine wpAnyH_take (i := 9) (v := ?v10) rfl (by kernel_rfl) (by kernel_rfl) (by kernel_rfl) (fun _ _ _ h => h) (Or.inl ⟨by kernel_rfl, ?y10⟩) hHeld ?z10
   case y10 => (intro wq hSw; (try dsimp only at hSw); go_simp; try with_reducible rfl)
   try simp only [Act.put, qq1, qq2, qq3]
   refine wpAnyH_take (i := 10) (v := .bool false) rfl (by kernel_rfl) (by kernel_rfl) (by kernel_rfl) (fun _ _ _ h => h) (Or.inl ⟨by kernel_rfl, ?y11⟩) hHeld ?z11
   case y11 => (intro wq hSw; (try dsimp only at hSw); go_simp)
   try simp only [Act.put, qq1, qq2, qq3]
   try simp only [Act.put, List.getElem_toArray, List.getElem_cons_succ, List.getElem_cons_zero, qq1, qq2, qq3]
   refine wpAnyH_done (by kernel_rfl) ?_ _
   refine NoPanic.normal ?_
   clear hHeld
   go_wp2
   go_roundw
   case rel => exact ⟨i + 1, by omega, by go_num, hBr.trans ((below_drew wa).mono hBr.size)⟩
   case measure => simp [intOf]; omega
  ·
   have him1 : ¬ (i : Int) < (n : Int) := by omega
   have hE := hB.trans (hBr.mono hB.size)
   clear k1 k2
   go_wp2
   go_ret
   exact ⟨rfl, hE⟩
end Go.Proofs.YtcelbkmnbjcjhaaGreatDoor
namespace Go.Proofs.YtcelbkmnbjcjhaaGreatDoor
open Go.RowKit

theorem cutL_len (a l : List UInt8) (s : Int) : (abbrL (partL a s) l).length ≤ a.length + l.length := by
 have h1 := part_len a s
 unfold abbrL
 split
 ·
  simp only [List.length_append, List.length_take, List.length_drop]; omega
 ·
  omega
theorem abbrD_le {f l : ByteArray} {s : Int} (hf : f.size ≤ 12) (hl : l.size ≤ 6) : (abbrD f l s).size ≤ 20 := by
 rw [abbrD_yes ⟨by omega, by omega⟩]
 have h := cutL_len f.data.toList l.data.toList s
 simp only [Array.length_toList] at h
 show (List.toArray _).size ≤ 20
 rw [List.size_toArray]
 have h1 : f.data.size = f.size := rfl
 have h2 : l.data.size = l.size := rfl
 omega
structure TInv (E : List EraD) (T : List TurnD) : Prop where
 up : T.Pairwise fun x y => x.at_ < y.at_
 hd : ∀ a, T[0]? = some a → a.at_ = -62135596800
 ok : ∀ t ∈ T, turnB t = true ∧ ∃ e ∈ E, e.offset + t.save = t.offset
 nl : ∀ (i : Nat) x y, T[i]? = some x → T[i + 1]? = some y → likeT x y = false
theorem TInv.add {E : List EraD} {T : List TurnD} {x : TurnD} (h : TInv E T) (hx : ∀ t ∈ T, t.at_ < x.at_) (h0 : T = [] → x.at_ = -62135596800) (hok : turnB x = true ∧ ∃ e ∈ E, e.offset + x.save = x.offset) : TInv E (addT T x) ∧ (∀ u ∈ addT T x, u ∈ T ∨ u = x) ∧ addT T x ≠ [] := by
 have hnew : (∀ y, T.getLast? = some y → likeT y x = false) → TInv E (T ++ [x]) ∧ (∀ u ∈ T ++ [x], u ∈ T ∨ u = x) ∧ T ++ [x] ≠ [] := fun hl => by
  refine ⟨⟨?_, ?_, ?_, ?_⟩, fun u hu => by simpa using hu, by simp⟩
  ·
   refine List.pairwise_append.mpr ⟨h.up, by simp, fun a ha b hb => ?_⟩
   simp at hb
   subst hb
   exact hx a ha
  ·
   intro a ha
   by_cases hT : T = []
   ·
    subst hT
    simp at ha
    subst ha
    exact h0 rfl
   ·
    have hp : 0 < T.length := List.length_pos_iff.mpr hT
    rw [List.getElem?_append_left hp] at ha
    exact h.hd a ha
  ·
   intro t ht
   rcases List.mem_append.mp ht with ht | ht
   ·
    exact h.ok t ht
   ·
    simp at ht
    subst ht
    exact hok
  ·
   intro i a b ha hb
   by_cases hi : i + 1 < T.length
   ·
    rw [List.getElem?_append_left (by omega)] at ha
    rw [List.getElem?_append_left hi] at hb
    exact h.nl i a b ha hb
   ·
    have hl2 := (List.getElem?_eq_some_iff.mp hb).1
    simp at hl2
    have e : i + 1 = T.length := by omega
    rw [List.getElem?_append_left (by omega)] at ha
    rw [e, List.getElem?_append_right (by omega)] at hb
    simp at hb
    subst hb
    exact hl a (by rw [List.getLast?_eq_getElem?, show T.length - 1 = i by omega]; exact ha)
 unfold addT
 split
 ·
  rename_i y hy
  split
  ·
   exact ⟨h, fun u hu => .inl hu, fun e => by subst e; simp at hy⟩
  ·
   rename_i hn
   exact hnew fun z hz => by
    rw [hy] at hz
    obtain rfl := Option.some.inj hz
    simpa using hn
 ·
  rename_i hn
  exact hnew fun z hz => by rw [hn] at hz; cases hz
theorem TInv.fold {E : List EraD} {f : Int → TurnD} : ∀ {L : List Int} {T : List TurnD}, TInv E T → L.Pairwise (· < ·) → (∀ t ∈ T, ∀ l ∈ L, t.at_ < l) → (T = [] → ∀ l L', L = l :: L' → l = -62135596800) → (∀ l, (f l).at_ = l ∧ turnB (f l) = true ∧ ∃ e ∈ E, e.offset + (f l).save = (f l).offset) →
  TInv E (foldT f L T) ∧ (∀ u ∈ foldT f L T, u ∈ T ∨ u.at_ ∈ L) ∧ (foldT f L T = [] → T = [] ∧ L = []) := by
 intro L
 induction L with
 | nil => intro T h _ _ _ _; exact ⟨h, fun u hu => .inl hu, fun e => ⟨e, rfl⟩⟩
 | cons l L ih =>
  intro T h hL hT h0 hf
  rw [foldT_cons]
  have hL' := List.pairwise_cons.mp hL
  obtain ⟨f1, f2, f3⟩ := hf l
  obtain ⟨i1, i2, i3⟩ := h.add (x := f l) (fun t ht => by rw [f1]; exact hT t ht l (by simp)) (fun e => by rw [f1]; exact h0 e l L rfl) ⟨f2, f3⟩
  obtain ⟨j1, j2, j3⟩ := ih i1 hL'.2 (fun t ht m hm => by
   rcases i2 t ht with e | e
   ·
    exact hT t e m (List.mem_cons_of_mem _ hm)
   ·
    subst e
    rw [f1]
    exact hL'.1 m hm) (fun e => absurd e i3) hf
  refine ⟨j1, fun u hu => ?_, fun e => absurd (j3 e).1 i3⟩
  rcases j2 u hu with e | e
  ·
   rcases i2 u e with e | e
   ·
    exact .inl e
   ·
    subst e
    right
    rw [f1]
    simp
  ·
   exact .inr (List.mem_cons_of_mem _ e)
theorem ats_all {H : List HapD} {b e : Int} : (atsF b (inX H b e)).Pairwise (· < ·) ∧ (∀ t ∈ atsF b (inX H b e), b ≤ t ∧ (t = b ∨ t < e)) ∧ b ∈ atsF b (inX H b e) := by
 have h := ats_go (X := inX H b e) (A := [b]) (by simp)
 refine ⟨h.1, fun t ht => ?_, (h.2 b).mpr (.inl (by simp))⟩
 rcases (h.2 t).mp ht with e1 | e1
 ·
  simp at e1; omega
 ·
  unfold inX at e1
  rw [List.mem_filter] at e1
  simp at e1
  omega
theorem ats_first {H : List HapD} {b e l : Int} {L : List Int} (h : atsF b (inX H b e) = l :: L) : l = b := by
 obtain ⟨h1, h2, h3⟩ := ats_all (H := H) (b := b) (e := e)
 rw [h] at h1 h2 h3
 have h4 := (h2 l (by simp)).1
 rcases List.mem_cons.mp h3 with e1 | e1
 ·
  exact e1.symm
 ·
  have := (List.pairwise_cons.mp h1).1 b e1
  omega
theorem turnE_ok {E : List EraD} {e : EraD} {H : List HapD} (he : e ∈ E) (hE : EraR e) (hH : ∀ h ∈ H, HapB h) (l : Int) : (turnE e H l).at_ = l ∧ turnB (turnE e H l) = true ∧ ∃ x ∈ E, x.offset + (turnE e H l).save = (turnE e H l).offset := by
 obtain ⟨⟨s1, s2⟩, s3⟩ := forceE_b hE hH l
 obtain ⟨o1, o2⟩ := hE.off
 refine ⟨rfl, turn_yes ?_ ?_ ?_, e, he, rfl⟩
 ·
  show isB (e.offset + (forceE e H l).save) (-100000) 100000 = true
  unfold isB; simp; omega
 ·
  show isB (forceE e H l).save (-7200) 7200 = true
  unfold isB; simp; omega
 ·
  exact abbrD_le hE.fmt s3
theorem stK_inv {r : RelD} {E : List EraD} (hr : ∀ x ∈ r.rules, ruleB x = true) (hE : ∀ e ∈ E, EraR e) : ∀ k, k < E.length → TInv E (stK r E k).1 ∧ ((stK r E k).1 = [] → (stK r E k).2 = -62135596800) ∧ ∀ t ∈ (stK r E k).1, t.at_ < (stK r E k).2 := by
 intro k
 induction k with
 | zero => intro _; exact ⟨⟨by simp [stK], by simp [stK], by simp [stK], by simp [stK]⟩, fun _ => rfl, by simp [stK]⟩
 | succ k ih =>
  intro hk
  obtain ⟨i1, i2, i3⟩ := ih (by omega)
  obtain ⟨e, he⟩ : ∃ e, E[k]? = some e := ⟨_, List.getElem?_eq_getElem (by omega)⟩
  have hm := List.mem_of_getElem? he
  have hH := hapsT_b (r := r) (nm := e.rules) (off := e.offset) hr (hE e hm).off.1 (hE e hm).off.2
  rw [stK_more he (by omega) (show stK r E k = ((stK r E k).1, (stK r E k).2) from rfl)]
  generalize (hapsT r e.rules e.offset).1 = H at *
  generalize (stK r E k).1 = T at *
  generalize (stK r E k).2 = b at *
  simp only
  have hbe : b ≤ endE e H b := by unfold endE; omega
  split
  ·
   rename_i hlt
   obtain ⟨a1, a2, a3⟩ := ats_all (H := H) (b := b) (e := endE e H b)
   obtain ⟨j1, j2, j3⟩ := i1.fold (f := turnE e H) a1 (fun t ht l hl => by have := i3 t ht; have := (a2 l hl).1; omega) (fun e0 l L' hl => by rw [ats_first hl]; exact i2 e0) (turnE_ok hm (hE e hm) hH)
   refine ⟨j1, fun e0 => ?_, fun t ht => ?_⟩
   ·
    rw [(j3 e0).2] at a3; simp at a3
   ·
    rcases j2 t ht with h | h
    ·
     have := i3 t h; omega
    ·
     have := a2 _ h; omega
  ·
   rename_i hn
   refine ⟨i1, fun e0 => by have := i2 e0; omega, fun t ht => by have := i3 t ht; omega⟩
structure TabG (E : List EraD) (T : List TurnD) : Prop where
 right : tabB T = true
 era : ∀ t ∈ T, ∃ e ∈ E, e.offset + t.save = t.offset
 nl : ∀ (i : Nat) x y, T[i]? = some x → T[i + 1]? = some y → likeT x y = false
theorem tabE_good {r : RelD} {E : List EraD} (hr : ∀ x ∈ r.rules, ruleB x = true) (hE : ∀ e ∈ E, EraR e) (h1 : E ≠ []) {T : List TurnD} (hT : tabE r E = (T, true)) : TabG E T := by
 unfold tabE at hT
 split at hT
 case isFalse => cases hT
 injection hT with t1 t2
 have hl : T.length ≤ 600 := by rw [← t1]; exact of_decide_eq_true t2
 have hp : 0 < E.length := List.length_pos_iff.mpr h1
 obtain ⟨k, hk⟩ : ∃ k, E.length = k + 1 := ⟨E.length - 1, by omega⟩
 obtain ⟨e, he⟩ : ∃ e, E[k]? = some e := ⟨_, List.getElem?_eq_getElem (by omega)⟩
 have hm := List.mem_of_getElem? he
 have hH := hapsT_b (r := r) (nm := e.rules) (off := e.offset) hr (hE e hm).off.1 (hE e hm).off.2
 obtain ⟨i1, i2, i3⟩ := stK_inv hr hE k (by omega)
 have hb := (stK_b (r := r) (E := E) k).1
 rw [hk, stK_last he (by omega) (show stK r E k = ((stK r E k).1, (stK r E k).2) from rfl)] at t1
 clear t2
 generalize (hapsT r e.rules e.offset).1 = H at *
 generalize (stK r E k).1 = S at *
 generalize (stK r E k).2 = b at *
 simp only at t1
 obtain ⟨a1, a2, a3⟩ := ats_all (H := H) (b := b) (e := 253402300799)
 obtain ⟨j1, j2, j3⟩ := i1.fold (f := turnE e H) a1 (fun t ht l hl => by have := i3 t ht; have := (a2 l hl).1; omega) (fun e0 l L' hl => by rw [ats_first hl]; exact i2 e0) (turnE_ok hm (hE e hm) hH)
 rw [t1] at j1 j2 j3
 have hne : T ≠ [] := fun e0 => by rw [(j3 e0).2] at a3; simp at a3
 have hpT : 0 < T.length := List.length_pos_iff.mpr hne
 refine ⟨?_, fun t ht => (j1.ok t ht).2, j1.nl⟩
 have hu : upT T = true := upT_yes fun i x y hx hy => by
  obtain ⟨p1, rfl⟩ := List.getElem?_eq_some_iff.mp hx
  obtain ⟨p2, rfl⟩ := List.getElem?_eq_some_iff.mp hy
  exact List.pairwise_iff_getElem.mp j1.up i (i + 1) p1 p2 (by omega)
 rw [tab_ends ⟨hpT, hl⟩ (List.all_eq_true.mpr fun t ht => (j1.ok t ht).1) hu]
 obtain ⟨n, hn⟩ : ∃ n, T.length = n + 1 := ⟨T.length - 1, by omega⟩
 obtain ⟨x, hx⟩ : ∃ x, T[0]? = some x := ⟨_, List.getElem?_eq_getElem (by omega)⟩
 obtain ⟨y, hy⟩ : ∃ y, T[n]? = some y := ⟨_, List.getElem?_eq_getElem (by omega)⟩
 rw [ends_of hn hx hy, j1.hd x hx]
 have hy2 : y.at_ ≤ 253402300799 := by
  rcases j2 y (List.mem_of_getElem? hy) with h | h
  ·
   have := i3 y h; omega
  ·
   have := a2 _ h; omega
 simp [hy2]
theorem zone_own {r : RelD} {nm : ByteArray} (h : relB r = true) (hne : (zoneD r nm).eras ≠ []) : zoneD r (zoneD r nm).name = zoneD r nm := by
 obtain ⟨_, i, hi, hz⟩ := zoneD_right h hne
 generalize hzd : zoneD r nm = z at *
 have hn : (keysL (namesL r)).Nodup := by
  have h' := h
  unfold relB at h'
  simp only [Bool.and_eq_true] at h'
  exact of_decide_eq_true h'.2.2.2.2.1
 unfold keysL namesL at hn
 rw [List.map_append, List.nodup_append] at hn
 obtain ⟨n1, _, n3⟩ := hn
 have hl : linkTo r.links z.name = z.name := link_none fun j hj y hy => by
  cases he : (y.name.toList == z.name.toList)
  ·
   rfl
  ·
   exfalso
   have e1 : y.name.data.toList = z.name.data.toList := by have := eq_of_beq he; rwa [toList_dataA, toList_dataA] at this
   exact n3 z.name.data.toList (List.mem_map.mpr ⟨z.name, List.mem_map.mpr ⟨z, List.mem_of_getElem? hz, rfl⟩, rfl⟩) y.name.data.toList (List.mem_map.mpr ⟨y.name, List.mem_map.mpr ⟨y, List.mem_of_getElem? hy, rfl⟩, rfl⟩) e1.symm
 have hx : zoneIx r.zones z.name = some i := zone_hit hz (by simp) fun j hj y hy => by
  cases he : (y.name.toList == z.name.toList)
  ·
   rfl
  ·
   exfalso
   have e1 : y.name.data.toList = z.name.data.toList := by have := eq_of_beq he; rwa [toList_dataA, toList_dataA] at this
   obtain ⟨p1, q1⟩ := List.getElem?_eq_some_iff.mp hy
   obtain ⟨p2, q2⟩ := List.getElem?_eq_some_iff.mp hz
   have := List.pairwise_iff_getElem.mp n1 j i (by simpa using p1) (by simpa using p2) hj
   simp only [List.getElem_map] at this
   rw [q1, q2] at this
   exact this e1
 unfold zoneD
 rw [if_pos h, hl, hx]
 simp only
 rw [hz]
theorem tab_own {r : RelD} {nm : ByteArray} (hs : nm.size ≤ 8000) (h : relB r = true) (hne : (zoneD r nm).eras ≠ []) (hs2 : (zoneD r nm).name.size ≤ 8000) : tabD r (zoneD r nm).name = tabD r nm := by
 unfold tabD
 rw [if_pos hs, if_pos hs2, zone_own h hne]
theorem tabD_good {r : RelD} {nm : ByteArray} (h : (tabD r nm).1 = 0) : nm.size ≤ 8000 ∧ relB r = true ∧ (zoneD r nm).eras ≠ [] ∧ TabG (zoneD r nm).eras (tabD r nm).2 := by
 by_cases h1 : nm.size ≤ 8000
 case neg => rw [tabD_2 h1] at h; cases h
 cases h2 : relB r
 case false => rw [tabD_1 h1 h2] at h; cases h
 by_cases h3 : (zoneD r nm).eras = []
 case pos => rw [tabD_5 h1 h2 h3] at h; cases h
 cases h4 : tabE r (zoneD r nm).eras with
 | mk T b =>
  cases b
  case false => rw [tabD_7 h1 h2 h3 h4] at h; cases h
  obtain ⟨z1, _⟩ := zoneD_right h2 h3
  refine ⟨h1, rfl, h3, ?_⟩
  rw [tabD_0 h1 h2 h3 h4]
  exact tabE_good (rel_rules h2).2 (zone_eras z1).2 h3 h4
theorem tabD_none {r : RelD} {nm : ByteArray} (h : (tabD r nm).1 ≠ 0) : (tabD r nm).2 = [] := by
 by_cases h1 : nm.size ≤ 8000
 case neg => rw [tabD_2 h1]
 cases h2 : relB r
 case false => rw [tabD_1 h1 h2]
 by_cases h3 : (zoneD r nm).eras = []
 case pos => rw [tabD_5 h1 h2 h3]
 cases h4 : tabE r (zoneD r nm).eras with
 | mk T b =>
  cases b
  case false => rw [tabD_7 h1 h2 h3 h4]
  rw [tabD_0 h1 h2 h3 h4] at h
  exact absurd rfl h
end Go.Proofs.YtcelbkmnbjcjhaaGreatDoor
