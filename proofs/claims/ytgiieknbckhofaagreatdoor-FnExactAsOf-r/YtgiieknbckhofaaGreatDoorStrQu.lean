/- Packed. -/
import Derived.Test.YtgiieknbckhofaaGreatDoorStrPu
set_option maxRecDepth 100000
set_option maxHeartbeats 20000000
set_option linter.unusedSimpArgs false
namespace Go.Proofs.YtgiieknbckhofaaGreatDoor
section
open Go.RowKit Go.Shelf
attribute [local go_sem] Oper.semAt_some
def gapB (n : Int) (s : StrK) : Bool := decide (s.1.first + s.1.ahead <= n) && decide (n < s.1.first + s.1.own)
theorem gapB_t {n : Int} {s : StrK} (h1 : s.1.first + s.1.ahead <= n) (h2 : n < s.1.first + s.1.own) : gapB n s = true := by simp [gapB, h1, h2]
theorem gapB_f1 {n : Int} {s : StrK} (h1 : ¬ s.1.first + s.1.ahead <= n) : gapB n s = false := by simp [gapB, h1]
theorem gapB_f2 {n : Int} {s : StrK} (h2 : ¬ n < s.1.first + s.1.own) : gapB n s = false := by simp [gapB, h2]
def gapD (l : List TurnD) (n : Int) : Option StrK := (jat l l.length).find? (gapB n)
def gapS : Option StrK -> StrD
 | some s => s.1
 | none => ⟨0, 0, 0, 0⟩
theorem jst (l : List TurnD) (k : Nat) : ∀ d, ∃ bs, jat l (k + d) = jat l k ++ bs := by
 intro d
 induction d with
 | zero => exact ⟨[], by simp⟩
 | succ d ih =>
  obtain ⟨bs, h⟩ := ih
  exact ⟨bs ++ [strK l (k + d)], by rw [<- Nat.add_assoc, uptoS_succ, h, List.append_assoc]⟩
theorem jnt {l : List TurnD} {k : Nat} {s : StrK} (h : s ∈ jat l k) : ∃ j, j < k /\ s = strK l j := by
 unfold jat at h
 rw [List.mem_map] at h
 obtain ⟨j, hj, rfl⟩ := h
 exact ⟨j, List.mem_range.mp hj, rfl⟩
theorem joz {l : List TurnD} {n : Int} {k : Nat} (hk : k < l.length) (h0 : ∀ t ∈ jat l k, gapB n t = false) (h1 : gapB n (strK l k) = true) : gapD l n = some (strK l k) := by
 unfold gapD
 rw [List.find?_eq_some_iff_append]
 obtain ⟨bs, hb⟩ := jst l (k + 1) (l.length - (k + 1))
 rw [show k + 1 + (l.length - (k + 1)) = l.length by omega, uptoS_succ, List.append_assoc] at hb
 exact ⟨h1, jat l k, bs, hb, fun a ha => by rw [h0 a ha]; rfl⟩
theorem jjo {l : List TurnD} {n : Int} (h0 : ∀ t ∈ jat l l.length, gapB n t = false) : gapD l n = none := by
 unfold gapD
 rw [List.find?_eq_none]
 intro x hx
 rw [h0 x hx]
 simp
theorem jh2 {l : List TurnD} {k : Nat} {x : TurnD} (h : l[k]? = some x) : (jh3 l k).first = x.at_ := by unfold jh3; rw [h]; rfl
theorem j0c {l : List TurnD} (hT : Js l) {n : Int} {k : Nat} (hk : k < l.length) (h0 : ∀ t ∈ jat l k, gapB n t = false) (h1 : n < (strK l k).1.first - 100000) : gapD l n = none := by
 refine jjo fun t ht => ?_
 obtain ⟨j, hj, rfl⟩ := jnt ht
 by_cases Ce : j < k
 ·exact h0 _ (by unfold jat; rw [List.mem_map]; exact ⟨j, List.mem_range.mpr Ce, rfl⟩)
 ·have ok := (strK l j).2
  unfold StrD.ok at ok
  simp only [bat] at ok
  have ha := jaw ok.2.2.1
  refine gapB_f1 ?_
  obtain ⟨x, hx⟩ := qgg hk
  obtain ⟨y, hy⟩ := qgg hj
  have hu := jpl hT.up (show k <= j by omega) hx hy
  rw [jdj hT hk, jh2 hx] at h1
  rw [jdj hT hj] at ha ⊢
  rw [jh2 hy]
  omega
structure StrIn (W : World) (B : Nat) (s : StrD) : Prop where
 c0 : W.cell? (ad B 0) = some (iv s.first)
 c1 : W.cell? (ad B 1) = some (iv s.last)
 c2 : W.cell? (ad B 2) = some (iv s.ahead)
 c3 : W.cell? (ad B 3) = some (iv s.own)
theorem StrIn.kept {W W' : World} {B : Nat} {s : StrD} {row : Option Nat} (h : StrIn W B s) (hg : W.grownBy W' row) (hr : ∀ r, row = some r -> ∃ o : Obj, W.heap[r]? = some o /\ o.isCells = false) : StrIn W' B s :=
 ⟨cell_kept h.c0 hg hr, cell_kept h.c1 hg hr, cell_kept h.c2 hg hr, cell_kept h.c3 hg hr⟩
theorem jeh {W : World} {B : Nat} {x0 x1 x2 x3 : Int} (h : W.heap[B]? = some (.cells #[iv x0, iv x1, iv x2, iv x3] 309 (0, 0))) : StrIn W B ⟨x0, x1, x2, x3⟩ /\ ∀ i, W.frozen? (ad B i) = false :=
 ⟨⟨by simp [World.cell?, h], by simp [World.cell?, h], by simp [World.cell?, h], by simp [World.cell?, h]⟩, fun i => by simp [World.frozen?, h]⟩
theorem jwy {W W' : World} {row : Option Nat} {B : Nat} {cs : Array Value} {t : TypeId} (h : W.heap[B]? = some (.cells cs t (0, 0))) (hg : W.grownBy W' row) (hr : ∀ r, row = some r -> ∃ o : Obj, W.heap[r]? = some o /\ o.isCells = false) : W'.heap[B]? = some (.cells cs t (0, 0)) := by
 refine (hg.block B (Array.getElem?_eq_some_iff.1 h).1 (fun e => ?_)).trans h
 obtain ⟨o, ho, hc⟩ := hr B e.symm
 rw [h] at ho
 cases ho
 cases hc
theorem jlw {W : World} {B : Nat} {x y : StrD} (h : StrIn W B x) : StrIn ((((W.setCell (ad B 0) (iv y.first)).setCell (ad B 1) (iv y.last)).setCell (ad B 2) (iv y.ahead)).setCell (ad B 3) (iv y.own)) B y := by
 obtain ⟨s0, s1, s2, s3⟩ := jyu (v0 := iv y.first) (v1 := iv y.last) (v2 := iv y.ahead) (v3 := iv y.own) h.c0 h.c1 h.c2 h.c3
 exact ⟨s0, s1, s2, s3⟩
theorem jej (W : World) (B : Nat) (v0 v1 v2 v3 : Value) : KeepsOthers W ((((W.setCell (ad B 0) v0).setCell (ad B 1) v1).setCell (ad B 2) v2).setCell (ad B 3) v3) :=
 (((KeepsOthers.setCell W _ v0).trans (KeepsOthers.setCell _ _ v1)).trans (KeepsOthers.setCell _ _ v2)).trans (KeepsOthers.setCell _ _ v3)
theorem jen {n₀ : Nat} {A W : World} (h : Below n₀ A W) (B : Nat) (hB : n₀ <= B) (v0 v1 v2 v3 : Value) : Below n₀ A ((((W.setCell (ad B 0) v0).setCell (ad B 1) v1).setCell (ad B 2) v2).setCell (ad B 3) v3) :=
 (((h.setCell (p := (ad B 0)) hB v0).setCell (p := (ad B 1)) hB v1).setCell (p := (ad B 2)) hB v2).setCell (p := (ad B 3)) hB v3
def jjn (w wA : World) (s : StrD) (t : Bool) (W : World) : Prop := StrIn W (w.heap.size + 1 + 1 + 1) s /\ W.cell? (ad (w.heap.size + 1 + 1 + 1 + 1) 0) = some (.bool t) /\ Below (w.heap.size + 1 + 1 + 1) wA W
theorem jjm (w wA : World) (s : StrD) (t : Bool) (hs : wA.heap.size = w.heap.size + 1 + 1 + 1) (B : Nat) (hB : w.heap.size + 1 + 1 + 1 <= B) {β : Type} : OwnFrom B (fun (_ : β) W => jjn w wA s t W) := fun x X Y row hx hg hr =>
 ⟨hx.1.kept hg (fun r e => (hr r e).2), cell_kept hx.2.1 hg (fun r e => (hr r e).2), ownFrom_below (β := β) (by omega) hB x X Y row hx.2.2 hg hr⟩
def jik (m : Int) (aZ : List StrK) : Prop := ∀ t ∈ aZ, gapB m t = false
theorem jf3 {m : Int} {aZ : List StrK} {s : StrK} (h : jik m aZ) (hs : gapB m s = false) : jik m (aZ ++ [s]) := fun t ht => (List.mem_append.1 ht).elim (h t) (fun e => by rw [List.mem_singleton] at e; subst e; exact hs)
def jw7 (m : Int) (w wA : World) (aZ : List StrK) (W : World) : Prop := ∃ vR s, aZ = vR ++ [s] /\ jik m vR /\ ((m < s.1.first - 100000 /\ jjn w wA ⟨0, 0, 0, 0⟩ false W) \/ (gapB m s = true /\ jjn w wA s.1 true W))
theorem j0b {m : Int} {w wA W : World} {aZ : List StrK} {s : StrK} (h : jik m aZ) (h1 : m < s.1.first - 100000) (h2 : jjn w wA ⟨0, 0, 0, 0⟩ false W) : jw7 m w wA (aZ ++ [s]) W := ⟨aZ, s, rfl, h, .inl ⟨h1, h2⟩⟩
theorem j0a {m : Int} {w wA W : World} {aZ : List StrK} {s : StrK} (h : jik m aZ) (h1 : gapB m s = true) (h2 : jjn w wA s.1 true W) : jw7 m w wA (aZ ++ [s]) W := ⟨aZ, s, rfl, h, .inr ⟨h1, h2⟩⟩
theorem jty (l : List TurnD) (v : Value) (m : Int) (hT : Js l) (m1 : -62135596800 <= m) (m2 : m <= 253402300799) (w : World) (hv : Zz w v l) :
  Cl 255 #[v, iv m] w fun e W' => e = .returned (.tuple #[(gapS (gapD l m)).v, .bool (gapD l m).isSome]) /\ Bw w W' := by
 refine (callsIn_wide (n := 3)).1 ?_
 have h1 : 1 <= 3 := by omega
 have au := hT.len
 obtain ⟨a, cap, rfl, hA⟩ := hv
 obtain ⟨f, hf⟩ : ∃ x, l[0]? = some x := ⟨_, lgg (by omega)⟩
 obtain ⟨b, o, rfl, hd⟩ := hA.at (i := 0) (r := f.cs) (by rw [lgm, hf]; rfl)
 have mB : b < w.heap.size := qbl (hd 0 _ rfl)
 clear hd hf
 have HS := fun k (hk : k < l.length) (h0 : ∀ t ∈ jat l k, gapB m t = false) (h1 : gapB m (strK l k) = true) => joz hk h0 h1
 have HN := fun (h0 : ∀ t ∈ jat l l.length, gapB m t = false) => jjo h0
 have HC := fun k (hk : k < l.length) (h0 : ∀ t ∈ jat l k, gapB m t = false) (h1 : m < (strK l k).1.first - 100000) => j0c hT hk h0 h1
 generalize gapD l m = G at *
 refine callsIn_of_wp_marks Tryz.func255 rfl trivial ?_ rfl
 simp only [Tryz.ntmps255, List.size_toArray, List.length_cons, List.length_nil, Nat.reduceAdd, Nat.reduceSub, Array.replicate_succ, Array.replicate_zero, List.push_toArray, List.append_toArray, List.nil_append, List.cons_append]
 gi_wp2
 refine wpIn_wide.2 (wp_scope_straight ((wpIn_wide (n := 3)).1 ?_))
 gi_wp2
 apply wpIn_label
 gi_wp2_with (refine ⟨trivial, ?_⟩; gi_at_call 254; refine (jgj Fence.wide 2 trivial rfl _ _ _ _).mono ?_; rintro e w' ⟨rfl, rfl⟩)
 obtain ⟨wA, df⟩ := qeb ((((w.alloc (.cells #[.slice (some (ad b o)) l.length cap] 183)).alloc (.cells #[iv m] 2)).alloc (.cells #[iv 0, iv 0, iv 0, iv 0] 309)))
 have jB : wA.heap.size = w.heap.size + 1 + 1 + 1 := by rw [<- df]; simp
 have f9 : Bw w wA := by rw [<- df]; exact ((qal w _).alloc (by simp) _).alloc (by simp; omega) _
 have cM : wA.cell? (ad (w.heap.size + 1) 0) = some (iv m) := by rw [<- df]; simp [go_sem]
 have hR : wA.heap[w.heap.size + 1 + 1]? = some (.cells #[iv 0, iv 0, iv 0, iv 0] 309 (0, 0)) := by
  rw [<- df]
  have := World.alloc_heap_new ((w.alloc (.cells #[.slice (some (ad b o)) l.length cap] 183)).alloc (.cells #[iv m] 2)) (.cells #[iv 0, iv 0, iv 0, iv 0] 309)
  rw [World.size_alloc, World.size_alloc] at this
  exact this
 rw [df]
 obtain ⟨wF, qQ⟩ := qeb (wA.alloc (.cells #[iv 0, iv 0, iv 0, iv 0] 309))
 have hF : wF.heap[w.heap.size + 1 + 1 + 1]? = some (.cells #[iv 0, iv 0, iv 0, iv 0] 309 (0, 0)) := by
  rw [<- qQ]
  have := World.alloc_heap_new wA (.cells #[iv 0, iv 0, iv 0, iv 0] 309)
  rw [jB] at this
  exact this
 have GQ : wF.heap.size = w.heap.size + 1 + 1 + 1 + 1 := by rw [<- qQ]; simp; omega
 have K7 : Below (w.heap.size + 1 + 1 + 1) wA wF := by rw [<- qQ]; exact (brf _ wA).alloc (by omega) _
 rw [qQ]
 have bH := Boxed.new wF 4 (.bool false)
 have bN := Boxed.new (wF.alloc (.cells #[.bool false] 4)) 183 (.slice (some (ad b o)) l.length cap)
 rw [World.size_alloc, GQ] at bN
 rw [GQ] at bH
 have ag : Below (w.heap.size + 1 + 1 + 1) wA ((wF.alloc (.cells #[.bool false] 4)).alloc (.cells #[.slice (some (ad b o)) l.length cap] 183)) := (K7.alloc (by omega) _).alloc (by simp; omega) _
 have dT : ((wF.alloc (.cells #[.bool false] 4)).alloc (.cells #[.slice (some (ad b o)) l.length cap] 183)).heap[w.heap.size + 1 + 1 + 1]? = some (.cells #[iv 0, iv 0, iv 0, iv 0] 309 (0, 0)) :=
  (Below.heap_alloc _ _ _ (by simp; omega)).trans ((Below.heap_alloc _ _ _ (by omega)).trans hF)
 have eM := hA.below (f9.trans (ag.mono (by omega)))
 refine wpIn_rangeFunc_ownH rfl h1 (gf := 282) (lb := #[.pointer (some (ad (w.heap.size + 1 + 1 + 1 + 1 + 1) 0))]) rfl trivial (enters_of Tryz.func282 (by kernel_rfl) rfl)
  (jm7 Fence.wide 2 trivial rfl (by omega) (w.heap.size + 1 + 1 + 1 + 1 + 1) (w.heap.size + 1 + 1 + 1) b o cap l hT (by omega) _ (by simp; omega) bN eM) j33 (j34 (by simp; omega)) (brf _ _) (fun _ => rfl)
  (fun aZ W => W.heap[w.heap.size + 1 + 1 + 1]? = some (.cells #[iv 0, iv 0, iv 0, iv 0] 309 (0, 0)) /\ Boxed W (w.heap.size + 1 + 1 + 1 + 1) 4 (.bool false) /\ Below (w.heap.size + 1 + 1 + 1) wA W /\ jik m aZ)
  (fun c aZ W => c = .exit 0 /\ jw7 m w wA aZ W)
  (fun s X Y row hs hg hr => ⟨jwy hs.1 hg (fun r e => (hr r e).2), boxed_own _ _ (fun (_ : Unit) => .bool false) () X Y row hs.2.1 hg (fun r e => (hr r e).2), ownFrom_below (β := Unit) (by omega) (by simp; omega) () X Y row hs.2.2.1 hg hr, hs.2.2.2⟩)
  (fun c s X Y row hs hg hr => by
   obtain ⟨hc, vR, t, e1, e2, e3⟩ := hs
   refine ⟨hc, vR, t, e1, e2, ?_⟩
   rcases e3 with ⟨e3, e4⟩ | ⟨e3, e4⟩
   ·exact .inl ⟨e3, jjm w wA _ _ jB _ (by simp; omega) (β := Unit) () X Y row e4 hg hr⟩
   ·exact .inr ⟨e3, jjm w wA _ _ jB _ (by simp; omega) (β := Unit) () X Y row e4 hg hr⟩)
  ⟨dT, bH.alloc _, ag, fun t ht => by simp at ht⟩
  (fun x a' W => ∃ Bx, W.heap[Bx]? = some (.cells #[iv x.1.first, iv x.1.last, iv x.1.ahead, iv x.1.own] 309 (0, 0)) /\ w.heap.size + 1 + 1 + 1 + 1 < Bx /\ a' = { tmps := #[.agg #[.slice (some (ad b o)) l.length cap], iv m, .pointer (some (ad w.heap.size 0)), .pointer (some (ad (w.heap.size + 1) 0)), .pointer (some (ad (w.heap.size + 1 + 1) 0)), .bool false, .pointer (some (ad (w.heap.size + 1 + 1 + 1) 0)), .pointer (some (ad (w.heap.size + 1 + 1 + 1 + 1) 0)), .pointer (some (ad Bx 0)), .agg #[.slice (some (ad b o)) l.length cap], .func (.func 282) #[] #[.pointer (some (ad (w.heap.size + 1 + 1 + 1 + 1 + 1) 0))], x.1.v, undef, undef, undef, undef, undef, undef, undef, undef, undef, undef, undef, undef, undef, undef, undef, undef, undef, undef, undef, undef, undef, undef, undef, undef, undef, undef], defers := [] })
  (fun x a' _ X Y row hs hg hr => by
   obtain ⟨Bx, k1, k2, k3⟩ := hs
   exact ⟨Bx, jwy k1 hg (fun r e => (hr r e).2), k2, k3⟩)
  ?assign ?body ?done ?stop
 case assign =>
  rintro q aZ ⟨⟨x0, x1, x2, x3⟩, hx⟩ W K ⟨hH, hv, hB, hp⟩ hK
  simp only [StrD.v] at *
  have hlt := hv.lt
  gi_wp2
  exact hK _ _ ((KeepsOthers.alloc _ _).from _) ⟨(brf _ W).alloc (by have := hB.size; omega) _, Zw.alloc _ _⟩ ⟨(Below.heap_alloc _ _ _ (by omega)).trans hH, hv.alloc _, hB.alloc (by have := hB.size; omega) _, hp⟩ ⟨W.heap.size, World.alloc_heap_new W _, by omega, rfl⟩
 case body =>
  rintro q aZ ⟨⟨x0, x1, x2, x3⟩, hx⟩ a' W hq ⟨r, hr⟩ ⟨hH, hv, hB, hp⟩ ⟨Bx, ck, eQ, rfl⟩ hlt
  have gt := @gapB_t m ⟨⟨x0, x1, x2, x3⟩, hx⟩
  have tT := @gapB_f1 m ⟨⟨x0, x1, x2, x3⟩, hx⟩
  have tU := @gapB_f2 m ⟨⟨x0, x1, x2, x3⟩, hx⟩
  have hc := hv.cell
  have PB := hv.frozen
  have dB := hB.size
  have J0 : W.cell? (ad (w.heap.size + 1) 0) = some (iv m) := (hB.cell (p := (ad (w.heap.size + 1) 0)) (show w.heap.size + 1 < w.heap.size + 1 + 1 + 1 by omega)).trans cM
  obtain ⟨⟨e0, e1, e2, e3⟩, _⟩ := jeh ck
  obtain ⟨uo, uq⟩ := jeh hH
  obtain ⟨f0, f1, f2, f3⟩ := uo
  have Pp := uq 0
  have Pq := uq 1
  have Pr := uq 2
  have Ps := uq 3
  obtain ⟨i1, i2, i3, i4⟩ : (-62135596800 <= x0 /\ x0 <= 253402300799) /\ (-62135596801 <= x1 /\ x1 <= 253402300799) /\ (-100000 <= x2 /\ x2 <= 100000) /\ (-100000 <= x3 /\ x3 <= 100000) := by
   have ft := hx
   unfold StrD.ok at ft
   simp only [bat] at ft
   exact ⟨jaw ft.1, jaw ft.2.1, jaw ft.2.2.1, jaw ft.2.2.2⟩
  obtain ⟨PV, PW⟩ := i1
  obtain ⟨PX, PY⟩ := i3
  obtain ⟨PZ, Q0⟩ := i4
  simp only [StrD.v] at *
  have lu := jej W (w.heap.size + 1 + 1 + 1) (iv x0) (iv x1) (iv x2) (iv x3)
  have aS := jen hB (w.heap.size + 1 + 1 + 1) (by omega) (iv x0) (iv x1) (iv x2) (iv x3)
  obtain ⟨s0, s1, s2, s3⟩ := jlw (x := ⟨0, 0, 0, 0⟩) (y := ⟨x0, x1, x2, x3⟩) ⟨f0, f1, f2, f3⟩
  simp only at s0 s1 s2 s3
  have az : w.heap.size + 1 + 1 + 1 + 1 ≠ w.heap.size + 1 + 1 + 1 := by omega
  clear hq hr uq
  by_cases g0 : m < x0 - 100000
  ·clear gt tT tU lu aS s0 s1 s2 s3
   gi_wp2
   exact ⟨KeepsFrom.refl _ _, rfl, j0b (s := ⟨⟨x0, x1, x2, x3⟩, hx⟩) hp g0 ⟨⟨f0, f1, f2, f3⟩, hc, hB⟩⟩
  ·by_cases g1 : x0 + x2 <= m
   ·by_cases g2 : m < x0 + x3
    ·have ht := gt g1 g2
     clear gt tT tU
     gi_wp2
     refine ⟨(lu.trans (KeepsOthers.setCell _ _ _)).from _, rfl, j0a hp ht ⟨⟨?_, ?_, ?_, ?_⟩, ?_, aS.setCell (p := (ad (w.heap.size + 1 + 1 + 1 + 1) 0)) (show w.heap.size + 1 + 1 + 1 <= w.heap.size + 1 + 1 + 1 + 1 by omega) _⟩⟩
     ·rw [wco _ _ _ _ (jc5 (by omega))]; exact s0
     ·rw [wco _ _ _ _ (jc5 (by omega))]; exact s1
     ·rw [wco _ _ _ _ (jc5 (by omega))]; exact s2
     ·rw [wco _ _ _ _ (jc5 (by omega))]; exact s3
     ·refine wcs _ _ _ (u := .bool false) ?_
      rw [wco _ _ _ _ (jc5 (by omega)), wco _ _ _ _ (jc5 (by omega)), wco _ _ _ _ (jc5 (by omega)), wco _ _ _ _ (jc5 (by omega))]
      exact hc
    ·have ht := tU g2
     clear gt tT tU lu aS s0 s1 s2 s3
     gi_wp2
     exact ⟨KeepsFrom.refl _ _, ⟨brf _ _, Zw.refl _⟩, hH, hv, hB, jf3 hp ht⟩
   ·have ht := tT g1
    clear gt tT tU lu aS s0 s1 s2 s3
    gi_wp2
    exact ⟨KeepsFrom.refl _ _, ⟨brf _ _, Zw.refl _⟩, hH, hv, hB, jf3 hp ht⟩
 case done =>
  rintro D ys W hD rfl ⟨hH, hv, hB, hp⟩ hK
  obtain rfl := HN hp
  obtain ⟨⟨f0, f1, f2, f3⟩, _⟩ := jeh hH
  have hc := hv.cell
  clear HS HN HC
  have uO := (hB.block (w.heap.size + 1 + 1) (by omega)).trans hR
  obtain ⟨⟨r0, r1, r2, r3⟩, gh⟩ := jeh uO
  have nc := gh 0
  have nh := gh 1
  have Hr := gh 2
  have Hs := gh 3
  have lu := jej W (w.heap.size + 1 + 1) (iv 0) (iv 0) (iv 0) (iv 0)
  have aS := jen (f9.trans (hB.mono (by omega))) (w.heap.size + 1 + 1) (by omega) (iv 0) (iv 0) (iv 0) (iv 0)
  obtain ⟨s0, s1, s2, s3⟩ := jlw (x := ⟨0, 0, 0, 0⟩) (y := ⟨0, 0, 0, 0⟩) ⟨r0, r1, r2, r3⟩
  have j6 : w.heap.size + 1 + 1 + 1 ≠ w.heap.size + 1 + 1 := by omega
  have gO : w.heap.size + 1 + 1 + 1 + 1 ≠ w.heap.size + 1 + 1 := by omega
  clear gh df qQ
  simp only at r0 r1 r2 r3 s0 s1 s2 s3 f0 f1 f2 f3
  gi_wp2
  refine wpIn_wide.2 ?_
  go_region
  gi_wp2
  have iM := (lu.trans (KeepsOthers.drew _)).same D _ hK rfl
  obtain ⟨WD, ox⟩ := qeb ((((((W.setCell (ad (w.heap.size + 1 + 1) 0) (iv 0)).setCell (ad (w.heap.size + 1 + 1) 1) (iv 0)).setCell (ad (w.heap.size + 1 + 1) 2) (iv 0)).setCell (ad (w.heap.size + 1 + 1) 3) (iv 0)).drew))
  rw [<- cell_drew_own] at s0 s1 s2 s3
  rw [ox] at s0 s1 s2 s3 iM ⊢
  have hP := grownBy_putObj' WD D (.deferred none)
  have iR : ∀ r, some D = some r -> ∃ o : Obj, WD.heap[r]? = some o /\ o.isCells = false := fun r e => by cases e; exact ⟨_, iM, rfl⟩
  have q0 := cell_kept (W := WD) s0 hP iR
  have q1 := cell_kept (W := WD) s1 hP iR
  have q2 := cell_kept (W := WD) s2 hP iR
  have q3 := cell_kept (W := WD) s3 hP iR
  refine ⟨by simp, .inl ⟨_, _, rfl, run_takeDeferred iM, ?_⟩⟩
  refine ⟨.tuple #[.agg #[iv 0, iv 0, iv 0, iv 0], .bool false], ?_, rfl, (aS.trans (by rw [<- ox]; exact ⟨rfl, rfl, rfl, nlr _, fun _ _ => rfl⟩)).trans (belowK_b (w := w) (nlr _) _ D _ _ (by simp at hD; omega) iM rfl rfl)⟩
  simp [results, Tryz.results255, go_sem, q0, q1, q2, q3]
 case stop =>
  rintro D c aZ W hD ⟨k, hk, rfl⟩ ⟨rfl, vR, s, e1, e2, e3⟩ hK
  obtain ⟨k', rfl⟩ : ∃ k', k = k' + 1 := by
   cases k with
   | zero => simp [jat] at e1
   | succ k' => exact ⟨k', rfl⟩
  rw [uptoS_succ] at e1
  obtain ⟨rfl, e5⟩ := List.append_inj' e1 rfl
  have e5 : strK l k' = s := by simpa using e5
  rcases e3 with ⟨e3, uo, hc, hB⟩ | ⟨e3, uo, hc, hB⟩
  ·obtain rfl := HC k' (by omega) e2 (by rw [e5]; exact e3)
   obtain ⟨f0, f1, f2, f3⟩ := uo
   clear HS HN HC e1 e2 e3 e5
   have uO := (hB.block (w.heap.size + 1 + 1) (by omega)).trans hR
   obtain ⟨⟨r0, r1, r2, r3⟩, gh⟩ := jeh uO
   have nc := gh 0
   have nh := gh 1
   have Hr := gh 2
   have Hs := gh 3
   have lu := jej W (w.heap.size + 1 + 1) (iv 0) (iv 0) (iv 0) (iv 0)
   have aS := jen (f9.trans (hB.mono (by omega))) (w.heap.size + 1 + 1) (by omega) (iv 0) (iv 0) (iv 0) (iv 0)
   obtain ⟨s0, s1, s2, s3⟩ := jlw (x := ⟨0, 0, 0, 0⟩) (y := ⟨0, 0, 0, 0⟩) ⟨r0, r1, r2, r3⟩
   have j6 : w.heap.size + 1 + 1 + 1 ≠ w.heap.size + 1 + 1 := by omega
   have gO : w.heap.size + 1 + 1 + 1 + 1 ≠ w.heap.size + 1 + 1 := by omega
   clear gh df qQ
   simp only at r0 r1 r2 r3 s0 s1 s2 s3 f0 f1 f2 f3
   gi_wp2
   refine wpIn_wide.2 ?_
   go_region
   gi_wp2
   have iM := (lu.trans (KeepsOthers.drew _)).same D _ hK rfl
   obtain ⟨WD, ox⟩ := qeb ((((((W.setCell (ad (w.heap.size + 1 + 1) 0) (iv 0)).setCell (ad (w.heap.size + 1 + 1) 1) (iv 0)).setCell (ad (w.heap.size + 1 + 1) 2) (iv 0)).setCell (ad (w.heap.size + 1 + 1) 3) (iv 0)).drew))
   rw [<- cell_drew_own] at s0 s1 s2 s3
   rw [ox] at s0 s1 s2 s3 iM ⊢
   have hP := grownBy_putObj' WD D (.deferred none)
   have iR : ∀ r, some D = some r -> ∃ o : Obj, WD.heap[r]? = some o /\ o.isCells = false := fun r e => by cases e; exact ⟨_, iM, rfl⟩
   have q0 := cell_kept (W := WD) s0 hP iR
   have q1 := cell_kept (W := WD) s1 hP iR
   have q2 := cell_kept (W := WD) s2 hP iR
   have q3 := cell_kept (W := WD) s3 hP iR
   refine ⟨by simp, .inl ⟨_, _, rfl, run_takeDeferred iM, ?_⟩⟩
   refine ⟨.tuple #[.agg #[iv 0, iv 0, iv 0, iv 0], .bool false], ?_, rfl, (aS.trans (by rw [<- ox]; exact ⟨rfl, rfl, rfl, nlr _, fun _ _ => rfl⟩)).trans (belowK_b (w := w) (nlr _) _ D _ _ (by simp at hD; omega) iM rfl rfl)⟩
   simp [results, Tryz.results255, go_sem, q0, q1, q2, q3]
  ·have hG := HS k' (by omega) e2 (by rw [e5]; exact e3)
   rw [e5] at hG
   obtain rfl := hG
   clear HS HN HC e1 e2 e3 e5
   obtain ⟨⟨y0, y1, y2, y3⟩, hy⟩ := s
   obtain ⟨f0, f1, f2, f3⟩ := uo
   have uO := (hB.block (w.heap.size + 1 + 1) (by omega)).trans hR
   obtain ⟨⟨r0, r1, r2, r3⟩, gh⟩ := jeh uO
   have nc := gh 0
   have nh := gh 1
   have Hr := gh 2
   have Hs := gh 3
   have lu := jej W (w.heap.size + 1 + 1) (iv y0) (iv y1) (iv y2) (iv y3)
   have aS := jen (f9.trans (hB.mono (by omega))) (w.heap.size + 1 + 1) (by omega) (iv y0) (iv y1) (iv y2) (iv y3)
   obtain ⟨s0, s1, s2, s3⟩ := jlw (x := ⟨0, 0, 0, 0⟩) (y := ⟨y0, y1, y2, y3⟩) ⟨r0, r1, r2, r3⟩
   have j6 : w.heap.size + 1 + 1 + 1 ≠ w.heap.size + 1 + 1 := by omega
   have gO : w.heap.size + 1 + 1 + 1 + 1 ≠ w.heap.size + 1 + 1 := by omega
   clear gh df qQ
   simp only at r0 r1 r2 r3 s0 s1 s2 s3 f0 f1 f2 f3
   gi_wp2
   refine wpIn_wide.2 ?_
   go_region
   gi_wp2
   have iM := (lu.trans (KeepsOthers.drew _)).same D _ hK rfl
   obtain ⟨WD, ox⟩ := qeb ((((((W.setCell (ad (w.heap.size + 1 + 1) 0) (iv y0)).setCell (ad (w.heap.size + 1 + 1) 1) (iv y1)).setCell (ad (w.heap.size + 1 + 1) 2) (iv y2)).setCell (ad (w.heap.size + 1 + 1) 3) (iv y3)).drew))
   rw [<- cell_drew_own] at s0 s1 s2 s3
   rw [ox] at s0 s1 s2 s3 iM ⊢
   have hP := grownBy_putObj' WD D (.deferred none)
   have iR : ∀ r, some D = some r -> ∃ o : Obj, WD.heap[r]? = some o /\ o.isCells = false := fun r e => by cases e; exact ⟨_, iM, rfl⟩
   have q0 := cell_kept (W := WD) s0 hP iR
   have q1 := cell_kept (W := WD) s1 hP iR
   have q2 := cell_kept (W := WD) s2 hP iR
   have q3 := cell_kept (W := WD) s3 hP iR
   refine ⟨by simp, .inl ⟨_, _, rfl, run_takeDeferred iM, ?_⟩⟩
   refine ⟨.tuple #[.agg #[iv y0, iv y1, iv y2, iv y3], .bool true], ?_, rfl, (aS.trans (by rw [<- ox]; exact ⟨rfl, rfl, rfl, nlr _, fun _ _ => rfl⟩)).trans (belowK_b (w := w) (nlr _) _ D _ _ (by simp at hD; omega) iM rfl rfl)⟩
   simp [results, Tryz.results255, go_sem, q0, q1, q2, q3]
end
section
open Go.RowKit
theorem js9 (w : World) (t : TypeId) : (w.alloc (.cells #[] t)).ownsRow w.heap.size t 1 (.slice (some (ad w.heap.size 0)) 0 0) 0 [] :=
 ⟨rfl, .inr ⟨w.heap.size, 0, #[], rfl, nlr _, World.alloc_heap_new w _, nlr _, by unfold maxLen; omega, rfl, rfl⟩⟩
theorem js8 {w : World} {base fM : Nat} {e : TypeId} {size : Nat} {v : Value} {n : Nat} {xs : List Value} (h : w.ownsRow base e size v n xs) (hb : fM <= base) : w.ownsRow fM e size v n xs := by
 refine ⟨h.1, ?_⟩
 rcases h.2 with h | ⟨g, cap, cur, e1, e2, e3⟩
 ·exact .inl h
 ·exact .inr ⟨g, cap, cur, e1, by omega, e3⟩
theorem jg9 (l : List TurnD) (v : Value) (m : Int) (hT : Js l) (m1 : -62135596800 <= m) (m2 : m <= 253402300799) (w : World) (hv : Zz w v l) :
  Cl 155 #[v, iv m] w fun e W' => ∃ v', e = .returned v' /\ W'.ownsRow w.heap.size 2 1 v' (jdq l m).length ((jdq l m).map (Value.int .i64)) /\ Bw w W' := by
 have au := hT.len
 obtain ⟨i0, hi, aH, aI, aG⟩ := info_parts j1e
 obtain ⟨a, cap, rfl, hA⟩ := hv
 obtain ⟨f, hf⟩ : ∃ x, l[0]? = some x := ⟨_, lgg (by omega)⟩
 obtain ⟨b, o, rfl, hd⟩ := hA.at (i := 0) (r := f.cs) (by rw [lgm, hf]; rfl)
 have mB : b < w.heap.size := qbl (hd 0 _ rfl)
 clear hd hf
 have aU : ∀ (wr : World), Bw w wr -> ∀ (k : Nat) (x : TurnD), l[k]? = some x -> wr.cell? (ad b (o + k * 4)) = some (iv x.at_) /\ wr.cell? (ad b (o + k * 4 + 1)) = some (iv x.offset) := fun wr hB k x hx => by
  obtain ⟨b', o', he, hc⟩ := hA.at (i := k) (r := x.cs) (by rw [lgm, hx]; rfl)
  injection he with he
  injection he with u1 u2
  subst u1 u2
  exact ⟨(hB.cell (p := (ad b _)) mB).trans (hc 0 _ rfl), (hB.cell (p := (ad b _)) mB).trans (hc 1 _ rfl)⟩
 have HI : Hid (jdq l m = jar m (jat l l.length)) := rfl
 go_enter Tryz.func155, Tryz.ntmps155
 go_wp2
 obtain ⟨wA, df⟩ := qeb ((w.alloc (.cells #[.slice (some (ad b o)) l.length cap] 183)))
 have jB : wA.heap.size = w.heap.size + 1 := by rw [<- df]; simp
 have f9 : Bw w wA := by rw [<- df]; exact qal w _
 have cB : wA.cell? (ad w.heap.size 0) = some (.slice (some (ad b o)) l.length cap) := by rw [<- df]; simp [go_sem]
 have hE := js9 wA 2
 rw [jB] at hE
 rw [df]
 go_loopw [5, 6] (fun s5 s6 wr => ∃ k : Nat, k <= l.length /\ s6 = iv k /\ wr.ownsRow (w.heap.size + 1) 2 1 s5 (jar m (jat l k)).length ((jar m (jat l k)).map (Value.int .i64)) /\ Below (w.heap.size + 1) wA wr) (fun _ s6 _ => l.length - (intOf s6).toNat)
 case atStart => exact ⟨0, by omega, rfl, hE, (brf _ _).alloc (by omega) _⟩
 case round =>
  obtain ⟨k, hk, rfl, ai, hB⟩ := hrel
  have dB := hB.size
  have eP := f9.trans (hB.mono (show w.heap.size <= w.heap.size + 1 by omega))
  have OL : wr.cell? (ad w.heap.size 0) = some (.slice (some (ad b o)) l.length cap) := (hB.cell (p := (ad w.heap.size 0)) (show w.heap.size < w.heap.size + 1 by omega)).trans cB
  have j8 := jib m (jat l k)
  rw [jd0] at j8
  by_cases hlt : k < l.length
  ·obtain ⟨x, hx⟩ := qgg hlt
   obtain ⟨c0, c1⟩ := aU wr eP k x hx
   obtain ⟨z1, z2⟩ := jaw (jnp hT (lmg hx))
   by_cases hlt2 : k + 1 < l.length
   ·obtain ⟨y, hy⟩ : ∃ y, l[k + 1]? = some y := ⟨_, lgg hlt2⟩
    have d0 := (aU wr eP (k + 1) y hy).1
    have y1 := hT.top _ y hy
    have y2 := jpf hT hy
    have HV : Hid ((strK l k).1.first = x.at_ /\ (strK l k).1.last = y.at_ - 1 /\ (strK l k).1.own = x.offset) := by
     simp only [Hid]; rw [jdj hT hlt]; unfold jh3; rw [hx, hy]; exact ⟨rfl, rfl, rfl⟩
    clear hx hy aU
    by_cases g1 : x.at_ <= m - x.offset
    ·by_cases g2 : m - x.offset <= y.at_ - 1
     ·have HS : Hid (jar m (jat l (k + 1)) = jar m (jat l k) ++ [m - x.offset]) := by simp only [Hid]; rw [uptoS_succ]; exact (shownL_hit (by rw [HV.out.1, HV.out.2.2]; exact g1) (by rw [HV.out.2.1, HV.out.2.2]; exact g2)).trans (by rw [HV.out.2.2])
      have yC : Hid (jar m (jat l (k + 1)) = jar m (jat l (k + 1))) := rfl
      obtain ⟨o, ho⟩ := qeb (jar m (jat l k))
      rw [ho] at ai HS j8
      clear yC HV ho
      go_wp2_with (first
       | (at_builtin; refine wpList_append_own _ rfl _ _ 217 rfl (w.heap.size + 1) 2 i0 (iv 0) 1 8 Tryz.underlying217 hi aH aI aG rfl (by decide) _ _ _ rfl (ai.alloc _) ⟨wr.heap.size, 0, none⟩ 1 1 [iv (m - x.offset)] rfl rfl ?c1 ?c2 ?c3 ?c4 ?c5 ?_)
       | fail)
      case c1 => exact cell_one_new _ _ _
      case c2 => intro u hu; simp at hu; subst hu; rfl
      case c3 => unfold maxLen; omega
      case c4 => omega
      case c5 => simp; omega
      ·intro v' w1 ar af _
       have aj : Below (w.heap.size + 1) wA w1 := (hB.alloc (by omega) _).grown af (by simp; omega) (fun j hj => (ai.lt j hj).1)
       have HO : Hid (w1.ownsRow (w.heap.size + 1) 2 1 v' (o ++ [m - x.offset]).length ((o ++ [m - x.offset]).map (Value.int .i64))) := by simpa [Hid] using ar
       clear af ar ai
       go_wp2
       go_roundw
       case rel => exact ⟨k + 1, by omega, by go_num, by rw [HS.out]; exact HO.out, aj⟩
       case measure => simp [intOf]; omega
     ·have HS : Hid (jar m (jat l (k + 1)) = jar m (jat l k)) := by simp only [Hid]; rw [uptoS_succ]; exact (shownL_miss2 (by rw [HV.out.2.1, HV.out.2.2]; exact g2))
      clear HV
      go_wp2
      go_roundw
      case rel => exact ⟨k + 1, by omega, by go_num, by rw [HS.out]; exact ai, hB⟩
      case measure => simp [intOf]; omega
    ·have HS : Hid (jar m (jat l (k + 1)) = jar m (jat l k)) := by simp only [Hid]; rw [uptoS_succ]; exact (shownL_miss1 (by rw [HV.out.1, HV.out.2.2]; exact g1))
     clear HV
     go_wp2
     go_roundw
     case rel => exact ⟨k + 1, by omega, by go_num, by rw [HS.out]; exact ai, hB⟩
     case measure => simp [intOf]; omega
   ·have hy : l[k + 1]? = none := List.getElem?_eq_none (by omega)
    have HV : Hid ((strK l k).1.first = x.at_ /\ (strK l k).1.last = 253402300799 /\ (strK l k).1.own = x.offset) := by
     simp only [Hid]; rw [jdj hT hlt]; unfold jh3; rw [hx, hy]; exact ⟨rfl, rfl, rfl⟩
    clear hx hy aU
    by_cases g1 : x.at_ <= m - x.offset
    ·by_cases g2 : m - x.offset <= 253402300799
     ·have HS : Hid (jar m (jat l (k + 1)) = jar m (jat l k) ++ [m - x.offset]) := by simp only [Hid]; rw [uptoS_succ]; exact (shownL_hit (by rw [HV.out.1, HV.out.2.2]; exact g1) (by rw [HV.out.2.1, HV.out.2.2]; exact g2)).trans (by rw [HV.out.2.2])
      have yC : Hid (jar m (jat l (k + 1)) = jar m (jat l (k + 1))) := rfl
      obtain ⟨o, ho⟩ := qeb (jar m (jat l k))
      rw [ho] at ai HS j8
      clear yC HV ho
      go_wp2_with (first
       | (at_builtin; refine wpList_append_own _ rfl _ _ 217 rfl (w.heap.size + 1) 2 i0 (iv 0) 1 8 Tryz.underlying217 hi aH aI aG rfl (by decide) _ _ _ rfl (ai.alloc _) ⟨wr.heap.size, 0, none⟩ 1 1 [iv (m - x.offset)] rfl rfl ?d1 ?d2 ?d3 ?d4 ?d5 ?_)
       | fail)
      case d1 => exact cell_one_new _ _ _
      case d2 => intro u hu; simp at hu; subst hu; rfl
      case d3 => unfold maxLen; omega
      case d4 => omega
      case d5 => simp; omega
      ·intro v' w1 ar af _
       have aj : Below (w.heap.size + 1) wA w1 := (hB.alloc (by omega) _).grown af (by simp; omega) (fun j hj => (ai.lt j hj).1)
       have HO : Hid (w1.ownsRow (w.heap.size + 1) 2 1 v' (o ++ [m - x.offset]).length ((o ++ [m - x.offset]).map (Value.int .i64))) := by simpa [Hid] using ar
       clear af ar ai
       go_wp2
       go_roundw
       case rel => exact ⟨k + 1, by omega, by go_num, by rw [HS.out]; exact HO.out, aj⟩
       case measure => simp [intOf]; omega
     ·have HS : Hid (jar m (jat l (k + 1)) = jar m (jat l k)) := by simp only [Hid]; rw [uptoS_succ]; exact (shownL_miss2 (by rw [HV.out.2.1, HV.out.2.2]; exact g2))
      clear HV
      go_wp2
      go_roundw
      case rel => exact ⟨k + 1, by omega, by go_num, by rw [HS.out]; exact ai, hB⟩
      case measure => simp [intOf]; omega
    ·have HS : Hid (jar m (jat l (k + 1)) = jar m (jat l k)) := by simp only [Hid]; rw [uptoS_succ]; exact (shownL_miss1 (by rw [HV.out.1, HV.out.2.2]; exact g1))
     clear HV
     go_wp2
     go_roundw
     case rel => exact ⟨k + 1, by omega, by go_num, by rw [HS.out]; exact ai, hB⟩
     case measure => simp [intOf]; omega
  ·obtain rfl : k = l.length := by omega
   go_wp2
   go_ret
   exact ⟨_, rfl, by rw [HI.out]; exact js8 ai (by omega), eP⟩
end
end Go.Proofs.YtgiieknbckhofaaGreatDoor
