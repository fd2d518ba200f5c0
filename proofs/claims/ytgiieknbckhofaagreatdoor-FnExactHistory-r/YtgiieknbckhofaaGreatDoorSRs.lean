/- Packed. -/
import Derived.Test.YtgiieknbckhofaaGreatDoorMarkStores
set_option maxRecDepth 100000
set_option maxHeartbeats 20000000
set_option linter.unusedSimpArgs false
namespace Go.Proofs.YtgiieknbckhofaaGreatDoor
section
open Go.RowKit Go.Sort
def hisK (l : List VersionD) (id : Int) (k : Nat) : List VersionD := (l.take k).filter fun v => decide (v.id = id)
def hisL (l : List VersionD) (id : Int) : List VersionD := l.filter fun v => decide (v.id = id)
theorem jsk {l : List VersionD} {id : Int} {k : Nat} {v : VersionD} (h : l[k]? = some v) (he : v.id = id) : hisK l id (k + 1) = hisK l id k ++ [v] := by
 unfold hisK
 rw [List.take_add_one, h, List.filter_append]
 simp [he]
theorem jwz {l : List VersionD} {id : Int} {k : Nat} {v : VersionD} (h : l[k]? = some v) (he : ¬ v.id = id) : hisK l id (k + 1) = hisK l id k := by
 unfold hisK
 rw [List.take_add_one, h, List.filter_append]
 simp [he]
theorem jsl (l : List VersionD) (id : Int) : hisK l id l.length = hisL l id := by unfold hisK hisL; rw [List.take_length]
def Jl (w : World) (base : Nat) (v : Value) (L : List VersionD) : Prop := w.ownsRow base 87 8 v L.length (L.map VersionD.cs).flatten
theorem Jl.below {w w' : World} {base : Nat} {v : Value} {L : List VersionD} (h : Jl w base v L) (hb : Bw w w') : Jl w' base v L := jad h hb
theorem jvs {w : World} {base : Nat} {e : TypeId} {size : Nat} {v : Value} {n : Nat} {xs : List Value} (h : w.ownsRow base e size v n xs) : ∃ a c, v = .slice a n c /\ (0 < n -> ∃ g, a = some (ad g 0)) := by
 rcases h.2 with ⟨rfl, rfl⟩ | ⟨g, cap, cur, rfl, _⟩
 ·exact ⟨none, 0, rfl, fun h => by omega⟩
 ·exact ⟨_, cap, rfl, fun _ => ⟨g, rfl⟩⟩
theorem jg5 : ∃ i : TypeInfo, Tryz.prog.info? 87 = some i /\ i.zero = some (.agg #[iv 0, .bool false, iv 0, .string ⟨#[]⟩, .string ⟨#[]⟩, iv 0, iv 0, iv 0]) /\ i.size = 8 /\ i.bytes = 80 := ⟨_, rfl, rfl, rfl, rfl⟩
theorem jo2 (s : StoreD) (v : Value) (id : Int) (tb : Bool) (w : World) (hE : Zz w) (hv : Zx w v s) (hl : s.vs.length <= 1048576)
  (oU : ∀ w, Zz w -> Zx w v s -> Cl 43 #[v] w fun e w' => e = .returned (.bool tb) /\ Bw w w') :
  Cl 21 #[v, iv id] w fun e w' => ∃ x, e = .returned x /\ Jl w' w.heap.size x (if tb then hisL s.vs id else []) /\ Bw w w' := by
 have cC := hv
 obtain ⟨a, b, c, d, e, f, va, ia, ca, cb, cc, cd, ce, cf, cv, ci, rfl, _, _, hV, _, _, _⟩ := hv.form
 obtain ⟨i0, hi, aG, aI, aF⟩ := jg5
 have ag := qal w (.cells #[iv s.tx, .slice a s.now.rules.length ca, .slice b s.now.zones.length cb, .slice c s.now.links.length cc, .slice d s.was.rules.length cd, .slice e s.was.zones.length ce, .slice f s.was.links.length cf, iv s.cur, .slice va s.vs.length cv, .slice ia s.ix.length ci] 42)
 have A0 := Zg.new w [iv s.tx, .slice a s.now.rules.length ca, .slice b s.now.zones.length cb, .slice c s.now.links.length cc, .slice d s.was.rules.length cd, .slice e s.was.zones.length ce, .slice f s.was.links.length cf, iv s.cur, .slice va s.vs.length cv, .slice ia s.ix.length ci] 42
 have hS := oU _ (hE.of_below ag) (cC.below ag)
 have HV := hid hV
 obtain ⟨x0, x1, x2, x3, x4, x5, x6, x7, x8, x9⟩ := A0.ten
 clear hV hv cC oU
 go_enter Tryz.func21, Tryz.ntmps21
 go_wp2_with fail
 refine hS.mono ?_
 rintro e1 w1 ⟨rfl, hb1⟩
 have aj := qtr ag hb1
 have A1 := A0.below hb1
 clear x0 x1 x2 x3 x4 x5 x6 x7 x8 x9 A0 ag hb1 hS
 cases tb
 ·go_wp2
  go_ret
  exact ⟨_, rfl, World.ownsRow_nil _ _ _ _, aj⟩
 obtain ⟨n, hn⟩ := qeb s.vs.length
 have HN := hid hn
 have Ac : Hid (∀ wr, Bw w wr -> Za wr va 8 (s.vs.map VersionD.cs)) := fun wr hb => HV.out.below hb
 have x8 := A1.c 8 rfl
 simp only [hn] at x8 hl
 clear hn HV
 go_wp2
 go_loopw [5, 7, 14] (fun h _ t wr => ∃ (i m c : Nat) (p : Option Addr), i <= n /\ t = iv i /\ h = .slice p m c /\ m <= i /\ Hid ((hisK s.vs id i).length = m) /\ wr.ownsRow w1.heap.size 87 8 (.slice p m c) m ((hisK s.vs id i).map VersionD.cs).flatten /\ Bw w1 wr) (fun _ _ t _ => n - (intOf t).toNat)
 case atStart => exact ⟨0, 0, 0, none, by omega, rfl, rfl, by omega, rfl, World.ownsRow_nil _ _ _ _, brf _ _⟩
 case round =>
  obtain ⟨wa, dY⟩ := qea wr
  subst dY
  obtain ⟨i, m, cq, pq, hin, rfl, rfl, GS, HM, hO, aH⟩ := hrel
  have bQ := qtr aj aH
  have hA := Ac.out wa bQ
  have y8 := jaa aH x8
  have hsz := bQ.size
  have wQ := aH.size
  have Ds := aj.size
  by_cases hlt : i < n
  ·have a1 : (i : Int) < (n : Int) := by omega
   obtain ⟨v, hv⟩ : ∃ v, s.vs[i]? = some v := ⟨_, lgg (by have := HN.out; omega)⟩
   have ao : (s.vs.map VersionD.cs)[i]? = some v.cs := by rw [lgm, hv]; rfl
   obtain ⟨bb, ob, rfl, hc⟩ := hA.at (i := i) ao
   have c0 : wa.cell? (ad bb (ob + i * 8)) = some (iv v.tx) := hc 0 _ rfl
   have c1 := hc 1 _ rfl
   have c2 := hc 2 _ rfl
   have c3 := hc 3 _ rfl
   have c4 := hc 4 _ rfl
   have c5 := hc 5 _ rfl
   have c6 := hc 6 _ rfl
   have c7 := hc 7 _ rfl
   clear hc ao hA
   by_cases nA : v.id = id
   ·subst nA
    have HK : Hid (hisK s.vs v.id (i + 1) = hisK s.vs v.id i ++ [v]) := jsk hv rfl
    clear hv
    obtain ⟨L, gV⟩ := qeb (hisK s.vs v.id i)
    rw [gV] at hO HM HK
    clear gV
    go_wp2_with (first | (at_builtin; refine wpList_append_own _ rfl _ _ 39 rfl w1.heap.size 87 i0 (.agg #[iv 0, .bool false, iv 0, .string ⟨#[]⟩, .string ⟨#[]⟩, iv 0, iv 0, iv 0]) 8 80 Tryz.underlying39 hi aG aI aF rfl (by decide) _ _ _ rfl ((woa hO _).alloc _) (ad (wa.heap.size + 1) 0) 1 1 [iv v.tx, .bool v.gone, iv v.id, .string v.name, .string v.zone, iv v.wall, iv v.gap, iv v.fold] rfl rfl ?b1 ?b2 ?b3 ?b4 ?b5 ?_) | fail)
    case b1 => rw [show wa.heap.size + 1 = (wa.alloc (.cells #[iv v.tx, .bool v.gone, iv v.id, .string v.name, .string v.zone, iv v.wall, iv v.gap, iv v.fold] 87)).heap.size by simp]; exact jaf _ [iv v.tx, .bool v.gone, iv v.id, .string v.name, .string v.zone, iv v.wall, iv v.gap, iv v.fold] _
    case b2 => intro u hu; simp at hu; rcases hu with rfl | rfl | rfl | rfl | rfl | rfl | rfl | rfl <;> rfl
    case b3 => unfold maxLen; omega
    case b4 => omega
    case b5 => simp; omega
    intro v2 w2 av aP _
    have an : Bw w1 w2 := ((aH.alloc wQ _).alloc (by simp; omega) _).grown aP (by simp; omega) (fun j hj => (hO.lt j hj).1)
    obtain ⟨p2, c2, rfl, _⟩ := jvs av
    go_wp2
    go_roundw
    case rel => exact ⟨i + 1, m + 1, c2, p2, by omega, by go_num, rfl, by omega, by simp only [Hid]; rw [HK.out, lla, HM.out]; rfl, by rw [HK.out]; simpa [VersionD.cs] using av, an⟩
    case measure => simp [intOf]; omega
   ·have HK : Hid (hisK s.vs id (i + 1) = hisK s.vs id i) := jwz hv nA
    have hq : (v.id == id) = false := by simp [nA]
    have Do : decide (v.id = id) = false := dfe nA
    clear hv
    go_wp2
    go_roundw
    case rel => exact ⟨i + 1, m, cq, pq, by omega, by go_num, rfl, by omega, by simp only [Hid]; rw [HK.out]; exact HM.out, by rw [HK.out]; exact woa hO _, aH.alloc aH.size _⟩
    case measure => simp [intOf]; omega
  ·obtain rfl : i = n := by omega
   have HR : Hid (hisK s.vs id i = hisL s.vs id) := by simp only [Hid]; rw [<- HN.out]; exact jsl _ _
   go_wp2
   go_ret
   exact ⟨_, rfl, by simp only [if_true]; unfold Jl; rw [<- HR.out, HM.out]; exact jak hO (by omega), bQ⟩
theorem jno (s : StoreD) (v : Value) (id : Int) (tb : Bool) (w : World) (hv : Zx w v s) (hl : s.vs.length <= 1048576)
  (oU : ∀ w, Zx w v s -> Cl 28 #[v] w fun e w' => e = .returned (.bool tb) /\ Bw w w') :
  Cl 20 #[v, iv id] w fun e w' => ∃ x, e = .returned x /\ Jl w' w.heap.size x (if tb then hisL s.vs id else []) /\ Bw w w' := by
 have cC := hv
 obtain ⟨a, b, c, d, e, f, va, ia, ca, cb, cc, cd, ce, cf, cv, ci, rfl, _, _, hV, _, _, _⟩ := hv.form
 obtain ⟨i0, hi, aG, aI, aF⟩ := jg5
 have bg := qal w (.cells #[iv s.tx, .slice a s.now.rules.length ca, .slice b s.now.zones.length cb, .slice c s.now.links.length cc, .slice d s.was.rules.length cd, .slice e s.was.zones.length ce, .slice f s.was.links.length cf, iv s.cur, .slice va s.vs.length cv, .slice ia s.ix.length ci] 42)
 have gF := (brf (w.alloc (.cells #[iv s.tx, .slice a s.now.rules.length ca, .slice b s.now.zones.length cb, .slice c s.now.links.length cc, .slice d s.was.rules.length cd, .slice e s.was.zones.length ce, .slice f s.was.links.length cf, iv s.cur, .slice va s.vs.length cv, .slice ia s.ix.length ci] 42)).heap.size (w.alloc (.cells #[iv s.tx, .slice a s.now.rules.length ca, .slice b s.now.zones.length cb, .slice c s.now.links.length cc, .slice d s.was.rules.length cd, .slice e s.was.zones.length ce, .slice f s.was.links.length cf, iv s.cur, .slice va s.vs.length cv, .slice ia s.ix.length ci] 42))).alloc (nlr _) (.cells #[] 87)
 have ag := qtr bg gF
 have A0 := (Zg.new w [iv s.tx, .slice a s.now.rules.length ca, .slice b s.now.zones.length cb, .slice c s.now.links.length cc, .slice d s.was.rules.length cd, .slice e s.was.zones.length ce, .slice f s.was.links.length cf, iv s.cur, .slice va s.vs.length cv, .slice ia s.ix.length ci] 42).below gF
 have hS := oU _ (cC.below ag)
 have kW := jau (w.alloc (.cells #[iv s.tx, .slice a s.now.rules.length ca, .slice b s.now.zones.length cb, .slice c s.now.links.length cc, .slice d s.was.rules.length cd, .slice e s.was.zones.length ce, .slice f s.was.links.length cf, iv s.cur, .slice va s.vs.length cv, .slice ia s.ix.length ci] 42)) 87 8
 have Hl : (w.alloc (.cells #[iv s.tx, .slice a s.now.rules.length ca, .slice b s.now.zones.length cb, .slice c s.now.links.length cc, .slice d s.was.rules.length cd, .slice e s.was.zones.length ce, .slice f s.was.links.length cf, iv s.cur, .slice va s.vs.length cv, .slice ia s.ix.length ci] 42)).heap.size = w.heap.size + 1 := by simp
 rw [Hl] at kW
 clear bg gF Hl
 have HV := hid hV
 obtain ⟨x0, x1, x2, x3, x4, x5, x6, x7, x8, x9⟩ := A0.ten
 clear hV hv cC oU
 go_enter Tryz.func20, Tryz.ntmps20
 go_wp2_with fail
 refine hS.mono ?_
 rintro e1 w1 ⟨rfl, hb1⟩
 have aj := qtr ag hb1
 have A1 := A0.below hb1
 have fO := jad kW hb1
 have dO : w.heap.size + 1 <= w1.heap.size := by have := hb1.size; simp at this; omega
 clear x0 x1 x2 x3 x4 x5 x6 x7 x8 x9 A0 ag hb1 hS
 cases tb
 ·go_wp2
  go_ret
  exact ⟨_, rfl, jak fO (by omega), aj⟩
 obtain ⟨n, hn⟩ := qeb s.vs.length
 have HN := hid hn
 have Ac : Hid (∀ wr, Bw w wr -> Za wr va 8 (s.vs.map VersionD.cs)) := fun wr hb => HV.out.below hb
 have x8 := A1.c 8 rfl
 simp only [hn] at x8 hl
 clear hn HV
 go_wp2
 go_loopw [5, 6] (fun h t wr => ∃ (i m c : Nat) (p : Option Addr), i <= n /\ t = iv i /\ h = .slice p m c /\ m <= i /\ Hid ((hisK s.vs id i).length = m) /\ wr.ownsRow (w.heap.size + 1) 87 8 (.slice p m c) m ((hisK s.vs id i).map VersionD.cs).flatten /\ Below (w.heap.size + 1) w1 wr) (fun _ t _ => n - (intOf t).toNat)
 case atStart => exact ⟨0, 0, 0, _, by omega, rfl, rfl, by omega, rfl, fO, brf _ _⟩
 case round =>
  obtain ⟨wa, dY⟩ := qea wr
  subst dY
  obtain ⟨i, m, cq, pq, hin, rfl, rfl, GS, HM, hO, aH⟩ := hrel
  have bQ := aj.trans (aH.mono (by omega))
  have hA := Ac.out wa bQ
  have y8 := (aH.cell (p := (ad w.heap.size 8)) (by simp)).trans x8
  have hsz := bQ.size
  have wQ := aH.size
  have Ds := aj.size
  by_cases hlt : i < n
  ·have a1 : (i : Int) < (n : Int) := by omega
   obtain ⟨v, hv⟩ : ∃ v, s.vs[i]? = some v := ⟨_, lgg (by have := HN.out; omega)⟩
   have ao : (s.vs.map VersionD.cs)[i]? = some v.cs := by rw [lgm, hv]; rfl
   obtain ⟨bb, ob, rfl, hc⟩ := hA.at (i := i) ao
   have c0 : wa.cell? (ad bb (ob + i * 8)) = some (iv v.tx) := hc 0 _ rfl
   have c1 := hc 1 _ rfl
   have c2 := hc 2 _ rfl
   have c3 := hc 3 _ rfl
   have c4 := hc 4 _ rfl
   have c5 := hc 5 _ rfl
   have c6 := hc 6 _ rfl
   have c7 := hc 7 _ rfl
   clear hc ao hA
   by_cases nA : v.id = id
   ·subst nA
    have HK : Hid (hisK s.vs v.id (i + 1) = hisK s.vs v.id i ++ [v]) := jsk hv rfl
    clear hv
    obtain ⟨L, gV⟩ := qeb (hisK s.vs v.id i)
    rw [gV] at hO HM HK
    clear gV
    go_wp2_with (first | (at_builtin; refine wpList_append_own _ rfl _ _ 39 rfl (w.heap.size + 1) 87 i0 (.agg #[iv 0, .bool false, iv 0, .string ⟨#[]⟩, .string ⟨#[]⟩, iv 0, iv 0, iv 0]) 8 80 Tryz.underlying39 hi aG aI aF rfl (by decide) _ _ _ rfl (woa hO _) (ad wa.heap.size 0) 1 1 [iv v.tx, .bool v.gone, iv v.id, .string v.name, .string v.zone, iv v.wall, iv v.gap, iv v.fold] rfl rfl ?b1 ?b2 ?b3 ?b4 ?b5 ?_) | fail)
    case b1 => exact jaf _ [iv v.tx, .bool v.gone, iv v.id, .string v.name, .string v.zone, iv v.wall, iv v.gap, iv v.fold] _
    case b2 => intro u hu; simp at hu; rcases hu with rfl | rfl | rfl | rfl | rfl | rfl | rfl | rfl <;> rfl
    case b3 => unfold maxLen; omega
    case b4 => omega
    case b5 => simp; omega
    intro v2 w2 av aP _
    have an : Below (w.heap.size + 1) w1 w2 := (aH.alloc (show w.heap.size + 1 <= wa.heap.size from by omega) _).grown aP (by simp; omega) (fun j hj => (hO.lt j hj).1)
    obtain ⟨p2, c2, rfl, _⟩ := jvs av
    go_wp2
    go_roundw
    case rel => exact ⟨i + 1, m + 1, c2, p2, by omega, by go_num, rfl, by omega, by simp only [Hid]; rw [HK.out, lla, HM.out]; rfl, by rw [HK.out]; simpa [VersionD.cs] using av, an⟩
    case measure => simp [intOf]; omega
   ·have HK : Hid (hisK s.vs id (i + 1) = hisK s.vs id i) := jwz hv nA
    have hq : (v.id == id) = false := by simp [nA]
    have Do : decide (v.id = id) = false := dfe nA
    clear hv
    go_wp2
    go_roundw
    case rel => exact ⟨i + 1, m, cq, pq, by omega, by go_num, rfl, by omega, by simp only [Hid]; rw [HK.out]; exact HM.out, by rw [HK.out]; exact hO, aH⟩
    case measure => simp [intOf]; omega
  ·obtain rfl : i = n := by omega
   have HR : Hid (hisK s.vs id i = hisL s.vs id) := by simp only [Hid]; rw [<- HN.out]; exact jsl _ _
   go_wp2
   go_ret
   exact ⟨_, rfl, by simp only [if_true]; unfold Jl; rw [<- HR.out, HM.out]; exact jak hO (by omega), bQ⟩
end
section
open Go.RowKit
theorem jll {L : List VersionD} : ∀ r ∈ L.map VersionD.cs, r.length = 8 := fun r hr => by
 obtain ⟨x, _, rfl⟩ := List.mem_map.1 hr
 rfl
theorem Jl.seq {w : World} {base : Nat} {v : Value} {P : List VersionD} (h : Jl w base v P) : ∃ a cap, v = .slice a P.length cap /\ Za w a 8 (P.map VersionD.cs) := by
 obtain ⟨a, cap, h1, h2, h3⟩ := jbd (rows := P.map VersionD.cs) (by rw [llm]; exact h) jll
 rw [llm] at h1 h3
 exact ⟨a, cap, h1, h2⟩
theorem jgb (a : Option Addr) (cap k : Nat) (w : World) : Cl 23 #[.slice a 0 cap, iv k] w fun e w' => e = .returned (iv k) /\ w' = w := by
 go_enter Tryz.func23, Tryz.ntmps23
 go_wp2
 go_loopw [1, 5] (fun s t wr => t = iv 0 /\ s = iv k /\ wr = w) (fun _ _ _ => 0)
 case atStart => exact ⟨rfl, rfl, rfl⟩
 case round =>
  obtain ⟨rfl, rfl, hw⟩ := hrel
  have hw := hw.symm
  subst hw
  go_wp2
  go_ret
  exact ⟨rfl, rfl⟩
theorem jl8 (X : List VersionD) (v : Value) (base k : Nat) (w : World) (h : Jl w base v X) (h0 : 0 < k) (h1 : k + 8 * X.length < 1000000000) :
  Cl 23 #[v, iv k] w fun e w' => e = .returned (iv ((k + 8 * X.length : Nat) : Int)) /\ (∃ a cap, v = .slice a X.length cap /\ Za w' a 8 (ja9 k X.length)) /\ Zb (fun b => v.ownBlock = some b) w w' := by
 rcases h.2 with ⟨hv, hn⟩ | ⟨g, cap, cur, hv, _⟩
 ·subst hv
  rw [hn]
  refine (jgb none 0 k w).mono ?_
  rintro e w' ⟨rfl, rfl⟩
  exact ⟨rfl, ⟨_, _, rfl, .inl rfl⟩, Zb.refl _ _⟩
 ·subst hv
  refine (jdd X.length g cap k w (jgy h) h0 h1).mono ?_
  rintro e w' ⟨rfl, hS, _, ht⟩
  exact ⟨rfl, ⟨_, _, rfl, hS⟩, ht.mono fun b _ hb => by rw [hb.1]; rfl⟩
theorem Za.touchV {S : Nat -> Prop} {w w' : World} {a : Option Addr} {n cap k : Nat} {rows : List (List Value)} (h : Za w a k rows) (ht : Zb S w w') (hs : ∀ g, (Value.slice a n cap).ownBlock = some g -> ¬ S g) : Za w' a k rows := by
 rcases h with h | ⟨b, o, rfl, h⟩
 ·exact .inl h
 ·exact .inr ⟨b, o, rfl, fun i j r c hi hj => ht.cell (hs b rfl) (h i j r c hi hj)⟩
end
section
open Go.RowKit Go.Sort
theorem j2k (tb : Bool) (l : List VersionD) (id : Int) : (if tb = true then hisL l id else []).length <= l.length := by
 cases tb
 ·simp
 ·exact List.length_filter_le _ _
theorem Jl.touch {S : Nat -> Prop} {w w' : World} {base : Nat} {v : Value} {L : List VersionD} (h : Jl w base v L) (ht : Zb S w w') (hs : ∀ g, v.ownBlock = some g -> ¬ S g) : Jl w' base v L := by
 refine ⟨h.1, ?_⟩
 rcases h.2 with h | ⟨g, cap, cur, rfl, h1, h2, h3⟩
 ·exact .inl h
 ·refine .inr ⟨g, cap, cur, rfl, h1, ?_, h3⟩
  have hl : g < w.heap.size := (Array.getElem?_eq_some_iff.mp h2).1
  exact (ht.block g hl (hs g rfl)).trans h2
theorem walkH (s : StoreD) (id : Int) (tb : Bool) (v : Value) (w : World) (hv : Zx w v s) (nQ : s.ok) (bT : Zz w) (hI : Zt s -> ∀ v w, Zz w -> Zx w v s -> Cl 43 #[v] w fun e w' => e = .returned (.bool tb) /\ Bw w w') (hS : Zt s -> ∀ v w, Zx w v s -> Cl 28 #[v] w fun e w' => e = .returned (.bool tb) /\ Bw w w') :
  Cl 5 #[v, iv id] w fun e w' => e = .returned (.bool true) /\ Bw w w' := by
 have cC := hv
 obtain ⟨a, b, c, d, e, f, va, ia, ca, cb, cc, cd, ce, cf, cv, ci, rfl, _, _, _, _, _, _⟩ := hv.form
 have ag := qal w (.cells #[iv s.tx, .slice a s.now.rules.length ca, .slice b s.now.zones.length cb, .slice c s.now.links.length cc, .slice d s.was.rules.length cd, .slice e s.was.zones.length ce, .slice f s.was.links.length cf, iv s.cur, .slice va s.vs.length cv, .slice ia s.ix.length ci] 30)
 have A0 := Zg.new w [iv s.tx, .slice a s.now.rules.length ca, .slice b s.now.zones.length cb, .slice c s.now.links.length cc, .slice d s.was.rules.length cd, .slice e s.was.zones.length ce, .slice f s.was.links.length cf, iv s.cur, .slice va s.vs.length cv, .slice ia s.ix.length ci] 30
 have hZ := jg2 s _ 1048576 _ (cC.below ag) nQ (by omega) (by omega)
 obtain ⟨x0, x1, x2, x3, x4, x5, x6, x7, x8, x9⟩ := A0.ten
 by_cases g : 1048576 - (s.sz : Int) < 0
 ·rw [jal g] at hZ
  clear g
  go_enter Tryz.func5, Tryz.ntmps5
  go_wp2_with fail
  refine hZ.mono ?_
  rintro e1 w1 ⟨rfl, hb1⟩
  go_wp2
  go_ret
  exact ⟨rfl, (qtr ag hb1)⟩
 rw [ja7 (by omega)] at hZ
 have ok := nQ.store (by omega)
 have hsz : s.now.sz <= 1048576 /\ s.was.sz <= 1048576 := by unfold StoreD.sz at g; omega
 have iu := fun w h => jg1 s (.agg #[iv s.tx, .slice a s.now.rules.length ca, .slice b s.now.zones.length cb, .slice c s.now.links.length cc, .slice d s.was.rules.length cd, .slice e s.was.zones.length ce, .slice f s.was.links.length cf, iv s.cur, .slice va s.vs.length cv, .slice ia s.ix.length ci]) w h ok
 have vo := fun v w hE h => jo2 s v id tb w hE h ok.vl (hI ok v)
 have Cz := fun v w h => jno s v id tb w h ok.vl (hS ok v)
 have Ca := fun v v2 w h h2 => jg3 s v v2 w h h2 ok
 have vx := fun v B U w h hU => jey s v B U w h hU hsz.1 hsz.2 ok.vl ok.xl
 have iY := Nat.le_trans (j2k tb s.vs id) ok.vl
 generalize (if tb = true then hisL s.vs id else []) = H at *
 have hQ := fun a a2 c c2 w h h2 => jd8 H a a2 c c2 w h h2 iY
 have g2 : ¬ (1048576 - (s.sz : Int) < 0) := g
 clear g hI hS hsz
 generalize (s.sz : Int) = sz at *
 go_enter Tryz.func5, Tryz.ntmps5
 go_wp2_with fail
 refine hZ.mono ?_
 rintro e1 w1 ⟨rfl, hb1⟩
 have aj := qtr ag hb1
 have A1 := A0.below hb1
 clear x0 x1 x2 x3 x4 x5 x6 x7 x8 x9 hb1 A0 ag hZ
 obtain ⟨x0, x1, x2, x3, x4, x5, x6, x7, x8, x9⟩ := A1.ten
 go_wp2_with fail
 refine (iu _ (cC.below aj)).mono ?_
 rintro e2 w2 ⟨v2, rfl, bC, ac⟩
 have an := qtr aj ac
 have A2 := A1.below ac
 have mi := bC.st
 clear x0 x1 x2 x3 x4 x5 x6 x7 x8 x9 ac A1 aj bC
 go_wp2_with fail
 refine (Cz v2 _ mi).mono ?_
 rintro e3 w3 ⟨x3, rfl, kd, ar⟩
 have ay := qtr an ar
 have A3 := A2.below ar
 have l3 := ar.size
 have lw : ∀ g, x3.ownBlock = some g -> g < w3.heap.size := fun g hg => (kd.lt g hg).2
 have Ab := hid kd
 obtain ⟨p3, c3, ej, jk⟩ := kd.seq
 subst ej
 clear ar A2 an mi kd
 obtain ⟨x0, x1, x2, x3, x4, x5, x6, x7, x8, x9⟩ := A3.ten
 have la : w.heap.size < w3.heap.size := qbl x0
 go_wp2_with fail
 refine (iu _ (cC.below ay)).mono ?_
 rintro e4 w4 ⟨v4, rfl, dC, az⟩
 have aR := qtr ay az
 have A4 := A3.below az
 have oT := dC.st
 have kh := jk.below az
 have l4 := az.size
 obtain ⟨ga, gb, gc, gd, ge, gf, gv, gx, Dz, _⟩ := dC.form
 subst Dz
 have ul := hid dC
 clear x0 x1 x2 x3 x4 x5 x6 x7 x8 x9 az A3 ay dC jk
 have b5 := qal w4 (.cells #[iv s.tx, .slice (some (ad ga 0)) s.now.rules.length s.now.rules.length, .slice (some (ad gb 0)) s.now.zones.length s.now.zones.length, .slice (some (ad gc 0)) s.now.links.length s.now.links.length, .slice (some (ad gd 0)) s.was.rules.length s.was.rules.length, .slice (some (ad ge 0)) s.was.zones.length s.was.zones.length, .slice (some (ad gf 0)) s.was.links.length s.was.links.length, iv s.cur, .slice (some (ad gv 0)) s.vs.length s.vs.length, .slice (some (ad gx 0)) s.ix.length s.ix.length] 42)
 have bG := qtr aR b5
 have A5 := A4.below b5
 have mj := oT.below b5
 have fy := kh.below b5
 have X5 := Zg.new w4 [iv s.tx, .slice (some (ad ga 0)) s.now.rules.length s.now.rules.length, .slice (some (ad gb 0)) s.now.zones.length s.now.zones.length, .slice (some (ad gc 0)) s.now.links.length s.now.links.length, .slice (some (ad gd 0)) s.was.rules.length s.was.rules.length, .slice (some (ad ge 0)) s.was.zones.length s.was.zones.length, .slice (some (ad gf 0)) s.was.links.length s.was.links.length, iv s.cur, .slice (some (ad gv 0)) s.vs.length s.vs.length, .slice (some (ad gx 0)) s.ix.length s.ix.length] 42
 have z5 : (w4.alloc (.cells #[iv s.tx, .slice (some (ad ga 0)) s.now.rules.length s.now.rules.length, .slice (some (ad gb 0)) s.now.zones.length s.now.zones.length, .slice (some (ad gc 0)) s.now.links.length s.now.links.length, .slice (some (ad gd 0)) s.was.rules.length s.was.rules.length, .slice (some (ad ge 0)) s.was.zones.length s.was.zones.length, .slice (some (ad gf 0)) s.was.links.length s.was.links.length, iv s.cur, .slice (some (ad gv 0)) s.vs.length s.vs.length, .slice (some (ad gx 0)) s.ix.length s.ix.length] 42)).heap.size = w4.heap.size + 1 := by simp
 obtain ⟨y0, y1, y2, y3, y4, y5, y6, y7, y8, y9⟩ := X5.ten
 clear A4 aR oT kh
 go_wp2_with fail
 refine (vo _ _ (bT.of_below bG) mj).mono ?_
 rintro e6 w6 ⟨x6, rfl, kT, hb6⟩
 rw [z5] at kT
 have ck := qtr bG hb6
 have A6 := A5.below hb6
 have X6 := X5.below hb6
 have qJ := mj.below hb6
 have uy := qtr b5 hb6
 have lC := fy.below hb6
 have lg : ∀ g, x6.ownBlock = some g -> w4.heap.size + 1 <= g := fun g hg => (kT.lt g hg).1
 obtain ⟨p6, c6, zp, xY⟩ := kT.seq
 subst zp
 clear y0 y1 y2 y3 y4 y5 y6 y7 y8 y9 hb6 A5 X5 bG mj b5 fy z5
 go_wp2_with fail
 refine (hQ _ _ _ _ _ xY lC).mono ?_
 rintro e7 w7 ⟨rfl, ax⟩
 have bD := jab w7
 have fW := qtr ax bD
 have gU : Hid (Bw w w7.drew) := qtr ck fW
 have AD := A6.below fW
 have XD := X6.below fW
 have uh := hid AD
 have ut := hid XD
 have uo : Hid (Zx w7.drew (.agg #[iv s.tx, .slice (some (ad ga 0)) s.now.rules.length s.now.rules.length, .slice (some (ad gb 0)) s.now.zones.length s.now.zones.length, .slice (some (ad gc 0)) s.now.links.length s.now.links.length, .slice (some (ad gd 0)) s.was.rules.length s.was.rules.length, .slice (some (ad ge 0)) s.was.zones.length s.was.zones.length, .slice (some (ad gf 0)) s.was.links.length s.was.links.length, iv s.cur, .slice (some (ad gv 0)) s.vs.length s.vs.length, .slice (some (ad gx 0)) s.ix.length s.ix.length]) s) := qJ.below fW
 have mI : Hid (Jl w7.drew (w4.heap.size + 1) (.slice p6 H.length c6) H) := kT.below fW
 have us : Hid (Za w7.drew p3 8 (H.map VersionD.cs)) := lC.below fW
 have ug : Hid (Bw w4 w7.drew) := qtr uy fW
 obtain ⟨x0, x1, x2, x3, x4, x5, x6, x7, x8, x9⟩ := AD.ten
 obtain ⟨y0, y1, y2, y3, y4, y5, y6, y7, y8, y9⟩ := XD.ten
 have ka := iu w7.drew (cC.below gU.out)
 clear A6 X6 AD XD qJ bD fW ax ck uy kT xY lC
 go_wp2_with fail
 go_region_held3 (fun w' => w'.cell? (ad w.heap.size 0) = some (iv s.tx) /\ w'.cell? (ad w.heap.size 1) = some (.slice a s.now.rules.length ca) /\ w'.cell? (ad w.heap.size 2) = some (.slice b s.now.zones.length cb) /\ w'.cell? (ad w.heap.size 3) = some (.slice c s.now.links.length cc) /\ w'.cell? (ad w.heap.size 4) = some (.slice d s.was.rules.length cd) /\ w'.cell? (ad w.heap.size 5) = some (.slice e s.was.zones.length ce) /\ w'.cell? (ad w.heap.size 6) = some (.slice f s.was.links.length cf) /\ w'.cell? (ad w.heap.size 7) = some (iv s.cur) /\ w'.cell? (ad w.heap.size 8) = some (.slice va s.vs.length cv) /\ w'.cell? (ad w.heap.size 9) = some (.slice ia s.ix.length ci) /\ w'.cell? (ad w4.heap.size 0) = some (iv s.tx) /\ w'.cell? (ad w4.heap.size 1) = some (.slice (some (ad ga 0)) s.now.rules.length s.now.rules.length) /\ w'.cell? (ad w4.heap.size 2) = some (.slice (some (ad gb 0)) s.now.zones.length s.now.zones.length) /\ w'.cell? (ad w4.heap.size 3) = some (.slice (some (ad gc 0)) s.now.links.length s.now.links.length) /\ w'.cell? (ad w4.heap.size 4) = some (.slice (some (ad gd 0)) s.was.rules.length s.was.rules.length) /\ w'.cell? (ad w4.heap.size 5) = some (.slice (some (ad ge 0)) s.was.zones.length s.was.zones.length) /\ w'.cell? (ad w4.heap.size 6) = some (.slice (some (ad gf 0)) s.was.links.length s.was.links.length) /\ w'.cell? (ad w4.heap.size 7) = some (iv s.cur) /\ w'.cell? (ad w4.heap.size 8) = some (.slice (some (ad gv 0)) s.vs.length s.vs.length) /\ w'.cell? (ad w4.heap.size 9) = some (.slice (some (ad gx 0)) s.ix.length s.ix.length)) (go_keep) (first | (go_at_call 8; refine ka.mono ?_; rintro e8 w8 ⟨v8, rfl, dv, bR⟩; have qK := dv.st; clear dv; have xg := jaa bR x0; have xh := jaa bR x1; have xj := jaa bR x2; have xk := jaa bR x3; have xn := jaa bR x4; have xu := jaa bR x5; have xy := jaa bR x6; have xA := jaa bR x7; have xB := jaa bR x8; have xC := jaa bR x9; have xD := jaa bR y0; have xF := jaa bR y1; have xG := jaa bR y2; have xH := jaa bR y3; have xI := jaa bR y4; have xJ := jaa bR y5; have xK := jaa bR y6; have xL := jaa bR y7; have xM := jaa bR y8; have xN := jaa bR y9; have C8 := Ca _ v8 w8 (uo.out.below bR) qK; obtain ⟨a7, b7, c7, d7, e7, f7, Nl, Mg, JM, JP, JQ, JR, JS, JT, JW, JU, DA, _⟩ := qK.form; subst DA; clear qK) | (go_at_call 11; refine C8.mono ?_; rintro e9 w9 ⟨rfl, aT⟩; have lL := jaa aT xg; have nU := jaa aT xh; have Ej := jaa aT xj; have Ek := jaa aT xk; have El := jaa aT xn; have Em := jaa aT xu; have En := jaa aT xy; have Eo := jaa aT xA; have Ep := jaa aT xB; have Eq := jaa aT xC; have tO := jaa aT xD; have tP := jaa aT xF; have tQ := jaa aT xG; have tR := jaa aT xH; have tS := jaa aT xI; have tT := jaa aT xJ; have tU := jaa aT xK; have tV := jaa aT xL; have tW := jaa aT xM; have tX := jaa aT xN))
 have i7 := qtr bR aT
 have eU := qtr gU.out i7
 have A9 := uh.out.below i7
 have X9 := ut.out.below i7
 have vk := mI.out.below i7
 have pG := us.out.below i7
 have pS := qtr ug.out i7
 have vQ := ul.out.upto l4 pS
 have xd := pS.size
 clear x0 x1 x2 x3 x4 x5 x6 x7 x8 x9 y0 y1 y2 y3 y4 y5 y6 y7 y8 y9 xg xh xj xk xn xu xy xA xB xC xD xF xG xH xI xJ xK xL xM xN
 clear lL nU Ej Ek El Em En Eo Ep Eq tO tP tQ tR tS tT tU tV tW tX
 clear gU uh ut mI us ug ul uo Ab bR aT i7 pS ka
 obtain ⟨y0, y1, y2, y3, y4, y5, y6, y7, y8, y9⟩ := X9.ten
 go_wp2_with fail
 refine (vx _ _ _ _ vQ xd).mono ?_
 rintro K7 In ⟨⟨K, rfl⟩, lW⟩
 have ib := lW.below (fun x hx => by have : w3.heap.size <= x /\ x < w4.heap.size := hx; omega) eU.size eU
 have u9 := A9.touch lW (show ¬ (w3.heap.size <= w.heap.size /\ w.heap.size < w4.heap.size) by omega)
 have ii := vk.touch lW (fun g hg => by show ¬ (w3.heap.size <= g /\ g < w4.heap.size); have := lg g hg; omega)
 have iG := pG.touchV (n := H.length) (cap := c3) lW (fun g hg => by show ¬ (w3.heap.size <= g /\ g < w4.heap.size); have := lw g hg; omega)
 obtain ⟨pq, cq, hp, lR⟩ := ii.seq
 injection hp with e1 e2 e3
 subst e1 e3
 have kk : ¬ ((K : Int) < 0) := by omega
 clear lW vk pG A9 X9 eU vQ vx xd e2 y0 y1 y2 y3 y4 y5 y6 y7 y8 y9
 go_wp2_with fail
 refine (hQ _ _ _ _ _ lR iG).mono ?_
 rintro K9 EH ⟨rfl, eD⟩
 have ic := qtr ib eD
 have ud := u9.below eD
 have kR := ii.below eD
 have lx := iG.below eD
 clear eD ib u9 ii iG lR
 have hK := jl8 H _ _ 1 EH kR (by omega) (by omega)
 have vm := fun w h => jgc H.length c6 1 p6 w h (by omega) (by omega)
 have Lj : (0 : Int) <= ((1 + 8 * H.length : Nat) : Int) := by omega
 generalize hd4 : 1 + 8 * H.length = d3 at *
 clear hd4
 go_wp2_with fail
 refine hK.mono ?_
 rintro Ka Nn ⟨rfl, Dq, oc⟩
 obtain ⟨am, cm, em, iS⟩ := Dq
 injection em with m1 m2 m3
 subst m1 m3
 have kL := oc.below (fun x hx => by have := lg x hx; omega) ic.size ic
 have ue := ud.touch oc (fun h => by have := lg _ h; omega)
 have ly := lx.touchV (n := H.length) (cap := c3) oc (fun g hg h => by have := lg _ h; have := lw g hg; omega)
 clear oc kR lx ud ic hK m2
 have dd : ¬ ((d3 : Int) < 0) := by omega
 go_wp2_with fail
 refine (vm _ iS).mono ?_
 rintro Kb Np ⟨rfl, eE⟩
 have ie := qtr kL eE
 have uf := ue.below eE
 have lT := iS.below eE
 have lz := ly.below eE
 clear eE kL ue iS ly
 obtain ⟨x0, x1, x2, x3, x4, x5, x6, x7, x8, x9⟩ := uf.ten
 go_wp2_with fail
 refine (iu _ (cC.below ie)).mono ?_
 rintro Kc Nq ⟨Nk, rfl, kX, ft⟩
 have ig := qtr ie ft
 have lU := lT.below ft
 have lA := lz.below ft
 have kZ := kX.st
 clear ft ie uf lT lz kX x0 x1 x2 x3 x4 x5 x6 x7 x8 x9
 go_wp2_with fail
 refine (vo _ _ (bT.of_below ig) kZ).mono ?_
 rintro Kd Nr ⟨zC, rfl, kS, fu⟩
 have kM := qtr ig fu
 have lV := lU.below fu
 have lB := lA.below fu
 obtain ⟨MJ, JJ, rD, lS⟩ := kS.seq
 subst rD
 clear fu ig lU lA kZ kS
 go_wp2_with fail
 refine (hQ _ _ _ _ _ lS lB).mono ?_
 rintro Ke Ns ⟨rfl, iy⟩
 have qf := qtr kM iy
 have sg := lV.below iy
 clear iy kM lV lB lS
 go_wp2_with fail
 refine (vm _ sg).mono ?_
 rintro Kf Nt ⟨rfl, qU⟩
 go_wp2
 go_ret
 exact ⟨rfl, (qtr qf qU)⟩
end
end Go.Proofs.YtgiieknbckhofaaGreatDoor
