/- Packed. -/
import Derived.Test.YtpejeokacilebaaGreatDoorSCs
import Derived.Test.YtpejeokacilebaaGreatDoorSBs
import Derived.Maps.RangeWalk
set_option maxRecDepth 100000
set_option maxHeartbeats 20000000
set_option linter.unusedSimpArgs false
namespace Go.Proofs.YtpejeokacilebaaGreatDoor
section
open Go.RowKit Go.ChangeMaps Go.MapKept
theorem jan {w w' : World} (hb : Below w.heap.size w w') : w.grownBy w' none := ⟨hb.os, hb.tape, hb.output, hb.size, fun k hk _ => hb.block k hk⟩
structure Tells (f : Int -> Option EventD) (L : List EventD) : Prop where
 id : ∀ i x, f i = some x -> x.id = i
 mem : ∀ e, e ∈ L ↔ f e.id = some e
theorem mapV_at {D : DataW EventD} {f : Int -> Option EventD} (h : MapV D f) {x : Int} {c : EventD} (hat : ∀ z, D.atKey (.int .i64 x) z = .held c) : f x = some c := by
 cases hf : f x with
 | none =>
  have := (h x c).2 hf
  rw [Maps.has_true_of_atKey hat] at this
  cases this
 | some e =>
  have := ((h x e).1 hf).2 (.held c)
  rw [hat] at this
  injection this with this
  rw [this]
theorem left_start {D : DataW EventD} {f : Int -> Option EventD} (h : MapV D f) {x : Int} {e : EventD} (hf : f x = some e) : Maps.has D (.int .i64 x) = true := ((h x e).1 hf).1
theorem left_next {left : Lit -> Bool} {x y : Int} (h : (left (.int .i64 y) && !Lit.sameKey (.int .i64 y) (.int .i64 x)) = false) : left (.int .i64 y) = false \/ y = x := by
 cases hl : left (.int .i64 y)
 ·exact .inl rfl
 ·rw [hl] at h
  by_cases e : y = x
  ·exact .inr e
  ·rw [Maps.sameKey_ne (fun h => e (by simp only [Lit.int.injEq, true_and] at h; exact h))] at h
   cases h
theorem impl_zonesIn (f : Int -> Option EventD) (L : List EventD) (b n : Nat) (r : RelD) (v : Value) (w : World) (hEnv : Zw w) (hM : Zl w b n f) (hL : Tells f L) (hv : Zb w v r) (ok : Jj r) (hr : relB r = true) :
  Calls Tryz.prog 79 #[.map (some b), v] w fun e w' => e = .returned (.bool (L.all fun x => inR r x.zone)) /\ Below w.heap.size w w' := by
 obtain ⟨a, b2, c, ca, cb, cc, rfl, _, _, _⟩ := hv.form
 have hB0 := qal w (.cells #[.slice a r.rules.length ca, .slice b2 r.zones.length cb, .slice c r.links.length cc] 37)
 have hM0 := hM.alloc (.cells #[.slice a r.rules.length ca, .slice b2 r.zones.length cb, .slice c r.links.length cc] 37)
 have hbl := hM.lt
 obtain ⟨D, hown, hD⟩ := hM0.own
 have hZ := fun nm w hE h => impl_zoneIn r (.agg #[.slice a r.rules.length ca, .slice b2 r.zones.length cb, .slice c r.links.length cc]) nm w hE h ok hr
 obtain ⟨s0, s1, s2⟩ : (fun z : World => z.cell? ⟨w.heap.size, 0, none⟩ = some (.slice a r.rules.length ca) /\ z.cell? ⟨w.heap.size, 1, none⟩ = some (.slice b2 r.zones.length cb) /\ z.cell? ⟨w.heap.size, 2, none⟩ = some (.slice c r.links.length cc)) (w.alloc (.cells #[.slice a r.rules.length ca, .slice b2 r.zones.length cb, .slice c r.links.length cc] 37)) := by simp [go_sem]
 have hv0 := hv.below hB0
 have hE0 := hEnv.of_below hB0
 have HT := hid hL
 have HD := hid hD
 clear hM0 hM hL hv hEnv hD
 go_enter Tryz.func79, Tryz.ntmps79
 have hs0 : (w.alloc (.cells #[.slice a r.rules.length ca, .slice b2 r.zones.length cb, .slice c r.links.length cc] 37)).heap.size = w.heap.size + 1 := by simp
 go_wp2_with (first
  | (at_range; refine wpList_range_own _ rfl _ 105 rfl 2 54 (Maps.int_keyed keyT) mapT jct b n D rfl hown ?_; intro w0 hrg0 hg0 hz0)
  | go_in)
 go_frame
 generalize (w.alloc (.cells #[.slice a r.rules.length ca, .slice b2 r.zones.length cb, .slice c r.links.length cc] 37)) = wb at *
 go_loopw [6] (fun _ wr => ∃ (left : Lit -> Bool) (cnt : Nat), wr.ranges Tryz.prog 2 jct b wb.heap.size n D left cnt /\ Hid (∀ x e, f x = some e -> left (.int .i64 x) = false -> inR r e.zone = true) /\ Below wb.heap.size wb wr) (fun _ wr => wr.rangeLeft b wb.heap.size)
 case atStart => exact ⟨_, _, hrg0, fun x e hf hl => by (rw [left_start HD.out hf] at hl; cases hl), (Below.refl _ _).grown hg0 (by omega) (fun k hk => by cases hk)⟩
 case round =>
  obtain ⟨wa, hwa⟩ : ∃ x : World, x = wr := ⟨_, rfl⟩
  subst hwa
  obtain ⟨left, cnt, hrg, HK, hBr⟩ := hrel
  clear hrg0 hg0 hz0
  have hBx := hB0.trans (hBr.mono (by omega))
  have hsz := hBr.size
  have HBr := hid hBr
  have HS := hid hs0
  clear hs0
  go_wp2_with (first
   | (at_next; refine wpList_next_ranges _ rfl _ rfl 2 (Maps.int_keyed keyT) jct (Value.int .i64) (fun c : EventD => Value.agg #[.int .i64 c.id, .string c.name, .string c.zone, .int .i64 c.wall, .int .i64 c.gap, .int .i64 c.fold]) (fun key kl hkey => by (obtain ⟨x, rfl, _⟩ := Maps.keyOf_int_inv keyT hkey; exact ⟨x, rfl⟩)) (fun v y hv => by (obtain ⟨c, rfl, _⟩ := jda hv; exact ⟨c, rfl⟩)) b wb.heap.size n D left cnt rfl hrg ?_ ?_)
   | go_in)
  ·intro _ hl0
   have HF : Hid (L.all (fun x => inR r x.zone) = true) := List.all_eq_true.mpr fun e he => HK.out e.id e ((HT.out.mem e).mp he) (hl0 _)
   go_wp2
   go_ret
   exact ⟨ret_bool HF.out.symm, hBx⟩
  ·intro x c kl y ys w1 cnt1 hkey hlk hv1 hat hrg1 hlt hg1 hs1 hen
   have HF : Hid (f x = some c /\ c.id = x /\ kl = .int .i64 x) := by
    obtain ⟨x', ex, rfl, _⟩ := Maps.keyOf_int_inv keyT hkey
    cases ex
    obtain ⟨c', ec, ez⟩ := jda hv1
    simp only [Prod.mk.injEq] at ez
    obtain ⟨rfl, _⟩ := ez
    have : c' = c := by cases c; cases c'; simp only [EventD.v, Value.agg.injEq] at ec; simp_all
    subst this
    have h1 := mapV_at HD.out hat
    exact ⟨h1, HT.out.id _ _ h1, rfl⟩
   have hB1 : Below wb.heap.size wb w1 := HBr.out.grown hg1 hsz (fun k hk => by (cases hk; exact Nat.le_refl _))
   have hB2 := hB1.alloc hB1.size (.cells #[.int .i64 c.id, .string c.name, .string c.zone, .int .i64 c.wall, .int .i64 c.gap, .int .i64 c.fold] 54)
   have t0 := jaa hB2 s0
   have t1 := jaa hB2 s1
   have t2 := jaa hB2 s2
   have hZc := hZ c.zone _ (hE0.of_below hB2) (hv0.below hB2)
   have hrg2 := hrg1.alloc (.cells #[.int .i64 c.id, .string c.name, .string c.zone, .int .i64 c.wall, .int .i64 c.gap, .int .i64 c.fold] 54)
   clear hv1 hat hkey hg1 hZ
   cases hin : inR r c.zone
   ·have HA : Hid (L.all (fun x => inR r x.zone) = false) := List.all_eq_false.mpr ⟨c, (HT.out.mem c).mpr (by rw [HF.out.2.1]; exact HF.out.1), by rw [hin]; simp⟩
    rw [hin] at hZc
    clear hin
    go_wp2_with fail
    refine hZc.mono ?_
    rintro e w2 ⟨rfl, hb2⟩
    have hB3 := hB0.trans ((qtr hB2 hb2).mono (by rw [HS.out]; omega))
    go_wp2
    go_ret
    exact ⟨ret_bool HA.out.symm, hB3⟩
   ·have HN : Hid (∀ z e, f z = some e -> (left (.int .i64 z) && !Lit.sameKey (.int .i64 z) kl) = false -> inR r e.zone = true) := by
     intro z e hf hl
     rw [HF.out.2.2] at hl
     rcases left_next hl with h | rfl
     ·exact HK.out z e hf h
     ·rw [HF.out.1] at hf; cases hf; exact hin
    rw [hin] at hZc
    clear hin
    go_wp2_with fail
    refine hZc.mono ?_
    rintro e w2 ⟨rfl, hb2⟩
    have hB3 := qtr hB2 hb2
    have hrg3 := hrg2.kept (jan hb2) (by simp) (by simp)
    have HB3 := hid hB3
    go_wp2
    go_roundw
    case rel => exact ⟨_, cnt1, hrg3, HN, HB3.out⟩
    case measure => rw [hrg3.left_eq, hrg.left_eq]; exact hlt
end
section
open Go.RowKit Go.ChangeMaps Go.MapKept
theorem live_tells (l : List VersionD) : Tells (jcw l) (jba l) := by
 refine ⟨fun i x h => ?_, fun e => liveL_mem⟩
 unfold jcw at h
 cases hk : jcd l i with
 | none => rw [hk] at h; cases h
 | some k =>
  obtain ⟨_, ⟨v, hv, hiD⟩, _⟩ := jc8 hk
  rw [hk] at h
  simp only [hv] at h
  split at h
  ·cases h
  ·cases h; exact hiD
theorem map_keys {w : World} {b n : Nat} {D : DataW EventD} (h : w.ownsMap Tryz.prog 2 jct b n D) : ∃ es, D = .map es /\ es.Pairwise (fun p q => p.1 ≠ q.1) /\ ∀ p ∈ es, (∃ x, p.1 = .int .i64 x) /\ Maps.has D p.1 = true := by
 obtain ⟨es0, hD, hp, hk⟩ := h.entries (Maps.int_keyed keyT)
 refine ⟨es0, hD, hp, fun p hpm => ⟨?_, ?_⟩⟩
 ·obtain ⟨es, clock, _, F, _, hD2⟩ := h
  rw [hD] at hD2
  injection hD2 with hD2
  rw [hD2] at hpm
  obtain ⟨x, hx, rfl⟩ := List.mem_map.1 (mem_sorted.1 hpm)
  obtain ⟨y, hy⟩ := F.reads x hx
  rw [WideElems.rg_of hy]
  obtain ⟨z, _, h2, _⟩ := Maps.keyOf_int_inv keyT (WideElems.rd_key hy)
  exact ⟨z, h2⟩
 ·rw [hD, Maps.has_eq]
  exact List.any_eq_true.2 ⟨p, hpm, WideAt.sameKey_self (hk p hpm)⟩
theorem size_live {w : World} {b n : Nat} {f : Int -> Option EventD} {L : List EventD} {D : DataW EventD} (h : w.ownsMap Tryz.prog 2 jct b n D) (hV : MapV D f) (hT : Tells f L) (hL : L.Pairwise fun x y => x.id < y.id) : Maps.size D = L.length := by
 obtain ⟨es, hD, hp, hk⟩ := map_keys h
 have d1 : (es.map fun p => p.1).Nodup := List.pairwise_map.mpr hp
 have d2 : (L.map fun e => Lit.int .i64 e.id).Nodup := List.pairwise_map.mpr (hL.imp fun {x y} hxy h => by simp only [Lit.int.injEq, true_and] at h; omega)
 have hperm : (es.map fun p => p.1).Perm (L.map fun e => Lit.int .i64 e.id) := (List.perm_ext_iff_of_nodup d1 d2).mpr fun kl => by
  constructor
  ·intro hm
   obtain ⟨p, hpm, rfl⟩ := List.mem_map.mp hm
   obtain ⟨⟨x, hx⟩, hh⟩ := hk p hpm
   rw [hx] at hh ⊢
   cases hf : f x with
   | none => rw [(hV x ⟨0, ⟨#[]⟩, ⟨#[]⟩, 0, 0, 0⟩).2 hf] at hh; cases hh
   | some e =>
    have hi := hT.id x e hf
    exact List.mem_map.mpr ⟨e, (hT.mem e).mpr (by rw [hi]; exact hf), by rw [hi]⟩
  ·intro hm
   obtain ⟨e, he, rfl⟩ := List.mem_map.mp hm
   have hh := ((hV e.id e).1 ((hT.mem e).mp he)).1
   rw [hD, Maps.has_eq] at hh
   obtain ⟨p, hpm, hpk⟩ := List.any_eq_true.1 hh
   exact List.mem_map.mpr ⟨p, hpm, WideAt.sameKey_eq hpk⟩
 have := hperm.length_eq
 rw [List.length_map, List.length_map] at this
 rw [hD, Maps.size_eq, this]
end
section
open Go.RowKit Go.ChangeMaps Go.MapKept
def liveB (s : StoreD) (L : List EventD) : Bool := decide (L.length <= 30) && ((L.all fun x => inR s.now x.zone) && (decide (s.cur = 0) || (L.all fun x => inR s.was x.zone)))
theorem liveB_zone (s : StoreD) (L : List EventD) : liveB s L = (decide (L.length <= 30) && L.all fun x => zoneS s x.zone) := by
 unfold liveB
 congr 1
 unfold zoneS
 induction L with
 | nil => simp
 | cons x L ih =>
  simp only [List.all_cons]
  rw [<- ih]
  cases inR s.now x.zone <;> cases decide (s.cur = 0) <;> cases inR s.was x.zone <;> cases (L.all fun x => inR s.now x.zone) <;> cases (L.all fun x => inR s.was x.zone) <;> rfl
theorem impl_liveRight (s : StoreD) (v : Value) (F : Int -> Option EventD) (L : List EventD) (mb mn : Nat) (w : World) (hE : Zw w) (hv : Jh w v s) (ok : Zu s) (hM : Zl w mb mn F) (hT : Tells F L) (hL : L.Pairwise fun x y => x.id < y.id) (hmn : mn <= 1048576) (hr1 : relB s.now = true) (hr2 : relB s.was = true) :
  Calls Tryz.prog 47 #[v, .map (some mb)] w fun e w' => e = .returned (.bool (liveB s L)) /\ Below w.heap.size w w' := by
 obtain ⟨a, b, c, d, e, f, va, ia, ca, cb, cc, cd, ce, cf, cv, ci, rfl, hN, hW, _, _, _, _⟩ := hv.form
 have hB0 := qal w (.cells #[.int .i64 s.tx, .slice a s.now.rules.length ca, .slice b s.now.zones.length cb, .slice c s.now.links.length cc, .slice d s.was.rules.length cd, .slice e s.was.zones.length ce, .slice f s.was.links.length cf, .int .i64 s.cur, .slice va s.vs.length cv, .slice ia s.ix.length ci] 41)
 have hF := fun w hE hM h => impl_zonesIn F L mb mn s.now (.agg #[.slice a s.now.rules.length ca, .slice b s.now.zones.length cb, .slice c s.now.links.length cc]) w hE hM hT h ok.now hr1
 have hG := fun w hE hM h => impl_zonesIn F L mb mn s.was (.agg #[.slice d s.was.rules.length cd, .slice e s.was.zones.length ce, .slice f s.was.links.length cf]) w hE hM hT h ok.was hr2
 have hN0 := hN.below hB0
 have hW0 := hW.below hB0
 have hE0 := hE.of_below hB0
 have hM0 := hM.below hB0
 have hlen : ∀ ty, (Builtin.len_ #[105] ty #[.map (some mb)]).run Tryz.prog (w.alloc (.cells #[.int .i64 s.tx, .slice a s.now.rules.length ca, .slice b s.now.zones.length cb, .slice c s.now.links.length cc, .slice d s.was.rules.length cd, .slice e s.was.zones.length ce, .slice f s.was.links.length cf, .int .i64 s.cur, .slice va s.vs.length cv, .slice ia s.ix.length ci] 41)) = .ok (.int .i64 L.length) (w.alloc (.cells #[.int .i64 s.tx, .slice a s.now.rules.length ca, .slice b s.now.zones.length cb, .slice c s.now.links.length cc, .slice d s.was.rules.length cd, .slice e s.was.zones.length ce, .slice f s.was.links.length cf, .int .i64 s.cur, .slice va s.vs.length cv, .slice ia s.ix.length ci] 41)) := fun ty => by
  obtain ⟨D, h1, h2⟩ := hM0.own
  rw [<- size_live h1 h2 hT hL]
  exact h1.len mapT ty
 have hll : L.length <= 1048576 := by
  obtain ⟨D, h1, h2⟩ := hM0.own
  have := h1.size_le
  rw [size_live h1 h2 hT hL] at this
  omega
 unfold liveB
 clear hv ok hN hW hE hr1 hr2 hM hT hL hmn
 generalize (L.all fun x => inR s.now x.zone) = pb at *
 generalize (L.all fun x => inR s.was x.zone) = qb at *
 generalize L.length = ln at *
 obtain ⟨tx, now, was, cur, vs, ix⟩ := s
 dsimp only at *
 by_cases h30 : ln <= 30
 ·have h31 : (ln : Int) <= 30 := by omega
  rw [decide_eq_true h30]
  cases pb
  ·go_enter Tryz.func47, Tryz.ntmps47
   go_wp2_with fail
   refine (hF _ hE0 hM0 hN0).mono ?_
   rintro e' w1 ⟨rfl, hb1⟩
   go_wp2
   go_ret
   exact ⟨rfl, hB0.trans (hb1.mono (by simp))⟩
  by_cases hc0 : cur = 0
  ·subst hc0
   go_enter Tryz.func47, Tryz.ntmps47
   go_wp2_with fail
   refine (hF _ hE0 hM0 hN0).mono ?_
   rintro e' w1 ⟨rfl, hb1⟩
   have x7 : w1.cell? ⟨w.heap.size, 7, none⟩ = some (.int .i64 0) := jaa hb1 (by simp [go_sem])
   go_wp2
   go_ret
   exact ⟨rfl, hB0.trans (hb1.mono (by simp))⟩
  rw [decide_eq_false hc0]
  have hc1 : (cur == 0) = false := by simp [hc0]
  go_enter Tryz.func47, Tryz.ntmps47
  go_wp2_with fail
  refine (hF _ hE0 hM0 hN0).mono ?_
  rintro e' w1 ⟨rfl, hb1⟩
  have x7 : w1.cell? ⟨w.heap.size, 7, none⟩ = some (.int .i64 cur) := jaa hb1 (by simp [go_sem])
  have x4 : w1.cell? ⟨w.heap.size, 4, none⟩ = some (.slice d was.rules.length cd) := jaa hb1 (by simp [go_sem])
  have x5 : w1.cell? ⟨w.heap.size, 5, none⟩ = some (.slice e was.zones.length ce) := jaa hb1 (by simp [go_sem])
  have x6 : w1.cell? ⟨w.heap.size, 6, none⟩ = some (.slice f was.links.length cf) := jaa hb1 (by simp [go_sem])
  have hW1 := hW0.below hb1
  have hE1 := hE0.of_below hb1
  have hM1 := hM0.below hb1
  have hB1 := hB0.trans (hb1.mono (by simp))
  clear hB0 hb1 hW0 hN0 hE0 hM0 hlen
  go_wp2_with fail
  refine (hG _ hE1 hM1 hW1).mono ?_
  rintro e' w2 ⟨rfl, hb2⟩
  have hB2 := qtr hB1 hb2
  go_wp2
  go_ret
  exact ⟨ret_bool (by simp), hB2⟩
 ·have h31 : ¬ (ln : Int) <= 30 := by omega
  rw [decide_eq_false h30]
  go_enter Tryz.func47, Tryz.ntmps47
  go_wp2
  go_ret
  exact ⟨rfl, hB0⟩
end
end Go.Proofs.YtpejeokacilebaaGreatDoor
