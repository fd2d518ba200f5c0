/- Packed. -/
import Derived.Test.YtgiieknbckhofaaGreatDoorSCu
import Derived.Test.YtgiieknbckhofaaGreatDoorSBu
set_option maxRecDepth 100000
set_option maxHeartbeats 20000000
set_option linter.unusedSimpArgs false
namespace Go.Proofs.YtgiieknbckhofaaGreatDoor
section
open Go.RowKit Go.ChangeMaps Go.MapKept
theorem jap {w w' : World} (hb : Bw w w') : w.grownBy w' none := ⟨hb.os, hb.tape, hb.output, hb.size, fun k hk _ => hb.block k hk⟩
structure Jk (f : Int -> Option EventD) (L : List EventD) : Prop where
 id : ∀ i x, f i = some x -> x.id = i
 mem : ∀ e, e ∈ L ↔ f e.id = some e
theorem jp3 {D : DataW EventD} {f : Int -> Option EventD} (h : MapV D f) {x : Int} {c : EventD} (bF : ∀ z, D.atKey (.int .i64 x) z = .held c) : f x = some c := by
 cases hf : f x with
 | none =>
  have := (h x c).2 hf
  rw [Maps.has_true_of_atKey bF] at this
  cases this
 | some e =>
  have := ((h x e).1 hf).2 (.held c)
  rw [bF] at this
  injection this with this
  rw [this]
theorem jf7 {D : DataW EventD} {f : Int -> Option EventD} (h : MapV D f) {x : Int} {e : EventD} (hf : f x = some e) : Maps.has D (.int .i64 x) = true := ((h x e).1 hf).1
theorem jfn {left : Lit -> Bool} {x y : Int} (h : (left (.int .i64 y) && !Lit.sameKey (.int .i64 y) (.int .i64 x)) = false) : left (.int .i64 y) = false \/ y = x := by
 cases hl : left (.int .i64 y)
 ·exact .inl rfl
 ·rw [hl] at h
  by_cases e : y = x
  ·exact .inr e
  ·rw [Maps.sameKey_ne (fun h => e (by simp only [Lit.int.injEq, true_and] at h; exact h))] at h
   cases h
theorem jgz (f : Int -> Option EventD) (L : List EventD) (b n : Nat) (r : RelD) (v : Value) (w : World) (cp : Zy w) (hM : Zj w b n f) (hL : Jk f L) (hv : Zd w v r) (ok : Jp r) (hr : relB r = true) :
  Cl 98 #[.map (some b), v] w fun e w' => e = .returned (.bool (L.all fun x => inR r x.zone)) /\ Bw w w' := by
 obtain ⟨a, b2, c, ca, cb, cc, rfl, _, _, _⟩ := hv.form
 have ag := qal w (.cells #[.slice a r.rules.length ca, .slice b2 r.zones.length cb, .slice c r.links.length cc] 38)
 have dH := hM.alloc (.cells #[.slice a r.rules.length ca, .slice b2 r.zones.length cb, .slice c r.links.length cc] 38)
 have mB := hM.lt
 obtain ⟨D, ai, hD⟩ := dH.own
 have hZ := fun nm w hE h => jqo r (.agg #[.slice a r.rules.length ca, .slice b2 r.zones.length cb, .slice c r.links.length cc]) nm w hE h ok hr
 obtain ⟨s0, s1, s2⟩ : (fun z : World => z.cell? (ad w.heap.size 0) = some (.slice a r.rules.length ca) /\ z.cell? (ad w.heap.size 1) = some (.slice b2 r.zones.length cb) /\ z.cell? (ad w.heap.size 2) = some (.slice c r.links.length cc)) (w.alloc (.cells #[.slice a r.rules.length ca, .slice b2 r.zones.length cb, .slice c r.links.length cc] 38)) := by simp [go_sem]
 have dR := hv.below ag
 have eE := cp.of_below ag
 have HT := hid hL
 have HD := hid hD
 clear dH hM hL hv cp hD
 go_enter Tryz.func98, Tryz.ntmps98
 have dK : (w.alloc (.cells #[.slice a r.rules.length ca, .slice b2 r.zones.length cb, .slice c r.links.length cc] 38)).heap.size = w.heap.size + 1 := by simp
 go_wp2_with (first
  | (at_range; refine wpList_range_own _ rfl _ 70 rfl 2 79 (Maps.int_keyed keyT) mapT jb9 b n D rfl ai ?_; intro w0 ip jt aH)
  | go_in)
 go_frame
 generalize (w.alloc (.cells #[.slice a r.rules.length ca, .slice b2 r.zones.length cb, .slice c r.links.length cc] 38)) = wb at *
 go_loopw [6] (fun _ wr => ∃ (left : Lit -> Bool) (fQ : Nat), wr.ranges Tryz.prog 2 jb9 b wb.heap.size n D left fQ /\ Hid (∀ x e, f x = some e -> left (.int .i64 x) = false -> inR r e.zone = true) /\ Bw wb wr) (fun _ wr => wr.rangeLeft b wb.heap.size)
 case atStart => exact ⟨_, _, ip, fun x e hf hl => by (rw [jf7 HD.out hf] at hl; cases hl), (brf _ _).grown jt (by omega) (fun k hk => by cases hk)⟩
 case round =>
  obtain ⟨wa, eW⟩ := qea wr
  subst eW
  obtain ⟨left, fQ, jS, HK, aM⟩ := hrel
  clear ip jt aH
  have ck := ag.trans (aM.mono (by omega))
  have hsz := aM.size
  have xc := hid aM
  have HS := hid dK
  clear dK
  go_wp2_with (first
   | (at_next; refine wpList_next_ranges _ rfl _ rfl 2 (Maps.int_keyed keyT) jb9 (Value.int .i64) (fun c : EventD => Value.agg #[.int .i64 c.id, .string c.name, .string c.zone, .int .i64 c.wall, .int .i64 c.gap, .int .i64 c.fold]) (fun key kl bK => by (obtain ⟨x, rfl, _⟩ := Maps.keyOf_int_inv keyT bK; exact ⟨x, rfl⟩)) (fun v y hv => by (obtain ⟨c, rfl, _⟩ := jcf hv; exact ⟨c, rfl⟩)) b wb.heap.size n D left fQ rfl jS ?_ ?_)
   | go_in)
  ·intro _ hl0
   have HF : Hid (L.all (fun x => inR r x.zone) = true) := List.all_eq_true.mpr fun e he => HK.out e.id e ((HT.out.mem e).mp he) (hl0 _)
   go_wp2
   go_ret
   exact ⟨ret_bool HF.out.symm, ck⟩
  ·intro x c kl y ys w1 jb bK gr dC bF hrg1 hlt cU cH fd
   have HF : Hid (f x = some c /\ c.id = x /\ kl = .int .i64 x) := by
    obtain ⟨x', ex, rfl, _⟩ := Maps.keyOf_int_inv keyT bK
    cases ex
    obtain ⟨c', ec, ez⟩ := jcf dC
    simp only [Prod.mk.injEq] at ez
    obtain ⟨rfl, _⟩ := ez
    have : c' = c := by cases c; cases c'; simp only [EventD.v, Value.agg.injEq] at ec; simp_all
    subst this
    have h1 := jp3 HD.out bF
    exact ⟨h1, HT.out.id _ _ h1, rfl⟩
   have aj : Bw wb w1 := xc.out.grown cU hsz (fun k hk => by (cases hk; exact nlr _))
   have ao := aj.alloc aj.size (.cells #[iv c.id, .string c.name, .string c.zone, iv c.wall, iv c.gap, iv c.fold] 79)
   have t0 := jaa ao s0
   have t1 := jaa ao s1
   have t2 := jaa ao s2
   have xR := hZ c.zone _ (eE.of_below ao) (dR.below ao)
   have hrg2 := hrg1.alloc (.cells #[iv c.id, .string c.name, .string c.zone, iv c.wall, iv c.gap, iv c.fold] 79)
   clear dC bF bK cU hZ
   cases hin : inR r c.zone
   ·have HA : Hid (L.all (fun x => inR r x.zone) = false) := List.all_eq_false.mpr ⟨c, (HT.out.mem c).mpr (by rw [HF.out.2.1]; exact HF.out.1), by rw [hin]; simp⟩
    rw [hin] at xR
    clear hin
    go_wp2_with fail
    refine xR.mono ?_
    rintro e w2 ⟨rfl, ac⟩
    have ay := ag.trans ((qtr ao ac).mono (by rw [HS.out]; omega))
    go_wp2
    go_ret
    exact ⟨ret_bool HA.out.symm, ay⟩
   ·have HN : Hid (∀ z e, f z = some e -> (left (.int .i64 z) && !Lit.sameKey (.int .i64 z) kl) = false -> inR r e.zone = true) := by
     intro z e hf hl
     rw [HF.out.2.2] at hl
     rcases jfn hl with h | rfl
     ·exact HK.out z e hf h
     ·rw [HF.out.1] at hf; cases hf; exact hin
    rw [hin] at xR
    clear hin
    go_wp2_with fail
    refine xR.mono ?_
    rintro e w2 ⟨rfl, ac⟩
    have ay := qtr ao ac
    have iq := hrg2.kept (jap ac) (by simp) (by simp)
    have I9 := hid ay
    go_wp2
    go_roundw
    case rel => exact ⟨_, jb, iq, HN, I9.out⟩
    case measure => rw [iq.left_eq, jS.left_eq]; exact hlt
end
section
open Go.RowKit Go.ChangeMaps Go.MapKept
theorem jf6 (l : List VersionD) : Jk (jcs l) (ja1 l) := by
 refine ⟨fun i x h => ?_, fun e => liveL_mem⟩
 unfold jcs at h
 cases hk : jcl l i with
 | none => rw [hk] at h; cases h
 | some k =>
  obtain ⟨_, ⟨v, hv, iY⟩, _⟩ := jdg hk
  rw [hk] at h
  simp only [hv] at h
  split at h
  ·cases h
  ·cases h; exact iY
theorem jzn {w : World} {b n : Nat} {D : DataW EventD} (h : w.ownsMap Tryz.prog 2 jb9 b n D) : ∃ es, D = .map es /\ es.Pairwise (fun p q => p.1 ≠ q.1) /\ ∀ p ∈ es, (∃ x, p.1 = .int .i64 x) /\ Maps.has D p.1 = true := by
 obtain ⟨JD, hD, hp, hk⟩ := h.entries (Maps.int_keyed keyT)
 refine ⟨JD, hD, hp, fun p oL => ⟨?_, ?_⟩⟩
 ·obtain ⟨es, bl, _, F, _, sg⟩ := h
  rw [hD] at sg
  injection sg with sg
  rw [sg] at oL
  obtain ⟨x, hx, rfl⟩ := List.mem_map.1 (mem_sorted.1 oL)
  obtain ⟨y, hy⟩ := F.reads x hx
  rw [WideElems.rg_of hy]
  obtain ⟨z, _, h2, _⟩ := Maps.keyOf_int_inv keyT (WideElems.rd_key hy)
  exact ⟨z, h2⟩
 ·rw [hD, Maps.has_eq]
  exact List.any_eq_true.2 ⟨p, oL, WideAt.sameKey_self (hk p oL)⟩
theorem jfi {w : World} {b n : Nat} {f : Int -> Option EventD} {L : List EventD} {D : DataW EventD} (h : w.ownsMap Tryz.prog 2 jb9 b n D) (hV : MapV D f) (hT : Jk f L) (hL : L.Pairwise fun x y => x.id < y.id) : Maps.size D = L.length := by
 obtain ⟨es, hD, hp, hk⟩ := jzn h
 have d1 : (es.map fun p => p.1).Nodup := List.pairwise_map.mpr hp
 have d2 : (L.map fun e => Lit.int .i64 e.id).Nodup := List.pairwise_map.mpr (hL.imp fun {x y} fu h => by simp only [Lit.int.injEq, true_and] at h; omega)
 have vx : (es.map fun p => p.1).Perm (L.map fun e => Lit.int .i64 e.id) := (List.perm_ext_iff_of_nodup d1 d2).mpr fun kl => by
  constructor
  ·intro hm
   obtain ⟨p, oL, rfl⟩ := List.mem_map.mp hm
   obtain ⟨⟨x, hx⟩, hh⟩ := hk p oL
   rw [hx] at hh ⊢
   cases hf : f x with
   | none => rw [(hV x ⟨0, ⟨#[]⟩, ⟨#[]⟩, 0, 0, 0⟩).2 hf] at hh; cases hh
   | some e =>
    have hi := hT.id x e hf
    exact List.mem_map.mpr ⟨e, (hT.mem e).mpr (by rw [hi]; exact hf), by rw [hi]⟩
  ·intro hm
   obtain ⟨e, he, rfl⟩ := List.mem_map.mp hm
   have hh := ((hV e.id e).1 ((hT.mem e).mp he)).1
   rw [hD, Maps.has_eq] at hh
   obtain ⟨p, oL, Cz⟩ := List.any_eq_true.1 hh
   exact List.mem_map.mpr ⟨p, oL, WideAt.sameKey_eq Cz⟩
 have := vx.length_eq
 rw [llm, llm] at this
 rw [hD, Maps.size_eq, this]
end
section
open Go.RowKit Go.ChangeMaps Go.MapKept
def jp4 (s : StoreD) (L : List EventD) : Bool := decide (L.length <= 30) && ((L.all fun x => inR s.now x.zone) && (decide (s.cur = 0) || (L.all fun x => inR s.was x.zone)))
theorem jtm (s : StoreD) (L : List EventD) : jp4 s L = (decide (L.length <= 30) && L.all fun x => je3 s x.zone) := by
 unfold jp4
 congr 1
 unfold je3
 induction L with
 | nil => simp
 | cons x L ih =>
  simp only [List.all_cons]
  rw [<- ih]
  cases inR s.now x.zone <;> cases decide (s.cur = 0) <;> cases inR s.was x.zone <;> cases (L.all fun x => inR s.now x.zone) <;> cases (L.all fun x => inR s.was x.zone) <;> rfl
theorem jkf (s : StoreD) (v : Value) (F : Int -> Option EventD) (L : List EventD) (mb mn : Nat) (w : World) (hE : Zy w) (hv : Je w v s) (ok : Zv s) (hM : Zj w mb mn F) (hT : Jk F L) (hL : L.Pairwise fun x y => x.id < y.id) (lH : mn <= 1048576) (qL : relB s.now = true) (dA : relB s.was = true) :
  Cl 63 #[v, .map (some mb)] w fun e w' => e = .returned (.bool (jp4 s L)) /\ Bw w w' := by
 obtain ⟨a, b, c, d, e, f, va, ia, ca, cb, cc, cd, ce, cf, cv, ci, rfl, hN, hW, _, _, _, _⟩ := hv.form
 have ag := qal w (.cells #[iv s.tx, .slice a s.now.rules.length ca, .slice b s.now.zones.length cb, .slice c s.now.links.length cc, .slice d s.was.rules.length cd, .slice e s.was.zones.length ce, .slice f s.was.links.length cf, iv s.cur, .slice va s.vs.length cv, .slice ia s.ix.length ci] 42)
 have hF := fun w hE hM h => jgz F L mb mn s.now (.agg #[.slice a s.now.rules.length ca, .slice b s.now.zones.length cb, .slice c s.now.links.length cc]) w hE hM hT h ok.now qL
 have hG := fun w hE hM h => jgz F L mb mn s.was (.agg #[.slice d s.was.rules.length cd, .slice e s.was.zones.length ce, .slice f s.was.links.length cf]) w hE hM hT h ok.was dA
 have fZ := hN.below ag
 have jm := hW.below ag
 have eE := hE.of_below ag
 have dH := hM.below ag
 have au : ∀ ty, (Builtin.len_ #[70] ty #[.map (some mb)]).run Tryz.prog (w.alloc (.cells #[iv s.tx, .slice a s.now.rules.length ca, .slice b s.now.zones.length cb, .slice c s.now.links.length cc, .slice d s.was.rules.length cd, .slice e s.was.zones.length ce, .slice f s.was.links.length cf, iv s.cur, .slice va s.vs.length cv, .slice ia s.ix.length ci] 42)) = .ok (iv L.length) (w.alloc (.cells #[iv s.tx, .slice a s.now.rules.length ca, .slice b s.now.zones.length cb, .slice c s.now.links.length cc, .slice d s.was.rules.length cd, .slice e s.was.zones.length ce, .slice f s.was.links.length cf, iv s.cur, .slice va s.vs.length cv, .slice ia s.ix.length ci] 42)) := fun ty => by
  obtain ⟨D, h1, h2⟩ := dH.own
  rw [<- jfi h1 h2 hT hL]
  exact h1.len mapT ty
 have io : L.length <= 1048576 := by
  obtain ⟨D, h1, h2⟩ := dH.own
  have := h1.size_le
  rw [jfi h1 h2 hT hL] at this
  omega
 unfold jp4
 clear hv ok hN hW hE qL dA hM hT hL lH
 generalize (L.all fun x => inR s.now x.zone) = pb at *
 generalize (L.all fun x => inR s.was x.zone) = qb at *
 generalize L.length = ln at *
 obtain ⟨tx, now, was, cur, vs, ix⟩ := s
 dsimp only at *
 by_cases py : ln <= 30
 ·have K0 : (ln : Int) <= 30 := by omega
  rw [dte py]
  cases pb
  ·go_enter Tryz.func63, Tryz.ntmps63
   go_wp2_with fail
   refine (hF _ eE dH fZ).mono ?_
   rintro e' w1 ⟨rfl, hb1⟩
   go_wp2
   go_ret
   exact ⟨rfl, ag.trans (hb1.mono (by simp))⟩
  by_cases jR : cur = 0
  ·subst jR
   go_enter Tryz.func63, Tryz.ntmps63
   go_wp2_with fail
   refine (hF _ eE dH fZ).mono ?_
   rintro e' w1 ⟨rfl, hb1⟩
   have x7 : w1.cell? (ad w.heap.size 7) = some (iv 0) := jaa hb1 (by simp [go_sem])
   go_wp2
   go_ret
   exact ⟨rfl, ag.trans (hb1.mono (by simp))⟩
  rw [dfe jR]
  have aY : (cur == 0) = false := by simp [jR]
  go_enter Tryz.func63, Tryz.ntmps63
  go_wp2_with fail
  refine (hF _ eE dH fZ).mono ?_
  rintro e' w1 ⟨rfl, hb1⟩
  have x7 : w1.cell? (ad w.heap.size 7) = some (iv cur) := jaa hb1 (by simp [go_sem])
  have x4 : w1.cell? (ad w.heap.size 4) = some (.slice d was.rules.length cd) := jaa hb1 (by simp [go_sem])
  have x5 : w1.cell? (ad w.heap.size 5) = some (.slice e was.zones.length ce) := jaa hb1 (by simp [go_sem])
  have x6 : w1.cell? (ad w.heap.size 6) = some (.slice f was.links.length cf) := jaa hb1 (by simp [go_sem])
  have jn := jm.below hb1
  have jN := eE.of_below hb1
  have ei := dH.below hb1
  have aj := ag.trans (hb1.mono (by simp))
  clear ag hb1 jm fZ eE dH au
  go_wp2_with fail
  refine (hG _ jN ei jn).mono ?_
  rintro e' w2 ⟨rfl, ac⟩
  have ao := qtr aj ac
  go_wp2
  go_ret
  exact ⟨ret_bool (by simp), ao⟩
 ·have K0 : ¬ (ln : Int) <= 30 := by omega
  rw [dfe py]
  go_enter Tryz.func63, Tryz.ntmps63
  go_wp2
  go_ret
  exact ⟨rfl, ag⟩
end
end Go.Proofs.YtgiieknbckhofaaGreatDoor
