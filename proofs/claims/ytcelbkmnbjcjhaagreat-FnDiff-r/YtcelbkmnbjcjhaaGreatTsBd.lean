/- Packed: Ts3 Ts4 Ts5. -/
import Derived.Test.YtcelbkmnbjcjhaaGreatTbPd
import Derived.Test.YtcelbkmnbjcjhaaGreatTbQd
import Derived.Test.YtcelbkmnbjcjhaaGreatHpBd
import Derived.Test.YtcelbkmnbjcjhaaGreatHpAd
namespace Go.Proofs.YtcelbkmnbjcjhaaGreat
open Go.RowKit Go.Sort

set_option maxRecDepth 20000 in
set_option maxHeartbeats 4000000 in
theorem spec_l03Lows (H : List HapD) (a : Option Addr) (ca : Nat) (w : World) (hA : SeqAt w a 3 (H.map HapD.cs)) (hl : H.length ≤ 2000) (hH : ∀ h ∈ H, h.at_ ≤ 253402300799) :
  Calls Tryz.prog 86 #[.slice a H.length ca] w fun e w' => e = .returned (.slice (some ⟨w.heap.size, 0, none⟩) H.length H.length) ∧ LowAt w' w.heap.size (sufM H) 0 ∧ Below w.heap.size w w' := by
 obtain ⟨i0, hi, hz0, hz1, hz2⟩ := infoI64
 obtain ⟨w1, hrun, hown, hgr⟩ := run_make_full (P := Tryz.prog) w w.heap.size 72 2 i0 _ 1 Tryz.underlying72 hi hz0 hz1 .i64 .i64 H.length (by rw [hz2]; omega) (by unfold maxLen; omega) (Nat.le_refl _)
 have hR := room_of hown
 rw [Nat.mul_one] at hR
 have hB : Below w.heap.size w w1 := (Below.refl _ _).grown hgr (Nat.le_refl _) (fun k hk => by cases hk)
 have HE2 : Hid (∀ (k : Nat) (h : HapD), H[k]? = some h → (sufM H)[k]? = some (min (lowAt (sufM H) (k + 1)) h.at_)) := fun k h hh => sufM_at hh
 have HEl : Hid (∀ k, k < H.length → ∃ y, (sufM H)[k]? = some y) := fun k hk => ⟨_, List.getElem?_eq_getElem (by rw [sufM_len]; exact hk)⟩
 have HE3 : Hid (∀ k, ¬ k < H.length → lowAt (sufM H) k = 253402300799) := fun k hk => lowAt_end (by rw [sufM_len]; omega)
 have HH : Hid (∀ h ∈ H, h.at_ ≤ 253402300799) := hH
 have h00 : LowAt w1 w.heap.size (sufM H) H.length := fun i t h1 h2 => by have := (List.getElem?_eq_some_iff.mp h2).1; rw [sufM_len] at this; omega
 clear hH
 generalize sufM H = E at *
 clear hi hz0 hz1 hz2 hown hgr
 go_enter Tryz.func86, Tryz.ntmps86
 go_wp2
 go_loopw [4] (fun s4 wr => ∃ m : Nat, m ≤ H.length ∧ s4 = .int .i64 ((m : Int) - 1) ∧ LowAt wr w.heap.size E m ∧ Room wr w.heap.size H.length ∧ Below w.heap.size w wr) (fun s4 _ => (intOf s4 + 1).toNat)
 case atStart => exact ⟨H.length, Nat.le_refl _, rfl, h00, hR, hB⟩
 case round =>
  clear hR hB hrun h00
  obtain ⟨m, hm, hs4, hL, hR, hB⟩ := hrel
  cases m with
  | zero =>
   subst hs4
   go_wp2
   go_ret
   exact ⟨rfl, hL, hB⟩
  | succ k =>
   rw [show (((k + 1 : Nat) : Int) - 1) = (k : Int) by omega] at hs4
   subst hs4
   obtain ⟨x, hx⟩ : ∃ x, H[k]? = some x := ⟨_, List.getElem?_eq_getElem (by omega)⟩
   obtain ⟨b, o, rfl, hc⟩ := (hA.below hB).at (i := k) (r := x.cs) (by rw [List.getElem?_map, hx]; rfl)
   have c0 : wr.cell? ⟨b, o + k * 3, none⟩ = some (.int .i64 x.at_) := hc 0 _ rfl
   have hE := HE2.out k x hx
   have hxm := HH.out x (List.mem_of_getElem? hx)
   obtain ⟨⟨u0, hu0⟩, hf0⟩ := hR k (by omega)
   have hkl : (k : Int) < (H.length : Int) := by omega
   have hR1 := hR.set ⟨w.heap.size, k, none⟩ (.int .i64 x.at_)
   have hB1 : Below w.heap.size w (wr.setCell ⟨w.heap.size, k, none⟩ (.int .i64 x.at_)) := hB.setCell (Nat.le_refl _) _
   have k1 : (wr.setCell ⟨w.heap.size, k, none⟩ (.int .i64 x.at_)).cell? ⟨w.heap.size, k, none⟩ = some (.int .i64 x.at_) := World.cell?_setCell_same _ _ _ hu0
   have kf : (wr.setCell ⟨w.heap.size, k, none⟩ (.int .i64 x.at_)).frozen? ⟨w.heap.size, k, none⟩ = false := by rw [World.frozen?_setCell]; exact hf0
   by_cases hlast : k + 1 < H.length
   ·
    obtain ⟨y, hy⟩ := HEl.out (k + 1) hlast
    rw [lowAt_in hy] at hE
    have cy : (wr.setCell ⟨w.heap.size, k, none⟩ (.int .i64 x.at_)).cell? ⟨w.heap.size, k + 1, none⟩ = some (.int .i64 y) := by
     rw [World.cell?_setCell_other _ _ _ _ (by simp)]
     exact hL (k + 1) y (by omega) hy
    have hgd : decide ((k : Int) + 1 < (H.length : Int)) = true := decide_eq_true (by omega)
    have hg2 : (k : Int) + 1 < (H.length : Int) := by omega
    by_cases hyx : y < x.at_
    ·
     have hE' : E[k]? = some y := by rw [hE]; congr 1; omega
     have hd : decide (y < x.at_) = true := decide_eq_true hyx
     have hL2 : LowAt ((wr.setCell ⟨w.heap.size, k, none⟩ (.int .i64 x.at_)).drew.setCell ⟨w.heap.size, k, none⟩ (.int .i64 y)) w.heap.size E k := fun i u hi hu => by
      by_cases e : i = k
      ·
       subst e
       rw [hE'] at hu; injection hu with hu; subst hu
       exact World.cell?_setCell_same _ _ _ k1
      ·
       rw [World.cell?_setCell_other _ _ _ _ (by simp)]
       show (wr.setCell ⟨w.heap.size, k, none⟩ (.int .i64 x.at_)).cell? ⟨w.heap.size, i, none⟩ = _
       rw [World.cell?_setCell_other _ _ _ _ (by simp)]
       exact hL i u (by omega) hu
     have HL2 : Hid (LowAt ((wr.setCell ⟨w.heap.size, k, none⟩ (.int .i64 x.at_)).drew.setCell ⟨w.heap.size, k, none⟩ (.int .i64 y)) w.heap.size E k) := hL2
     have hR2 : Room ((wr.setCell ⟨w.heap.size, k, none⟩ (.int .i64 x.at_)).drew.setCell ⟨w.heap.size, k, none⟩ (.int .i64 y)) w.heap.size H.length := Room.set (w := (wr.setCell ⟨w.heap.size, k, none⟩ (.int .i64 x.at_)).drew) hR1 _ _
     clear hc hx hE hE' hL2 hL hR hy
     go_wp2_with fail
     go_quiet (fail)
     go_wp2
     go_roundw
     case rel => exact ⟨k, by omega, by rfl, HL2.out, hR2, (below_drewN hB1 _).setCell (Nat.le_refl _) _⟩
     case measure => simp [intOf]
    ·
     have hE' : E[k]? = some x.at_ := by rw [hE]; congr 1; omega
     have hd : decide (y < x.at_) = false := decide_eq_false hyx
     have HL2 : Hid (LowAt (wr.setCell ⟨w.heap.size, k, none⟩ (.int .i64 x.at_)).drew w.heap.size E k) := (hL.set hR (by omega) hE').below (below_drew _)
     have hR2 : Room (wr.setCell ⟨w.heap.size, k, none⟩ (.int .i64 x.at_)).drew w.heap.size H.length := hR1
     clear hc hx hE hE' hL hR hy
     go_wp2_with fail
     go_quiet (fail)
     go_wp2
     go_roundw
     case rel => exact ⟨k, by omega, by rfl, HL2.out, hR2, below_drewN hB1 _⟩
     case measure => simp [intOf]
   ·
    have hE' : E[k]? = some x.at_ := by rw [hE, HE3.out (k + 1) hlast]; congr 1; omega
    have hgd : decide ((k : Int) + 1 < (H.length : Int)) = false := decide_eq_false (by omega)
    have HL2 : Hid (LowAt (wr.setCell ⟨w.heap.size, k, none⟩ (.int .i64 x.at_)).drew w.heap.size E k) := (hL.set hR (by omega) hE').below (below_drew _)
    have hR2 : Room (wr.setCell ⟨w.heap.size, k, none⟩ (.int .i64 x.at_)).drew w.heap.size H.length := hR1
    clear hc hx hE hE' hL hR
    go_wp2_with fail
    go_quiet (fail)
    go_wp2
    go_roundw
    case rel => exact ⟨k, by omega, by rfl, HL2.out, hR2, below_drewN hB1 _⟩
    case measure => simp [intOf]
end Go.Proofs.YtcelbkmnbjcjhaaGreat
namespace Go.Proofs.YtcelbkmnbjcjhaaGreat
open Go.RowKit Go.Sort

/-- where an era ends, as the model tells it. -/
def endS (e : EraD) (H : List HapD) (b : Int) : Int := if e.until_ = 253402300799 then 253402300799 else endE e H b
set_option maxRecDepth 20000 in
set_option maxHeartbeats 4000000 in
theorem spec_l03End (e : EraD) (H : List HapD) (a : Option Addr) (ca : Nat) (b : Int) (w : World) (hA : SeqAt w a 3 (H.map HapD.cs)) (hn : H.length ≤ 2000) (hf : e.format.size ≤ 8000) (hl : ∀ t, (forceE e H t).letter.size ≤ 8000) (h1 : -62135596800 ≤ e.until_) (h2 : e.until_ ≤ 253402300799) (h3 : -86400 ≤ e.offset) (h4 : e.offset ≤ 86400) (h5 : ∀ t, -7200 ≤ (forceE e H t).save ∧ (forceE e H t).save ≤ 7200) (hb : b ≤ 253402300799) :
  Calls Tryz.prog 85 #[e.v, .slice a H.length ca, .int .i64 b] w fun r W' => r = .returned (.int .i64 (endS e H b)) ∧ Below w.heap.size w W' := by
 have hB0 := (Below.refl w.heap.size w).alloc (Nat.le_refl _) (.cells #[.int .i64 e.offset, .string e.rules, .int .i64 e.save, .string e.format, .int .i64 e.until_, .string e.of] 130)
 have hMx := fun x y w => spec_l01MaxR x y w
 have hMn := fun x y w => spec_l01MinR x y w
 by_cases hu : e.until_ = 253402300799
 ·
  have HR : Hid (endS e H b = 253402300799) := if_pos hu
  unfold EraD.v
  rw [hu] at hB0 ⊢
  go_enter Tryz.func85, Tryz.ntmps85
  go_wp2
  go_ret
  exact ⟨ret_int HR.out.symm, hB0⟩
 have HE : Hid (endS e H b = endE e H b) := if_neg hu
 have hun : (e.until_ == 253402300799) = false := by simpa using hu
 cases hs : (e.of.toList == [115])
 ·
  cases hw : (e.of.toList == [119])
  ·
   have HR : Hid (endS e H b = min 253402300799 (max b e.until_)) := by simp only [Hid]; rw [HE.out]; simp only [endE, endU]; rw [hs, hw]; simp only [Bool.false_eq_true, if_false]; omega
   unfold EraD.v
   go_enter Tryz.func85, Tryz.ntmps85
   go_wp2_with fail
   refine (hMx _ _ _).mono ?_
   rintro q w1 ⟨rfl, hw1⟩
   have hw1 := hw1.symm
   subst hw1
   go_wp2_with fail
   refine (hMn _ _ _).mono ?_
   rintro q w1 ⟨rfl, hw1⟩
   have hw1 := hw1.symm
   subst hw1
   go_wp2
   go_ret
   exact ⟨ret_int HR.out.symm, hB0⟩
  ·
   have HR : Hid (endS e H b = min 253402300799 (max b (e.until_ - (turnE e H (e.until_ - e.offset - 1)).offset))) := by
    simp only [Hid]; rw [HE.out]; simp only [endE, endU, turnE, madeE]; rw [hs, hw]; simp only [Bool.false_eq_true, if_false, if_true]; omega
   have hTn := fun w (h : SeqAt w a 3 (H.map HapD.cs)) => spec_l03Turn e H a ca (e.until_ - e.offset - 1) w h hn hf hl h3 h4 h5
   have hob : -100000 ≤ (turnE e H (e.until_ - e.offset - 1)).offset ∧ (turnE e H (e.until_ - e.offset - 1)).offset ≤ 100000 := by
    have := h5 (e.until_ - e.offset - 1)
    simp only [turnE, madeE]
    omega
   generalize turnE e H (e.until_ - e.offset - 1) = X at *
   obtain ⟨xa, xo, xs, xb⟩ := X
   simp only [TurnD.v, EraD.v] at hTn
   simp only at HR hob
   have hfd : ∀ w, (Instr.field 38 (.agg #[.int .i64 xa, .int .i64 xo, .int .i64 xs, .string xb]) 1).run Tryz.prog w = .ok (.int .i64 xo) w := fun _ => by kernel_rfl
   have k0 : (w.alloc (.cells #[.int .i64 e.offset, .string e.rules, .int .i64 e.save, .string e.format, .int .i64 e.until_, .string e.of] 130)).cell? ⟨w.heap.size, 0, none⟩ = some (.int .i64 e.offset) := by simp [go_sem]
   have k1 : (w.alloc (.cells #[.int .i64 e.offset, .string e.rules, .int .i64 e.save, .string e.format, .int .i64 e.until_, .string e.of] 130)).cell? ⟨w.heap.size, 1, none⟩ = some (.string e.rules) := by simp [go_sem]
   have k2 : (w.alloc (.cells #[.int .i64 e.offset, .string e.rules, .int .i64 e.save, .string e.format, .int .i64 e.until_, .string e.of] 130)).cell? ⟨w.heap.size, 2, none⟩ = some (.int .i64 e.save) := by simp [go_sem]
   have k3 : (w.alloc (.cells #[.int .i64 e.offset, .string e.rules, .int .i64 e.save, .string e.format, .int .i64 e.until_, .string e.of] 130)).cell? ⟨w.heap.size, 3, none⟩ = some (.string e.format) := by simp [go_sem]
   have k4 : (w.alloc (.cells #[.int .i64 e.offset, .string e.rules, .int .i64 e.save, .string e.format, .int .i64 e.until_, .string e.of] 130)).cell? ⟨w.heap.size, 4, none⟩ = some (.int .i64 e.until_) := by simp [go_sem]
   have k5 : (w.alloc (.cells #[.int .i64 e.offset, .string e.rules, .int .i64 e.save, .string e.format, .int .i64 e.until_, .string e.of] 130)).cell? ⟨w.heap.size, 5, none⟩ = some (.string e.of) := by simp [go_sem]
   unfold EraD.v
   go_enter Tryz.func85, Tryz.ntmps85
   go_wp2_with fail
   generalize (w.alloc (.cells #[.int .i64 e.offset, .string e.rules, .int .i64 e.save, .string e.format, .int .i64 e.until_, .string e.of] 130)) = W0 at *
   have hBD : Below w.heap.size w W0.drew := hB0.trans ((below_drew W0).mono hB0.size)
   have hAD := hA.below hBD
   have hwr1 : IntKind.i64.wrap (e.until_ - e.offset) = e.until_ - e.offset := by rw [IntKind.wrap_i64]; omega
   have hwr2 : IntKind.i64.wrap (e.until_ - e.offset - 1) = e.until_ - e.offset - 1 := by rw [IntKind.wrap_i64]; omega
   have hwr3 : IntKind.i64.wrap (e.until_ - xo) = e.until_ - xo := by rw [IntKind.wrap_i64]; omega
   go_region_held3 (fun w' => w'.cell? ⟨w.heap.size, 0, none⟩ = some (.int .i64 e.offset) ∧ w'.cell? ⟨w.heap.size, 1, none⟩ = some (.string e.rules) ∧ w'.cell? ⟨w.heap.size, 2, none⟩ = some (.int .i64 e.save) ∧ w'.cell? ⟨w.heap.size, 3, none⟩ = some (.string e.format) ∧ w'.cell? ⟨w.heap.size, 4, none⟩ = some (.int .i64 e.until_) ∧ w'.cell? ⟨w.heap.size, 5, none⟩ = some (.string e.of)) (go_keep) ((go_at_call 89; refine (hTn _ hAD).mono ?_; rintro q w4 ⟨rfl, hb4⟩; have q0 := keepC hb4 k0; have q1 := keepC hb4 k1; have q2 := keepC hb4 k2; have q3 := keepC hb4 k3; have q4 := keepC hb4 k4; have q5 := keepC hb4 k5))
   all_goals
    have hB4 : Below w.heap.size w w4 := hBD.trans (hb4.mono hBD.size)
    go_wp2_with fail
    refine (hMx _ _ _).mono ?_
    rintro q w5 ⟨rfl, hw5⟩
    have hw5 := hw5.symm
    subst hw5
    go_wp2_with fail
    refine (hMn _ _ _).mono ?_
    rintro q w6 ⟨rfl, hw6⟩
    have hw6 := hw6.symm
    subst hw6
    go_wp2
    go_ret
    exact ⟨ret_int HR.out.symm, hB4⟩
 ·
  have HR : Hid (endS e H b = min 253402300799 (max b (e.until_ - e.offset))) := by simp only [Hid]; rw [HE.out]; simp only [endE, endU]; rw [hs]; simp only [if_true]; omega
  unfold EraD.v
  go_enter Tryz.func85, Tryz.ntmps85
  go_wp2_with fail
  refine (hMx _ _ _).mono ?_
  rintro q w1 ⟨rfl, hw1⟩
  have hw1 := hw1.symm
  subst hw1
  go_wp2_with fail
  refine (hMn _ _ _).mono ?_
  rintro q w1 ⟨rfl, hw1⟩
  have hw1 := hw1.symm
  subst hw1
  go_wp2
  go_ret
  exact ⟨ret_int HR.out.symm, hB0⟩
end Go.Proofs.YtcelbkmnbjcjhaaGreat
namespace Go.Proofs.YtcelbkmnbjcjhaaGreat
open Go.RowKit Go.Sort

/-- what l03Add tells, in memory. -/
structure AddP (T : List TurnD) (x : TurnD) (base : Nat) (v : Value) (w : World) (q : Ending) (W' : World) : Prop where
 ex : ∃ v', q = .returned (.agg #[v']) ∧ OwnsT W' base v' (addT T x) ∧ Fr (fun b => v.ownBlock = some b) w W' ∧ (v'.ownBlock = v.ownBlock ∨ ∃ g, v'.ownBlock = some g ∧ w.heap.size ≤ g)
theorem Fr.of_below_base {S : Nat → Prop} {w w' : World} (h : Below w.heap.size w w') : Fr S w w' := Fr.of_below h
theorem kept_sets {w1 : World} {base : Nat} {v : Value} {T : List TurnD} {b0 o0 : Nat} {u0 : Value} (h : OwnsT w1 base v T) (hne : v.ownBlock ≠ some b0) : OwnsT (w1.setCell ⟨b0, o0, none⟩ u0) base v T := World.ownsRow.kept h (grown_set w1 b0 o0 u0) (by cases hv : v.ownBlock with
 | none => exact .inl rfl
 | some g => exact .inr (by rw [← hv]; exact hne))
theorem fr_set {S : Nat → Prop} {w w1 : World} {b o : Nat} {u : Value} (h : Fr S w w1) (hb : w.heap.size ≤ b) : Fr S w (w1.setCell ⟨b, o, none⟩ u) := ⟨h.os, h.tape, h.output, by simpa using h.size, fun k hk hs => by
 rw [heap_setCell_other w1 ⟨b, o, none⟩ k u (fun e => by simp at e; omega)]
 exact h.block k hk hs⟩
set_option maxRecDepth 20000 in
set_option maxHeartbeats 4000000 in
theorem spec_l03Add (T : List TurnD) (x : TurnD) (v : Value) (base : Nat) (w : World) (hT : OwnsT w base v T) (hb : base ≤ w.heap.size) (hl : T.length ≤ 100000) :
  Calls Tryz.prog 87 #[.agg #[v], x.v] w fun q W' => AddP T x base v w q W' := by
 obtain ⟨i0, hi, hz0, hz1, hz2⟩ := info_parts infoTurn2
 obtain ⟨A, cap, hvv, hS⟩ := hT.seq
 obtain ⟨n, hn⟩ : ∃ n, T.length = n := ⟨_, rfl⟩
 rw [hn] at hvv hl
 subst hvv
 have hTo : w.ownsRow base 38 4 (.slice A n cap) n (T.map TurnD.cs).flatten := by unfold OwnsT at hT; rw [hn] at hT; exact hT
 have hB0 := (((Below.refl w.heap.size w).alloc (Nat.le_refl _) (.cells #[.slice A n cap] 25)).alloc (by simp) (.cells #[.int .i64 x.at_, .int .i64 x.offset, .int .i64 x.save, .string x.abbr] 38)).alloc (by simp; omega) (.cells #[.slice none 0 0] 25)
 have hlt : ∀ g, (Value.slice A n cap).ownBlock = some g → g < w.heap.size := fun g hg => (World.ownsRow.lt hT g hg).2
 have hT0 : OwnsT (((w.alloc (.cells #[.slice A n cap] 25)).alloc (.cells #[.int .i64 x.at_, .int .i64 x.offset, .int .i64 x.save, .string x.abbr] 38)).alloc (.cells #[.slice none 0 0] 25)) base (.slice A n cap) T := World.ownsRow.alloc (World.ownsRow.alloc (World.ownsRow.alloc hT _) _) _
 have hF0 : Fr (fun b => (Value.slice A n cap).ownBlock = some b) w (((w.alloc (.cells #[.slice A n cap] 25)).alloc (.cells #[.int .i64 x.at_, .int .i64 x.offset, .int .i64 x.save, .string x.abbr] 38)).alloc (.cells #[.slice none 0 0] 25)) := Fr.of_below hB0
 have r0 : (((w.alloc (.cells #[.slice A n cap] 25)).alloc (.cells #[.int .i64 x.at_, .int .i64 x.offset, .int .i64 x.save, .string x.abbr] 38)).alloc (.cells #[.slice none 0 0] 25)).cell? ⟨w.heap.size + 1 + 1, 0, none⟩ = some (.slice none 0 0) := by simp [go_sem]
 have b0 : (((w.alloc (.cells #[.slice A n cap] 25)).alloc (.cells #[.int .i64 x.at_, .int .i64 x.offset, .int .i64 x.save, .string x.abbr] 38)).alloc (.cells #[.slice none 0 0] 25)).cell? ⟨w.heap.size, 0, none⟩ = some (.slice A n cap) := by simp [go_sem]
 have p0 : (((w.alloc (.cells #[.slice A n cap] 25)).alloc (.cells #[.int .i64 x.at_, .int .i64 x.offset, .int .i64 x.save, .string x.abbr] 38)).alloc (.cells #[.slice none 0 0] 25)).cell? ⟨w.heap.size + 1, 0, none⟩ = some (.int .i64 x.at_) := by simp [go_sem]
 have p1 : (((w.alloc (.cells #[.slice A n cap] 25)).alloc (.cells #[.int .i64 x.at_, .int .i64 x.offset, .int .i64 x.save, .string x.abbr] 38)).alloc (.cells #[.slice none 0 0] 25)).cell? ⟨w.heap.size + 1, 1, none⟩ = some (.int .i64 x.offset) := by simp [go_sem]
 have p2 : (((w.alloc (.cells #[.slice A n cap] 25)).alloc (.cells #[.int .i64 x.at_, .int .i64 x.offset, .int .i64 x.save, .string x.abbr] 38)).alloc (.cells #[.slice none 0 0] 25)).cell? ⟨w.heap.size + 1, 2, none⟩ = some (.int .i64 x.save) := by simp [go_sem]
 have p3 : (((w.alloc (.cells #[.slice A n cap] 25)).alloc (.cells #[.int .i64 x.at_, .int .i64 x.offset, .int .i64 x.save, .string x.abbr] 38)).alloc (.cells #[.slice none 0 0] 25)).cell? ⟨w.heap.size + 1, 3, none⟩ = some (.string x.abbr) := by simp [go_sem]
 have fr0 : (((w.alloc (.cells #[.slice A n cap] 25)).alloc (.cells #[.int .i64 x.at_, .int .i64 x.offset, .int .i64 x.save, .string x.abbr] 38)).alloc (.cells #[.slice none 0 0] 25)).frozen? ⟨w.heap.size + 1 + 1, 0, none⟩ = false := by simp [go_sem]
 have fb0 : (((w.alloc (.cells #[.slice A n cap] 25)).alloc (.cells #[.int .i64 x.at_, .int .i64 x.offset, .int .i64 x.save, .string x.abbr] 38)).alloc (.cells #[.slice none 0 0] 25)).frozen? ⟨w.heap.size, 0, none⟩ = false := by simp [go_sem]
 have hs0 : (((w.alloc (.cells #[.slice A n cap] 25)).alloc (.cells #[.int .i64 x.at_, .int .i64 x.offset, .int .i64 x.save, .string x.abbr] 38)).alloc (.cells #[.slice none 0 0] 25)).heap.size = w.heap.size + 1 + 1 + 1 := by simp
 have hFin : ∀ (g1 cap1 : Nat) (w1 wp : World) (o : Obj), Below w.heap.size w wp → w.heap.size ≤ wp.heap.size → (((w.alloc (.cells #[.slice A n cap] 25)).alloc (.cells #[.int .i64 x.at_, .int .i64 x.offset, .int .i64 x.save, .string x.abbr] 38)).alloc (.cells #[.slice none 0 0] 25)).heap.size ≤ wp.heap.size → (∀ bb oo vv, (((w.alloc (.cells #[.slice A n cap] 25)).alloc (.cells #[.int .i64 x.at_, .int .i64 x.offset, .int .i64 x.save, .string x.abbr] 38)).alloc (.cells #[.slice none 0 0] 25)).cell? ⟨bb, oo, none⟩ = some vv → wp.cell? ⟨bb, oo, none⟩ = some vv) → (∀ bb oo, bb < (((w.alloc (.cells #[.slice A n cap] 25)).alloc (.cells #[.int .i64 x.at_, .int .i64 x.offset, .int .i64 x.save, .string x.abbr] 38)).alloc (.cells #[.slice none 0 0] 25)).heap.size → wp.frozen? ⟨bb, oo, none⟩ = (((w.alloc (.cells #[.slice A n cap] 25)).alloc (.cells #[.int .i64 x.at_, .int .i64 x.offset, .int .i64 x.save, .string x.abbr] 38)).alloc (.cells #[.slice none 0 0] 25)).frozen? ⟨bb, oo, none⟩) → w1.ownsRow base 38 4 (.slice (some ⟨g1, 0, none⟩) (n + 1) cap1) (n + 1) ((T.map TurnD.cs).flatten ++ [.int .i64 x.at_, .int .i64 x.offset, .int .i64 x.save, .string x.abbr]) → (wp.alloc o).grownBy w1 (Value.slice A n cap).ownBlock → ((Value.slice A n cap).ownBlock = some g1 ∨ w.heap.size + 1 + 1 + 1 ≤ g1) → addT T x = T ++ [x] →
   AddP T x base (.slice A n cap) w (.returned (.agg #[.slice (some ⟨g1, 0, none⟩) (n + 1) cap1])) ((w1.setCell ⟨w.heap.size, 0, none⟩ (.slice (some ⟨g1, 0, none⟩) (n + 1) cap1)).setCell ⟨w.heap.size + 1 + 1, 0, none⟩ (.slice (some ⟨g1, 0, none⟩) (n + 1) cap1)) ∧ (w1.cell? ⟨w.heap.size, 0, none⟩ = some (.slice A n cap) ∧ w1.cell? ⟨w.heap.size + 1 + 1, 0, none⟩ = some (.slice none 0 0)) ∧ (w1.frozen? ⟨w.heap.size, 0, none⟩ = false ∧ w1.frozen? ⟨w.heap.size + 1 + 1, 0, none⟩ = false) := fun g1 cap1 w1 wp o hBp hsp hsA hcp hfp hown hgr hat hadd => by
  have hnA : ∀ k, w.heap.size ≤ k → some k ≠ (Value.slice A n cap).ownBlock := fun k hk e => by have := hlt k e.symm; omega
  have hc : ∀ (k : Nat) oo vv, w.heap.size ≤ k → (((w.alloc (.cells #[.slice A n cap] 25)).alloc (.cells #[.int .i64 x.at_, .int .i64 x.offset, .int .i64 x.save, .string x.abbr] 38)).alloc (.cells #[.slice none 0 0] 25)).cell? ⟨k, oo, none⟩ = some vv → w1.cell? ⟨k, oo, none⟩ = some vv := fun k oo vv hk h => hgr.cell (keepC ((Below.refl _ wp).alloc (Nat.le_refl _) _) (hcp k oo vv h)) (hnA k hk)
  have hg1 : g1 ≠ w.heap.size ∧ g1 ≠ w.heap.size + 1 + 1 := by
   rcases hat with h | h
   ·
    have := hlt g1 h; omega
   ·
    omega
  have hfz : ∀ k, w.heap.size ≤ k → k < (((w.alloc (.cells #[.slice A n cap] 25)).alloc (.cells #[.int .i64 x.at_, .int .i64 x.offset, .int .i64 x.save, .string x.abbr] 38)).alloc (.cells #[.slice none 0 0] 25)).heap.size → w1.frozen? ⟨k, 0, none⟩ = (((w.alloc (.cells #[.slice A n cap] 25)).alloc (.cells #[.int .i64 x.at_, .int .i64 x.offset, .int .i64 x.save, .string x.abbr] 38)).alloc (.cells #[.slice none 0 0] 25)).frozen? ⟨k, 0, none⟩ := fun k hk hk2 => (hgr.frozen_far ⟨k, 0, none⟩ (by simp; omega) (hnA k hk)).trans (((bcell ((Below.refl _ wp).alloc (Nat.le_refl _) o)).2 _ _ (by omega)).trans (hfp k 0 hk2))
  have hO : OwnsT w1 base (.slice (some ⟨g1, 0, none⟩) (n + 1) cap1) (T ++ [x]) := OwnsT.add (by rw [hn]; exact hown)
  refine ⟨⟨_, rfl, ?_, ?_, ?_⟩, ⟨hc _ 0 _ (Nat.le_refl _) b0, hc _ 0 _ (by omega) r0⟩, (hfz _ (Nat.le_refl _) (by rw [hs0]; omega)).trans fb0, (hfz _ (by omega) (by rw [hs0]; omega)).trans fr0⟩
  ·
   rw [hadd]
   exact kept_sets (kept_sets hO (by simp [Value.ownBlock]; omega)) (by simp [Value.ownBlock]; omega)
  ·
   exact fr_set (fr_set (((Fr.of_below_base hBp).trans (Fr.of_below ((Below.refl _ wp).alloc (Nat.le_refl _) _))).trans (Fr.of_grown hgr)) (Nat.le_refl _)) (by omega)
  ·
   rcases hat with h | h
   ·
    exact .inl h.symm
   ·
    exact .inr ⟨g1, rfl, by omega⟩
 cases hL : T.getLast? with
 | none =>
  have hTn : T = [] := by simpa using hL
  have hn0 : n = 0 := by rw [← hn, hTn]; rfl
  have hadd : addT T x = T ++ [x] := by rw [hTn]; rfl
  subst hn0
  have hT1 : ((((w.alloc (.cells #[.slice A 0 cap] 25)).alloc (.cells #[.int .i64 x.at_, .int .i64 x.offset, .int .i64 x.save, .string x.abbr] 38)).alloc (.cells #[.slice none 0 0] 25)).alloc (.cells #[.int .i64 x.at_, .int .i64 x.offset, .int .i64 x.save, .string x.abbr] 38)).ownsRow base 38 4 (.slice A 0 cap) 0 (T.map TurnD.cs).flatten := World.ownsRow.alloc (World.ownsRow.alloc (World.ownsRow.alloc (World.ownsRow.alloc hTo _) _) _) _
  have HFin : Hid _ := fun g1 cap1 w1 => hFin g1 cap1 w1 (((w.alloc (.cells #[.slice A 0 cap] 25)).alloc (.cells #[.int .i64 x.at_, .int .i64 x.offset, .int .i64 x.save, .string x.abbr] 38)).alloc (.cells #[.slice none 0 0] 25)) (.cells #[.int .i64 x.at_, .int .i64 x.offset, .int .i64 x.save, .string x.abbr] 38) hB0 hB0.size (Nat.le_refl _) (fun _ _ _ h => h) (fun _ _ _ => rfl)
  clear hL hTn hFin hT0 hF0 hTo hS
  unfold TurnD.v
  go_enter Tryz.func87, Tryz.ntmps87
  go_wp2_with (first
   | (at_builtin; refine wpList_append_lies _ rfl _ _ 23 rfl base 38 i0 (.agg #[.int .i64 0, .int .i64 0, .int .i64 0, .string ⟨#[]⟩]) 4 40 Tryz.underlying23 hi hz0 hz1 hz2 rfl (by decide) (.slice A 0 cap) 0 (T.map TurnD.cs).flatten rfl hT1 ⟨w.heap.size + 1 + 1 + 1, 0, none⟩ 1 1 [.int .i64 x.at_, .int .i64 x.offset, .int .i64 x.save, .string x.abbr] rfl rfl ?c1 ?c2 (by decide) ?c3 ?c4 ?c5 _ rfl ?_)
   | fail)
  case c1 => simpa using cells_new (((w.alloc (.cells #[.slice A 0 cap] 25)).alloc (.cells #[.int .i64 x.at_, .int .i64 x.offset, .int .i64 x.save, .string x.abbr] 38)).alloc (.cells #[.slice none 0 0] 25)) [.int .i64 x.at_, .int .i64 x.offset, .int .i64 x.save, .string x.abbr] 38
  case c2 => intro u hu; simp at hu; rcases hu with rfl | rfl | rfl | rfl <;> rfl
  case c3 => unfold maxLen; simp
  case c4 => simp
  case c5 => simp; omega
  intro g1 cap1 w1 hown1 hgrow hat hlt1
  obtain ⟨hP, ⟨q0, q1⟩, z0, z1⟩ := HFin.out g1 cap1 w1 hown1 hgrow (hat.imp id fun h => by rw [h]; omega) hadd
  have HP : Hid _ := hP
  have t0 : (w1.setCell ⟨w.heap.size, 0, none⟩ (.slice (some ⟨g1, 0, none⟩) (0 + 1) cap1)).cell? ⟨w.heap.size, 0, none⟩ = some (.slice (some ⟨g1, 0, none⟩) (0 + 1) cap1) := World.cell?_setCell_same _ _ _ q0
  have t2 : (w1.setCell ⟨w.heap.size, 0, none⟩ (.slice (some ⟨g1, 0, none⟩) (0 + 1) cap1)).cell? ⟨w.heap.size + 1 + 1, 0, none⟩ = some (.slice none 0 0) := by rw [World.cell?_setCell_other _ _ _ _ (by simp)]; exact q1
  have t1 : ((w1.setCell ⟨w.heap.size, 0, none⟩ (.slice (some ⟨g1, 0, none⟩) (0 + 1) cap1)).setCell ⟨w.heap.size + 1 + 1, 0, none⟩ (.slice (some ⟨g1, 0, none⟩) (0 + 1) cap1)).cell? ⟨w.heap.size + 1 + 1, 0, none⟩ = some (.slice (some ⟨g1, 0, none⟩) (0 + 1) cap1) := World.cell?_setCell_same _ _ _ t2
  clear hown1 hgrow hat hlt1 hP HFin hT1 r0 b0 p0 p1 p2 p3 fr0 fb0
  go_wp2
  exact bodyPost_ret (v := .agg #[.slice (some ⟨g1, 0, none⟩) (0 + 1) cap1]) (by simp [results, Tryz.results87, go_sem, t1]) rfl HP.out
 | some y =>
  obtain ⟨m, hm⟩ : ∃ m, n = m + 1 := by
   cases T with
   | nil => simp at hL
   | cons z Z => exact ⟨Z.length, by rw [← hn]; rfl⟩
  have hy : T[m]? = some y := by rw [List.getLast?_eq_getElem?, hn, hm] at hL; exact hL
  subst hm
  obtain ⟨b, o, ha, hc⟩ := hS.at (i := m) (r := y.cs) (by rw [List.getElem?_map, hy]; rfl)
  subst ha
  have c0 : (((w.alloc (.cells #[.slice (some ⟨b, o, none⟩) (m + 1) cap] 25)).alloc (.cells #[.int .i64 x.at_, .int .i64 x.offset, .int .i64 x.save, .string x.abbr] 38)).alloc (.cells #[.slice none 0 0] 25)).cell? ⟨b, o + m * 4, none⟩ = some (.int .i64 y.at_) := keepC hB0 (hc 0 _ rfl)
  have c1 := keepC hB0 (hc 1 _ rfl)
  have c2 := keepC hB0 (hc 2 _ rfl)
  have c3 := keepC hB0 (hc 3 _ rfl)
  have hcmp := fun w => eql_turn x.at_ y.offset y.save x.offset x.save y.abbr x.abbr w
  have hgrd := guard_turn
  have e1 : likeT ⟨x.at_, y.offset, y.save, y.abbr⟩ ⟨x.at_, x.offset, x.save, x.abbr⟩ = likeT y x := rfl
  rw [e1] at hcmp
  have hmn : (m : Int) < ((m + 1 : Nat) : Int) := by omega
  have hbY := (Below.refl _ (((w.alloc (.cells #[.slice (some ⟨b, o, none⟩) (m + 1) cap] 25)).alloc (.cells #[.int .i64 x.at_, .int .i64 x.offset, .int .i64 x.save, .string x.abbr] 38)).alloc (.cells #[.slice none 0 0] 25))).alloc (Nat.le_refl _) (.cells #[.int .i64 x.at_, .int .i64 y.offset, .int .i64 y.save, .string y.abbr] 38)
  clear hc
  cases hl : likeT y x
  ·
   have hadd : addT T x = T ++ [x] := addT_new hL hl
   rw [hl] at hcmp
   have hT1 : (((((w.alloc (.cells #[.slice (some ⟨b, o, none⟩) (m + 1) cap] 25)).alloc (.cells #[.int .i64 x.at_, .int .i64 x.offset, .int .i64 x.save, .string x.abbr] 38)).alloc (.cells #[.slice none 0 0] 25)).alloc (.cells #[.int .i64 x.at_, .int .i64 y.offset, .int .i64 y.save, .string y.abbr] 38)).alloc (.cells #[.int .i64 x.at_, .int .i64 x.offset, .int .i64 x.save, .string x.abbr] 38)).ownsRow base 38 4 (.slice (some ⟨b, o, none⟩) (m + 1) cap) (m + 1) (T.map TurnD.cs).flatten := World.ownsRow.alloc (World.ownsRow.alloc (World.ownsRow.alloc (World.ownsRow.alloc (World.ownsRow.alloc hTo _) _) _) _) _
   have HFin : Hid _ := fun g1 cap1 w1 => hFin g1 cap1 w1 ((((w.alloc (.cells #[.slice (some ⟨b, o, none⟩) (m + 1) cap] 25)).alloc (.cells #[.int .i64 x.at_, .int .i64 x.offset, .int .i64 x.save, .string x.abbr] 38)).alloc (.cells #[.slice none 0 0] 25)).alloc (.cells #[.int .i64 x.at_, .int .i64 y.offset, .int .i64 y.save, .string y.abbr] 38)) (.cells #[.int .i64 x.at_, .int .i64 x.offset, .int .i64 x.save, .string x.abbr] 38) (hB0.trans (hbY.mono hB0.size)) (Nat.le_trans hB0.size hbY.size) hbY.size (fun _ _ _ h => keepC hbY h) (fun _ _ h => (bcell hbY).2 _ _ h)
   clear hl hL e1 hS hy hFin hT0 hF0 hTo
   unfold TurnD.v
   go_enter Tryz.func87, Tryz.ntmps87
   go_wp2_with (first
    | (at_builtin; refine wpList_append_lies _ rfl _ _ 23 rfl base 38 i0 (.agg #[.int .i64 0, .int .i64 0, .int .i64 0, .string ⟨#[]⟩]) 4 40 Tryz.underlying23 hi hz0 hz1 hz2 rfl (by decide) (.slice (some ⟨b, o, none⟩) (m + 1) cap) (m + 1) (T.map TurnD.cs).flatten rfl hT1 ⟨w.heap.size + 1 + 1 + 1 + 1, 0, none⟩ 1 1 [.int .i64 x.at_, .int .i64 x.offset, .int .i64 x.save, .string x.abbr] rfl rfl ?d1 ?d2 (by decide) ?d3 ?d4 ?d5 _ rfl ?_)
    | fail)
   case d1 => simpa using cells_new ((((w.alloc (.cells #[.slice (some ⟨b, o, none⟩) (m + 1) cap] 25)).alloc (.cells #[.int .i64 x.at_, .int .i64 x.offset, .int .i64 x.save, .string x.abbr] 38)).alloc (.cells #[.slice none 0 0] 25)).alloc (.cells #[.int .i64 x.at_, .int .i64 y.offset, .int .i64 y.save, .string y.abbr] 38)) [.int .i64 x.at_, .int .i64 x.offset, .int .i64 x.save, .string x.abbr] 38
   case d2 => intro u hu; simp at hu; rcases hu with rfl | rfl | rfl | rfl <;> rfl
   case d3 => unfold maxLen; omega
   case d4 => omega
   case d5 => simp; omega
   intro g1 cap1 w1 hown1 hgrow hat hlt1
   obtain ⟨hP, ⟨q0, q1⟩, z0, z1⟩ := HFin.out g1 cap1 w1 hown1 hgrow (hat.imp id fun h => by rw [h]; omega) hadd
   have HP : Hid _ := hP
   have t0 : (w1.setCell ⟨w.heap.size, 0, none⟩ (.slice (some ⟨g1, 0, none⟩) (m + 1 + 1) cap1)).cell? ⟨w.heap.size, 0, none⟩ = some (.slice (some ⟨g1, 0, none⟩) (m + 1 + 1) cap1) := World.cell?_setCell_same _ _ _ q0
   have t2 : (w1.setCell ⟨w.heap.size, 0, none⟩ (.slice (some ⟨g1, 0, none⟩) (m + 1 + 1) cap1)).cell? ⟨w.heap.size + 1 + 1, 0, none⟩ = some (.slice none 0 0) := by rw [World.cell?_setCell_other _ _ _ _ (by simp)]; exact q1
   have t1 : ((w1.setCell ⟨w.heap.size, 0, none⟩ (.slice (some ⟨g1, 0, none⟩) (m + 1 + 1) cap1)).setCell ⟨w.heap.size + 1 + 1, 0, none⟩ (.slice (some ⟨g1, 0, none⟩) (m + 1 + 1) cap1)).cell? ⟨w.heap.size + 1 + 1, 0, none⟩ = some (.slice (some ⟨g1, 0, none⟩) (m + 1 + 1) cap1) := World.cell?_setCell_same _ _ _ t2
   clear hown1 hgrow hat hlt1 hP HFin hT1 r0 b0 p0 p1 p2 p3 fr0 fb0 hcmp c0 c1 c2 c3
   go_wp2
   exact bodyPost_ret (v := .agg #[.slice (some ⟨g1, 0, none⟩) (m + 1 + 1) cap1]) (by simp [results, Tryz.results87, go_sem, t1]) rfl HP.out
  ·
   have hadd : addT T x = T := addT_like hL hl
   rw [hl] at hcmp
   have hT2 : OwnsT ((((w.alloc (.cells #[.slice (some ⟨b, o, none⟩) (m + 1) cap] 25)).alloc (.cells #[.int .i64 x.at_, .int .i64 x.offset, .int .i64 x.save, .string x.abbr] 38)).alloc (.cells #[.slice (some ⟨b, o, none⟩) (m + 1) cap] 25)).alloc (.cells #[.int .i64 x.at_, .int .i64 y.offset, .int .i64 y.save, .string y.abbr] 38)) base (.slice (some ⟨b, o, none⟩) (m + 1) cap) T := World.ownsRow.alloc (World.ownsRow.alloc (World.ownsRow.alloc (World.ownsRow.alloc hT _) _) _) _
   have hF2 : Fr (fun b_1 => (Value.slice (some ⟨b, o, none⟩) (m + 1) cap).ownBlock = some b_1) w ((((w.alloc (.cells #[.slice (some ⟨b, o, none⟩) (m + 1) cap] 25)).alloc (.cells #[.int .i64 x.at_, .int .i64 x.offset, .int .i64 x.save, .string x.abbr] 38)).alloc (.cells #[.slice (some ⟨b, o, none⟩) (m + 1) cap] 25)).alloc (.cells #[.int .i64 x.at_, .int .i64 y.offset, .int .i64 y.save, .string y.abbr] 38)) := Fr.of_below ((((((Below.refl w.heap.size w).alloc (Nat.le_refl _) _).alloc (by simp) _).alloc (by simp; omega) _)).alloc (by simp; omega) _)
   have HP : Hid (AddP T x base (.slice (some ⟨b, o, none⟩) (m + 1) cap) w (.returned (.agg #[.slice (some ⟨b, o, none⟩) (m + 1) cap])) ((((w.alloc (.cells #[.slice (some ⟨b, o, none⟩) (m + 1) cap] 25)).alloc (.cells #[.int .i64 x.at_, .int .i64 x.offset, .int .i64 x.save, .string x.abbr] 38)).alloc (.cells #[.slice (some ⟨b, o, none⟩) (m + 1) cap] 25)).alloc (.cells #[.int .i64 x.at_, .int .i64 y.offset, .int .i64 y.save, .string y.abbr] 38))) := ⟨_, rfl, by rw [hadd]; exact hT2, hF2, .inl rfl⟩
   clear hl hL e1 hS hy hFin hT0 hF0 hTo hT2 hF2
   unfold TurnD.v
   go_enter Tryz.func87, Tryz.ntmps87
   go_wp2
   exact bodyPost_ret (v := .agg #[.slice (some ⟨b, o, none⟩) (m + 1) cap]) (by simp [results, Tryz.results87, go_sem]) rfl HP.out
end Go.Proofs.YtcelbkmnbjcjhaaGreat
