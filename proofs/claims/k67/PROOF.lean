import PyProof.Rows.All
import Wide.All
import OpenK.AllK
import Wide.FinOn
import KE.KStateDown
import HandS.ForMost
import HandS.ForExc
import HandS.Defaults
import HandS.Property
import HandS.MakeKw
import HandS.IsInst
import HandS.Flow
import HandS.Style
import HandS.Wide
import HandS.OwnEq
import HandS.Conv
import HandS.Deep
import HandS.Head0
import HandS.Head1
import HandS.Head2
import HandS.HeadEnd
import HandS.HeadHook1
import HandS.HeadHook2
import KE.GoesMore
import OpenK.KOps
import KE.KOpsOwn
import HandS.SetFor
import HandS.Strs
import HandS.Zip
import HandS.TupAny
import HandS.Zip0
import KE.GoesZip
import HandS.More
import PySem.Challenge.RW_rainvalleys_k67_whole_best_dams
set_option Elab.async false
set_option linter.all false
set_option maxRecDepth 100000
set_option maxHeartbeats 4000000
/-! Words of this proof: operators on values by short names, the steps of a reading, what a call of a def asks. -/
namespace Rv
open PySem PySem.Spec PyProof.Rows L2
abbrev oAdd : R2 := rI0 fun i j => .int (i + j)
abbrev oSub : R2 := rI0 fun i j => .int (i - j)
abbrev oMul : R2 := rI CMul fun i j => .int (i * j)
abbrev oMulW : R2 := rI CMulW fun i j => .int (i * j)
abbrev oDiv : R2 := rI CDivW fun i j => .int (i / j)
abbrev oMod : R2 := rI (fun _ j => 0 < j) fun i j => .int (i % j)
abbrev oPow : R2 := rI CPow fun i j => .int (i ^ j.toNat)
abbrev oLt : R2 := rI0 fun i j => .bl (decide (i < j))
abbrev oLe : R2 := rI0 fun i j => .bl (decide (i ≤ j))
abbrev oGt : R2 := rI0 fun i j => .bl (decide (j < i))
abbrev oGe : R2 := rI0 fun i j => .bl (decide (j ≤ i))
abbrev oIsN : R2 := fun x y H Q => y = .non ∧ Q (.bl (decide (x = .non))) H
abbrev oNotN : R2 := fun x y H Q => y = .non ∧ Q (.bl (!decide (x = .non))) H
abbrev cLen (K : PySem.W.Frag) : List V → Hp → VK → Prop := fun xs H Q => ∃ p ys, xs = [.ref p] ∧ (SqL K H p ys ∨ SqT K H p ys) ∧ Q (.int ys.length) H
abbrev cInt : List V → Hp → VK → Prop := fun xs H Q => (∃ i, xs = [.int i] ∧ Q (.int i) H) ∨ ∃ k, xs = [.bl k] ∧ Q (.int (if k then 1 else 0)) H
abbrev cAbs : List V → Hp → VK → Prop := fun xs H Q => ∃ i, xs = [.int i] ∧ Q (.int (if i < 0 then -i else i)) H
abbrev cList (K : PySem.W.Frag) : List V → Hp → VK → Prop := fun xs H Q => ∃ p ys, xs = [.ref p] ∧ (SqL K H p ys ∨ SqT K H p ys) ∧ ∀ l, H l = none → Q (.ref l) (upd H l (.lst ys))
abbrev cTuple (K : PySem.W.Frag) : List V → Hp → VK → Prop := fun xs H Q => ∃ p ys, xs = [.ref p] ∧ ((SqL K H p ys ∧ ∀ l, H l = none → Q (.ref l) (upd H l (.tup ys))) ∨ (SqT K H p ys ∧ Q (.ref p) H))
abbrev cMax2 : List V → Hp → VK → Prop := fun xs H Q => ∃ i j, xs = [.int i, .int j] ∧ Q (.int (if j > i then j else i)) H
abbrev cMin2 : List V → Hp → VK → Prop := fun xs H Q => ∃ i j, xs = [.int i, .int j] ∧ Q (.int (if j < i then j else i)) H

/-- a def of the module as its callers see it -/
structure Cal (P : Program) (w : World) (K : PySem.W.Frag) (mg : Str → Option Value) (base : Heap) (CX : CXT) (k : Nat) (x : Str) (ps : List Str) (sp : Sp) : Prop where
  ex : ∃ f fd, FnOk P w K mg base CX k f fd ps sp ∧ mg x = some (.ref f) ∧ PySem.W.keepIn K (.ref f) = true ∧ Binds K fd ps []
section
variable {X : Cx} {CX : CXT} {k : Nat} {x : Str} {ps : List Str} {sp : Sp} {E : XK} {p pos : Pos} {e : Expr} {es : List Expr} {t : TA}
theorem pe_cal (c : Cal X.prog X.w X.K X.mg X.base CX k x ps sp) (hr : Room k X.A) (hg : Gl X x) (hx : Passes CX X E) (ha : PA X (e :: es) t) (hdb : (x == ("__debug__" : Str)) = false := by decide)
    (he : starEach (e :: es) X.env = (false, eval e X.env) :: starEach es X.env := by rfl) (hpl : (backTo pos (starEach es X.env)).any (·.1) = false := by rfl) :
    PE X (.Call (.Name x p) (e :: es) [] pos) (tCall sp [] E t) := by
  obtain ⟨f, fd, F, hm, hk, hb⟩ := c.ex
  first
    | exact pe_call F hr hg hm hk hb .nil hx ha hdb he hpl
    | exact pe_call F hr hg hm hk hb .nil hx ha
end

section
variable {K : PySem.W.Frag} {σ : L2.St} {H : Hp} {Q : VK} {D : Ends} {v x y : V} {i j : Int} {n : Nat} {ta tb te to ti : TE} {t u c : TT} {tr : TA} {b : Bool} {r : R2} {s1 s2 : TS} {g : TG} {p : Addr} {xs : List V} {TQ : Bool → Hp → Prop} {AQ : List V → Hp → Prop} {HQ : Hp → Prop} {GQ : L2.St → Hp → Prop}
theorem w_var (h : σ[n]? = some (some v)) (q : Q v H) : tVar n σ H Q := ⟨v, h, q⟩
theorem w_c (q : Q v H) : tC v σ H Q := q
theorem w_op (q : ta σ H fun x H1 => tb σ H1 fun y H2 => r x y H2 Q) : tOp r ta tb σ H Q := q
theorem w_un {r : V → Hp → VK → Prop} (q : ta σ H fun x H1 => r x H1 Q) : tUn r ta σ H Q := q
theorem w_U {g : Int → V} (q : Q (g i) H) : rU g (.int i) H Q := ⟨i, rfl, q⟩
theorem w_test (q : ta σ H fun x H' => ∃ k, x = .bl k ∧ TQ k H') : tTest ta σ H TQ := q
theorem w_tB (q : ta σ H fun x H' => ∃ k, x = .bl k ∧ TQ k H') : tB ta σ H TQ := q
theorem w_bl (q : TQ b H) : ∃ k, V.bl b = .bl k ∧ TQ k H := ⟨b, rfl, q⟩
theorem w_I0 {g : Int → Int → V} (q : Q (g i j) H) : rI0 g (.int i) (.int j) H Q := ⟨i, j, rfl, rfl, q⟩
theorem w_I {C : Int → Int → Prop} {g : Int → Int → V} (hc : C i j) (q : Q (g i j) H) : rI C g (.int i) (.int j) H Q := ⟨i, j, rfl, rfl, hc, q⟩
theorem w_eq (h : scal x y = true) (q : Q (.bl (decide (x = y))) H) : rEq x y H Q := ⟨h, q⟩
theorem w_eqI (q : Q (.bl (decide (i = j))) H) : rEq (.int i) (.int j) H Q := ⟨rfl, by
  have e : decide (V.int i = V.int j) = decide (i = j) := by
    by_cases h : i = j
    · rw [h, decide_eq_true rfl, decide_eq_true rfl]
    · rw [decide_eq_false h, decide_eq_false (fun z => h (V.int.inj z))]
  rw [e]
  exact q⟩
theorem w_neI (q : Q (.bl (!decide (i = j))) H) : rNe (.int i) (.int j) H Q := ⟨rfl, by
  have e : decide (V.int i = V.int j) = decide (i = j) := by
    by_cases h : i = j
    · rw [h, decide_eq_true rfl, decide_eq_true rfl]
    · rw [decide_eq_false h, decide_eq_false (fun z => h (V.int.inj z))]
  rw [e]
  exact q⟩
theorem w_cons (q : ta σ H fun x H1 => tr σ H1 fun xs H2 => AQ (x :: xs) H2) : tCons ta tr σ H AQ := q
theorem w_nil (q : AQ [] H) : tNil σ H AQ := q
theorem w_seq (q : s1 { D with nx := s2 D } σ H) : tSeq s1 s2 D σ H := q
theorem w_seqA (q : te σ H fun x H1 => g x σ H1 (s2 D)) : tSeq (tAsg te g) s2 D σ H := q
theorem w_seqD (q : te σ H fun _ H1 => s2 D σ H1) : tSeq (tDrop te) s2 D σ H := q
theorem w_seqP {m : Nat} (q : tr σ H fun vs H1 => ∃ v w, vs = [v, w] ∧ s2 D ((σ.set n (some v)).set m (some w)) H1) : tSeq (tPar n m tr) s2 D σ H := q
/-- behind s1 the word W holds, whatever way was gone -/
theorem w_cut (W : L2.St → Hp → Prop) (h : ∀ N : L2.St → Hp → Prop, (∀ σ' H', W σ' H' → N σ' H') → s1 { D with nx := N } σ H) (k : ∀ σ' H', W σ' H' → s2 D σ' H') : tSeq s1 s2 D σ H := h _ k
theorem w_next (q : D.nx σ H) : tNext D σ H := q
theorem w_asg (q : te σ H fun x H1 => g x σ H1 D.nx) : tAsg te g D σ H := q
theorem w_gn (q : GQ (σ.set n (some v)) H) : gName n v σ H GQ := q
theorem w_gsub {s : TSet} (q : to σ H fun o H1 => ti σ H1 fun i H2 => s o i v H2 fun H3 => GQ σ H3) : gSub to ti s v σ H GQ := q
theorem w_setL {k : Int} {j : Nat} (h : H p = some (.lst xs)) (hj : ixN xs.length k = some j) (q : HQ (upd H p (.lst (xs.set j v)))) : rSetL (.ref p) (.int k) v H HQ := ⟨p, xs, k, j, rfl, rfl, h, hj, q⟩
theorem w_ret (q : te σ H D.rt) : tRet te D σ H := q
theorem w_drop (q : te σ H fun _ H1 => D.nx σ H1) : tDrop te D σ H := q
theorem w_ifs (q : c σ H fun b H1 => if b = true then s1 D σ H1 else s2 D σ H1) : tIfS c s1 s2 D σ H := q
theorem w_if (q : c σ H fun b H1 => if b = true then ta σ H1 Q else tb σ H1 Q) : tIf c ta tb σ H Q := q
theorem w_and (q : t σ H fun c H1 => if c = true then u σ H1 TQ else TQ false H1) : tAnd t u σ H TQ := q
theorem w_or (q : t σ H fun c H1 => if c = true then TQ true H1 else u σ H1 TQ) : tOr t u σ H TQ := q
theorem w_not (q : t σ H fun c H1 => TQ (!c) H1) : tNot t σ H TQ := q
theorem w_andV (q : ta σ H fun x H1 => ∃ c, x = .bl c ∧ if c = true then tb σ H1 Q else Q (.bl false) H1) : tAndV ta tb σ H Q := q
theorem w_orV (q : ta σ H fun x H1 => ∃ c, x = .bl c ∧ if c = true then Q (.bl true) H1 else tb σ H1 Q) : tOrV ta tb σ H Q := q
theorem w_notV (q : ta σ H fun x H1 => ∃ c, x = .bl c ∧ Q (.bl (!c)) H1) : tNotV ta σ H Q := q
theorem w_ixL (h : SqL K H p xs) (ha : atI xs i = some v) (q : Q v H) : rIxL K (.ref p) (.int i) H Q := ⟨p, xs, i, v, rfl, rfl, h, ha, q⟩
theorem w_ixT (h : SqT K H p xs) (ha : atI xs i = some v) (q : Q v H) : rIxT K (.ref p) (.int i) H Q := ⟨p, xs, i, v, rfl, rfl, h, ha, q⟩
theorem w_cb {r : List V → Hp → VK → Prop} (q : tr σ H fun vs H1 => r vs H1 Q) : tCB r tr σ H Q := q
theorem w_lenL (h : SqL K H p xs) (q : Q (.int xs.length) H) : cLen K [.ref p] H Q := ⟨p, xs, rfl, .inl h, q⟩
theorem w_lenT (h : SqT K H p xs) (q : Q (.int xs.length) H) : cLen K [.ref p] H Q := ⟨p, xs, rfl, .inr h, q⟩
theorem w_intB (q : Q (.int (if b then 1 else 0)) H) : cInt [.bl b] H Q := .inr ⟨b, rfl, q⟩
theorem w_intI (q : Q (.int i) H) : cInt [.int i] H Q := .inl ⟨i, rfl, q⟩
theorem w_abs (q : Q (.int (if i < 0 then -i else i)) H) : cAbs [.int i] H Q := ⟨i, rfl, q⟩
theorem w_call {sp : Sp} {dvs : List V} {E : XK} (q : tr σ H fun vs H1 => sp (vs ++ dvs) H1 Q E) : tCall sp dvs E tr σ H Q := q
theorem w_lst (q : tr σ H fun xs H1 => xs.length ≤ sizeLine ∧ ∀ p, H1 p = none → Q (.ref p) (upd H1 p (.lst xs))) : tLst tr σ H Q := q
theorem w_tup (q : tr σ H fun xs H1 => xs.length ≤ sizeLine ∧ ∀ p, H1 p = none → Q (.ref p) (upd H1 p (.tup xs))) : tTup tr σ H Q := q
theorem w_par {m : Nat} (q : tr σ H fun vs H1 => ∃ v w, vs = [v, w] ∧ D.nx ((σ.set n (some v)).set m (some w)) H1) : tPar n m tr D σ H := q
theorem w_sl {r : V → Option Int → Option Int → Hp → VK → Prop} {tl th : TO} (q : te σ H fun x H1 => tl σ H1 fun l H2 => th σ H2 fun u H3 => r x l u H3 Q) : tSl r te tl th σ H Q := q
theorem w_slL {lo hi : Option Int} (h : SqL K H p xs) (q : ∀ q', H q' = none → Q (.ref q') (upd H q' (.lst (cutV xs lo hi)))) : rSlL K (.ref p) lo hi H Q := ⟨p, xs, rfl, h, q⟩
theorem w_noPart {OQ : Option Int → Hp → Prop} (q : OQ none H) : tNoPart σ H OQ := q
theorem w_part {OQ : Option Int → Hp → Prop} (q : te σ H fun x H1 => ∃ i, x = .int i ∧ OQ (some i) H1) : tPart te σ H OQ := q
theorem w_ex1 {P : Int → Prop} (q : P i) : ∃ j, V.int i = .int j ∧ P j := ⟨i, rfl, q⟩
theorem w_exb {P : Bool → Prop} (q : P b) : ∃ j, V.bl b = .bl j ∧ P j := ⟨b, rfl, q⟩
theorem w_nx {f : L2.St → Hp → Prop} {r : VK} {k c : L2.St → Hp → Prop} {σ : L2.St} {H : Hp} (q : f σ H) : Ends.nx ⟨f, r, k, c⟩ σ H := q
theorem w_rt {f : L2.St → Hp → Prop} {r : VK} {k c : L2.St → Hp → Prop} {v : V} {H : Hp} (q : r v H) : Ends.rt ⟨f, r, k, c⟩ v H := q
theorem w_yes {TQ : Bool → Hp → Prop} {σ : L2.St} {H : Hp} (q : TQ true H) : tYes σ H TQ := q
theorem iteNT {A B : Prop} (h : B) : if (!true) = true then A else B := iteF h
theorem iteNF {A B : Prop} (h : A) : if (!false) = true then A else B := iteT h
theorem iteRf {α : Type} [DecidableEq α] {z : α} {A B : Prop} (h : A) : if decide (z = z) = true then A else B := by
  rw [decide_eq_true rfl]
  exact iteT h
theorem iteNRf {α : Type} [DecidableEq α] {z : α} {A B : Prop} (h : B) : if (!decide (z = z)) = true then A else B := by
  rw [decide_eq_true rfl]
  exact iteF h
/-- a test whose answer is open: both ways -/
theorem w_both {c A B : Prop} [Decidable c] (h1 : c → A) (h2 : ¬ c → B) : if decide c = true then A else B := by
  by_cases h : c
  · rw [decide_eq_true h]
    exact iteT (h1 h)
  · rw [decide_eq_false h]
    exact iteF (h2 h)
theorem w_bothN {c A B : Prop} [Decidable c] (h1 : ¬ c → A) (h2 : c → B) : if (!decide c) = true then A else B := by
  by_cases h : c
  · rw [decide_eq_true h]
    exact iteF (h2 h)
  · rw [decide_eq_false h]
    exact iteT (h1 h)
theorem w_bool {A B : Prop} {b : Bool} (h1 : b = true → A) (h2 : b = false → B) : if b = true then A else B := by
  cases b with
  | true => exact iteT (h1 rfl)
  | false => exact iteF (h2 rfl)
end
theorem pow_c {i j : Int} (h : 0 ≤ j) (h2 : j ≤ 1000000) (h3 : -18446744073709551616 < i) (h4 : i < 18446744073709551616) : CPow i j := ⟨h, h2, by
  have e : (2 : Nat) ^ 64 = 18446744073709551616 := by decide
  omega⟩
theorem mul_l {i j : Int} (h3 : -18446744073709551616 < i) (h4 : i < 18446744073709551616) : CMul i j := .inl ⟨by
  have e : (2 : Int) ^ 64 = 18446744073709551616 := by decide
  omega, by
  have e : (2 : Int) ^ 64 = 18446744073709551616 := by decide
  omega⟩
theorem mul_r {i j : Int} (h3 : -18446744073709551616 < j) (h4 : j < 18446744073709551616) : CMul i j := .inr ⟨by
  have e : (2 : Int) ^ 64 = 18446744073709551616 := by decide
  omega, by
  have e : (2 : Int) ^ 64 = 18446744073709551616 := by decide
  omega⟩
/-- all that H tracked, but the object at d, stands as it was -/
def But (d : Addr) (H H' : Hp) : Prop := ∀ b o, b ≠ d → H b = some o → H' b = some o
theorem But.refl (d : Addr) (H : Hp) : But d H H := fun _ _ _ h => h
theorem But.trans {d : Addr} {H H1 H2 : Hp} (a : But d H H1) (b : But d H1 H2) : But d H H2 := fun c o n h => b c o n (a c o n h)
theorem But.wr {d : Addr} {H H' : Hp} {o : HO} (a : But d H H') : But d H (upd H' d o) := fun c u n h => by
  rw [upd_ne n]
  exact a c u n h
theorem But.new {d p : Addr} {H H' : Hp} {o : HO} (a : But d H H') (h : H' p = none) : But d H (upd H' p o) := fun c u n z => by
  have q := a c u n z
  rw [upd_ne (ne_of_none q h)]
  exact q
theorem But.same {d : Addr} {H H' : Hp} (a : Same H H') : But d H H' := fun c u _ z => a c u z
theorem same_new {p : Addr} {H H' : Hp} {o : HO} (a : Same H H') (h : H' p = none) : Same H (upd H' p o) := fun c u z => by
  have q := a c u z
  rw [upd_ne (ne_of_none q h)]
  exact q
theorem But.sq {K : PySem.W.Frag} {d a : Addr} {H H' : Hp} {xs : List V} (e : But d H H') (n : a ≠ d) (h : SqL K H a xs) : SqL K H' a xs := by
  rcases h with (h | ⟨o, h⟩) | h
  · exact .inl (.inl (e _ _ n h))
  · exact .inl (.inr ⟨o, e _ _ n h⟩)
  · exact .inr h
theorem But.free {d : Addr} {H H' : Hp} (e : But d H H') {l : Addr} (n : l ≠ d) (h : H' l = none) : H l = none := by
  cases q : H l with
  | none => rfl
  | some o =>
    rw [e l o n q] at h
    cases h
theorem sq_lst {K : PySem.W.Frag} {H : Hp} {a : Addr} {xs : List V} (h : H a = some (.lst xs)) : SqL K H a xs := .inl (.inl h)
theorem sq_tup {K : PySem.W.Frag} {H : Hp} {a : Addr} {xs : List V} (h : H a = some (.tup xs)) : SqT K H a xs := .inl (.inl h)
theorem at_nat {xs : List V} {j : Nat} {v : V} (h : xs[j]? = some v) : atI xs (j : Int) = some v := atI_nat h
theorem szl {n : Nat} (h : n ≤ 100000) : n ≤ sizeLine := Nat.le_trans h (by decide)
end Rv
namespace Rv
open PySem PySem.Spec PyProof.Rows L2
/-- a module's name that holds an int -/
theorem pe_gint {X : Cx} {x : Str} {i : Int} {pos : Pos} (h : ∃ u, X.mg x = some (.int i u)) (hg : Gl X x) (hd : (x == ("__debug__" : Str)) = false := by decide) : PE X (.Name x pos) (tC (.int i)) := by
  obtain ⟨u, h⟩ := h
  exact pe_glob hg h ⟨u, rfl⟩ hd
/-- a class of the module whose instances are made by its __init__ (dvs: the defaults that fill up) -/
structure CalM (P : Program) (w : World) (K : PySem.W.Frag) (mg : Str → Option Value) (base : Heap) (CX : CXT) (k : Nat) (x : Str) (C : Addr) (ps : List Str) (sp : Sp) (dvs : List V) : Prop where
  ex : ∃ f fd ds, FnOk P w K mg base CX k f fd ps sp ∧ Mk K C f ∧ mg x = some (.ref C) ∧ Binds K fd ps ds ∧ Vals dvs ds
/-- a property of a class that hands back a field -/
structure CalP (P : Program) (w : World) (K : PySem.W.Frag) (mg : Str → Option Value) (base : Heap) (CX : CXT) (k : Nat) (C : Addr) (f : Str) (sp : Sp) : Prop where
  ex : ∃ p g fd, FnOk P w K mg base CX k g fd ["self"] sp ∧ Cls K C ∧ PropOf K C f p g ∧ Binds K fd ["self"] []
/-- a method of a class -/
structure CalT (P : Program) (w : World) (K : PySem.W.Frag) (mg : Str → Option Value) (base : Heap) (CX : CXT) (k : Nat) (C : Addr) (m : Str) (ps : List Str) (sp : Sp) : Prop where
  ex : ∃ f fd, FnOk P w K mg base CX k f fd ps sp ∧ Cls K C ∧ Meth K C m f ∧ Binds K fd ps []
section
variable {X : Cx} {CX : CXT} {k : Nat} {x f m : Str} {ps : List Str} {sp : Sp} {E : XK} {p pos apos : Pos} {e o : Expr} {es : List Expr} {t : TA} {ta : TE} {C : Addr} {dvs : List V}
theorem pe_calm (c : CalM X.prog X.w X.K X.mg X.base CX k x C ps sp dvs) (hr : Room (k + 1) X.A) (hg : Gl X x) (hx : Passes CX X E) (ha : PA X (e :: es) t) (hdb : (x == ("__debug__" : Str)) = false := by decide)
    (he : starEach (e :: es) X.env = (false, eval e X.env) :: starEach es X.env := by rfl) (hpl : (backTo pos (starEach es X.env)).any (·.1) = false := by rfl) :
    PE X (.Call (.Name x p) (e :: es) [] pos) (tMake C sp dvs E t) := by
  obtain ⟨f, fd, ds, F, M, hm, hb, hd⟩ := c.ex
  exact pe_make M F hr hg hm hb hd hx ha hdb he hpl
theorem pe_calp (c : CalP X.prog X.w X.K X.mg X.base CX k C f sp) (hr : Room (k + 1) X.A) (hx : Passes CX X.nox E) (ha : PE X e ta) (hab : attributeBase e f X.env (eval e X.env) = eval e X.env) :
    PE X (.Attribute e f pos) (tProp C sp [] E ta) := by
  obtain ⟨q, g, fd, F, cl, hp, hb⟩ := c.ex
  exact pe_prop ha cl hp F hr hb .nil hx hab
theorem pe_calt {pl : Sem Bool} (c : CalT X.prog X.w X.K X.mg X.base CX k C m ps sp) (hr : Room k X.A) (hx : Passes CX X E) (ho : PE X o ta) (ha : PA X (e :: es) t)
    (he : starEach (e :: es) X.env = (false, eval e X.env) :: starEach es X.env := by rfl) (hpl : (backTo pos (starEach es X.env)).any (·.1) = false := by rfl)
    (ht : eval (.Call (.Attribute o m apos) (e :: es) [] pos) X.env = (do let ov ← eval o X.env; standAt apos.atName; let (f, first) ← holding [ov] (getMethod ov m pl); callWith pos f first (backTo pos (starEach (e :: es) X.env)) (backToKw pos (keywordEach [] X.env))) := by rfl) :
    PE X (.Call (.Attribute o m apos) (e :: es) [] pos) (tMeth C m sp [] E ta t) := by
  obtain ⟨f, fd, F, cl, hm, hb⟩ := c.ex
  exact pe_meth ho cl hm F hr hb .nil hx ha he hpl ht
theorem pe_calt0 {pl : Sem Bool} (c : CalT X.prog X.w X.K X.mg X.base CX k C m ps sp) (hr : Room k X.A) (hx : Passes CX X E) (ho : PE X o ta)
    (ht : eval (.Call (.Attribute o m apos) [] [] pos) X.env = (do let ov ← eval o X.env; standAt apos.atName; let (f, first) ← holding [ov] (getMethod ov m pl); callWith pos f first (backTo pos (starEach [] X.env)) (backToKw pos (keywordEach [] X.env))) := by rfl) :
    PE X (.Call (.Attribute o m apos) [] [] pos) (tMeth C m sp [] E ta tNil) := by
  obtain ⟨f, fd, F, cl, hm, hb⟩ := c.ex
  exact pe_meth0 ho cl hm F hr hb .nil hx ht
end
/-- == of a class's own -/
structure CalE (P : Program) (w : World) (K : PySem.W.Frag) (mg : Str → Option Value) (base : Heap) (CX : CXT) (k : Nat) (C : Addr) (R : Addr → Addr → Hp → Prop) : Prop where
  ex : ∃ f fd, FnOk P w K mg base CX k f fd ["self", "other"] (spEq R) ∧ PySem.W.findIn K (.ref C) "__eq__" = some (some (.ref f)) ∧ PySem.W.isFn K (.ref f) = true ∧ Binds K fd ["self", "other"] []
theorem op_cale {X : Cx} {CX : CXT} {k : Nat} {C : Addr} {R : Addr → Addr → Hp → Prop} {E : XK} (c : CalE X.prog X.w X.K X.mg X.base CX k C R) (hr : Room k X.A) (hx : Passes CX X E) : OpR X (compareOp .Eq) (rEqG (DIns C R)) := by
  obtain ⟨f, fd, F, h1, h2, hb⟩ := c.ex
  exact op_eqG (rcG_ins F h1 h2 hb hx) hr
end Rv
namespace Rv
open PySem PySem.Spec PyProof.Rows L2
section
variable {K : PySem.W.Frag} {σ : L2.St} {H : Hp} {Q : VK} {D : Ends} {v x y : V} {i j : Int} {n slot : Nat} {ta tb tc te to ti tv tl : TE} {t u c tt : TT} {tr : TA} {b : Bool} {r r' : R2} {s1 s2 : TS} {g : TG} {p a d C dx : Addr} {xs : List V} {f : Str} {fs : List (Str × V)} {GQ2 : Hp → Prop}
theorem w_chain (q : ta σ H fun x H1 => tb σ H1 fun y H2 => r x y H2 fun z H3 => ∃ k, z = .bl k ∧ (if k = true then tc σ H3 fun w' H4 => r' y w' H4 Q else Q (.bl false) H3)) : tChain r r' ta tb tc σ H Q := q
theorem w_fld (hn : σ[n]? = some (some (.ref a))) (ho : H a = some (.ins C dx fs)) (hc : Cls K C) (hf : NoAttr K C f) (hl : fs.lookup f = some v) (q : Q v H) : tFld K (tVar n) f σ H Q := ⟨_, hn, a, C, dx, fs, v, rfl, ho, hc, hf, hl, q⟩
theorem w_prop {sp : Sp} {E : XK} (hn : σ[n]? = some (some (.ref a))) (ho : H a = some (.ins C dx fs)) (q : sp [.ref a] H Q E) : tProp C sp [] E (tVar n) σ H Q := ⟨_, hn, a, dx, fs, rfl, ho, q⟩
theorem w_sfld (q : tv σ H fun y H1 => to σ H1 fun x H2 => ∃ a C dx fs, x = .ref a ∧ H2 a = some (.ins C dx fs) ∧ Cls K C ∧ NoAttr K C f ∧ fs.length < 1000 ∧ D.nx σ (upd H2 a (.ins C dx (putF f y fs)))) : sFld K to tv f D σ H := q
theorem w_put (ho : H a = some (.ins C dx fs)) (hc : Cls K C) (hf : NoAttr K C f) (hl : fs.length < 1000) (q : GQ2 (upd H a (.ins C dx (putF f y fs)))) : ∃ a' C' dx' fs', V.ref a = .ref a' ∧ H a' = some (.ins C' dx' fs') ∧ Cls K C' ∧ NoAttr K C' f ∧ fs'.length < 1000 ∧ GQ2 (upd H a' (.ins C' dx' (putF f y fs'))) := ⟨a, C, dx, fs, rfl, ho, hc, hf, hl, q⟩
/-- a call of a maker -/
theorem w_make {sp : Sp} {dvs : List V} {E : XK} (q : tr σ H fun vs H1 => ∀ x dx, H1 x = none → H1 dx = none → dx ≠ x → sp (.ref x :: (vs ++ dvs)) (upd (upd H1 dx (.own x)) x (.ins C dx [])) (fun v H2 => v = .non ∧ Q (.ref x) H2) E) : tMake C sp dvs E tr σ H Q := q
/-- for i in range(n) -/
theorem w_forR {n : Nat} (hn : n ≤ 100000) (ha : ∀ AQ : List V → Hp → Prop, AQ [.int (n : Int)] H → tr σ H AQ) (Pv : Nat → L2.St → Hp → Prop) (h0 : Pv 0 σ H)
    (hs : ∀ i σ' H', i < n → Pv i σ' H' → s1 { D with nx := Pv (i + 1), ct := Pv (i + 1), bk := D.nx } (σ'.set slot (some (.int (i : Int)))) H') (hd : ∀ σ' H', Pv n σ' H' → D.nx σ' H') : tFor (iRng1 tr) (gName slot) s1 D σ H := by
  refine ha _ ⟨(n : Int), rfl, by omega, by omega, ?_⟩
  rw [show ((n : Int)).toNat = n from Int.toNat_natCast n]
  refine for_range Pv h0 (fun i σ' H' hi q => ?_) hd
  show s1 _ (σ'.set slot (some (.int (0 + (i : Int))))) H'
  rw [Int.zero_add]
  exact hs i σ' H' hi q
/-- for x in a list -/
theorem w_forL (ha : ∀ Q : VK, Q (.ref a) H → tl σ H Q) (hx : SqL K H a xs) (Pv : Nat → L2.St → Hp → Prop) (h0 : Pv 0 σ H) (hl : ∀ i σ' H', i ≤ xs.length → Pv i σ' H' → SqL K H' a xs)
    (hs : ∀ i x σ' H', xs[i]? = some x → Pv i σ' H' → g x σ' H' fun σ2 H2 => s1 { D with nx := Pv (i + 1), ct := Pv (i + 1), bk := D.nx } σ2 H2) (hd : ∀ σ' H', Pv xs.length σ' H' → D.nx σ' H') : tFor (iList K tl) g s1 D σ H :=
  ha _ ⟨a, rfl, ⟨xs, hx⟩, for_list Pv h0 hl hs hd⟩
theorem w_forT (ha : ∀ Q : VK, Q (.ref a) H → tl σ H Q) (hx : SqT K H a xs) (Pv : Nat → L2.St → Hp → Prop) (h0 : Pv 0 σ H) (hl : ∀ i σ' H', i ≤ xs.length → Pv i σ' H' → SqT K H' a xs)
    (hs : ∀ i x σ' H', xs[i]? = some x → Pv i σ' H' → g x σ' H' fun σ2 H2 => s1 { D with nx := Pv (i + 1), ct := Pv (i + 1), bk := D.nx } σ2 H2) (hd : ∀ σ' H', Pv xs.length σ' H' → D.nx σ' H') : tFor (iTup K tl) g s1 D σ H :=
  ha _ ⟨a, rfl, ⟨xs, hx⟩, for_tup Pv h0 hl hs hd⟩
/-- for i, x in enumerate(a list): each turn has a new pair -/
theorem w_forE (ha : ∀ AQ : List V → Hp → Prop, AQ [.ref a] H → tr σ H AQ) (hx : SqL K H a xs) (Pv : Nat → L2.St → Hp → Prop) (h0 : Pv 0 σ H) (hl : ∀ i σ' H', Pv i σ' H' → SqL K H' a xs)
    (hs : ∀ i x T σ' H', xs[i]? = some x → Pv i σ' H' → H' T = none → g (.ref T) σ' (upd H' T (.tup [.int (i : Int), x])) fun σ2 H2 => s1 { D with nx := Pv (i + 1), ct := Pv (i + 1), bk := D.nx } σ2 H2)
    (hd : ∀ σ' H', Pv xs.length σ' H' → D.nx σ' H') : tFor (iEnum K tr) g s1 D σ H := by
  refine ha _ ⟨a, xs, rfl, hx, fun i m σ' H' => m = xs.length - i ∧ i ≤ xs.length ∧ Pv i σ' H', ⟨xs.length, by simp, Nat.zero_le _, h0⟩, ?_⟩
  rintro i m σ' H' ⟨rfl, hi, q⟩
  have hq := hl i σ' H' q
  by_cases hlt : i < xs.length
  · refine .inr ⟨⟨xs, xs[i], hq, List.getElem?_eq_getElem hlt⟩, fun σ2 H2 => Pv (i + 1) σ2 H2, fun σ2 H2 q2 => ⟨xs.length - (i + 1), by omega, rfl, hlt, q2⟩, ?_⟩
    rintro x H2 ⟨T, z, rfl, nT, rfl, hz⟩
    exact hs i z T σ' H' (hz xs hq) q nT
  · have e : i = xs.length := by omega
    subst e
    exact .inl ⟨⟨xs, hq, Nat.le_refl _⟩, hd σ' H' q⟩
/-- while -/
theorem w_while (W : Nat → L2.St → Hp → Prop) {m : Nat} (h0 : W m σ H) (hs : ∀ m σ' H', W m σ' H' → c σ' H' fun b H1 => if b = true then (∃ N : L2.St → Hp → Prop, (∀ σ2 H2, N σ2 H2 → ∃ m', m' < m ∧ W m' σ2 H2) ∧ s1 { D with nx := N, ct := N, bk := D.nx } σ' H1) else D.nx σ' H1) : tWhile c s1 D σ H := ⟨W, ⟨m, h0⟩, hs⟩
theorem w_turn {W : Nat → L2.St → Hp → Prop} {m : Nat} {σ' : L2.St} {H1 : Hp} {D2 : Ends} (h : s1 { D2 with nx := fun σ2 H2 => ∃ m', m' < m ∧ W m' σ2 H2, ct := fun σ2 H2 => ∃ m', m' < m ∧ W m' σ2 H2, bk := D2.nx } σ' H1) :
    ∃ N : L2.St → Hp → Prop, (∀ σ2 H2, N σ2 H2 → ∃ m', m' < m ∧ W m' σ2 H2) ∧ s1 { D2 with nx := N, ct := N, bk := D2.nx } σ' H1 := ⟨_, fun _ _ z => z, h⟩
/-- [e for x in range(n)] -/
theorem w_lcR {n : Nat} (hn : n ≤ 100000) (ha : ∀ AQ : List V → Hp → Prop, AQ [.int (n : Int)] H → tr σ H AQ) (J : Addr → List V → Hp → Prop) (h0 : ∀ D, H D = none → J D [] (upd H D (.lst [])))
    (hs : ∀ D acc H1, acc.length < n → J D acc H1 → te ((σ.set slot none).set slot (some (.int (acc.length : Int)))) H1 fun y H2 => ∃ bcc, H2 D = some (.lst bcc) ∧ bcc.length < sizeLine ∧ ∃ ccc, ccc.length = acc.length + 1 ∧ J D ccc (upd H2 D (.lst (bcc ++ [y]))))
    (hd : ∀ D acc H1, acc.length = n → J D acc H1 → Q (.ref D) H1) : tLc (iRng1 tr) (gName slot) tYes te [slot] σ H Q := by
  refine ha _ ⟨(n : Int), rfl, by omega, by omega, ?_⟩
  rw [show ((n : Int)).toNat = n from Int.toNat_natCast n]
  intro D nD
  refine lc_range (fun i H1 => ∃ acc, acc.length = i ∧ J D acc H1) ⟨[], rfl, h0 D nD⟩ ?_ (fun H1 ⟨acc, e, q⟩ => hd D acc H1 e q)
  rintro i H1 hi ⟨acc, rfl, q⟩
  refine ⟨?_, ?_⟩
  · show ((σ.set slot none).set slot _).set slot none = σ.set slot none
    rw [List.set_set, List.set_set]
  · show te _ H1 _
    rw [Int.zero_add]
    exact hs D acc H1 hi q
/-- what a turn of a comprehension ends with -/
theorem w_app {J : Addr → List V → Hp → Prop} {D2 : Addr} {acc : List V} {H2 : Hp} (h : H2 D2 = some (.lst acc)) (hl : acc.length ≤ 100000) (q : J D2 (acc ++ [y]) (upd H2 D2 (.lst (acc ++ [y])))) :
    ∃ bcc, H2 D2 = some (.lst bcc) ∧ bcc.length < sizeLine ∧ ∃ ccc, ccc.length = acc.length + 1 ∧ J D2 ccc (upd H2 D2 (.lst (bcc ++ [y]))) :=
  ⟨acc, h, Nat.lt_of_lt_of_le (by omega : acc.length < 100001) (by decide), acc ++ [y], by rw [List.length_append]; rfl, q⟩
end
end Rv
namespace Rv
open PySem PySem.Spec PyProof.Rows L2
section
variable {K : PySem.W.Frag} {σ : L2.St} {H : Hp} {Q : VK} {D : Ends} {v x y : V} {i j : Int} {n slot : Nat} {ta tb tc te to ti tv tl : TE} {t u c tt : TT} {tr : TA} {b b2 : Bool} {g : TG} {p a l : Addr} {xs ys : List V} {vs : List Nat}
theorem w_bm {r : V → List V → Hp → VK → Prop} (hn : σ[n]? = some (some (.ref l))) (hl : H l = some (.lst xs)) (q : tr σ H fun ws H2 => r (.ref l) ws H2 Q) : tBM K "list" r (tVar n) tr σ H Q := ⟨_, hn, .inl ⟨rfl, _, sq_lst hl⟩, q⟩
theorem w_bm0 {r : V → List V → Hp → VK → Prop} (hn : σ[n]? = some (some (.ref l))) (hl : H l = some (.lst xs)) (q : r (.ref l) [] H Q) : tBM0 K "list" r (tVar n) σ H Q := ⟨_, hn, .inl ⟨rfl, _, sq_lst hl⟩, q⟩
theorem w_appR (hl : H l = some (.lst xs)) (hz : xs.length ≤ 100000) (q : Q .non (upd H l (.lst (xs ++ [y])))) : rAppend (.ref l) [y] H Q := ⟨l, xs, y, rfl, rfl, hl, Nat.lt_of_lt_of_le (by omega : xs.length < 100001) (by decide), q⟩
theorem w_clear (hl : H l = some (.lst xs)) (q : Q .non (upd H l (.lst []))) : rClear (.ref l) [] H Q := ⟨l, xs, rfl, rfl, hl, q⟩
theorem w_eqB (q : Q (.bl (decide (b = b2))) H) : rEq (.bl b) (.bl b2) H Q := ⟨rfl, by
  have e : decide (V.bl b = V.bl b2) = decide (b = b2) := by
    by_cases h : b = b2
    · rw [h, decide_eq_true rfl, decide_eq_true rfl]
    · rw [decide_eq_false h, decide_eq_false (fun z => h (V.bl.inj z))]
  rw [e]
  exact q⟩
/-- a list, two lists that are at hand -/
def iAt (K : PySem.W.Frag) (a : Addr) : TI := fun _ H R => (∃ xs, SqL K H a xs) ∧ R (Itl K a) H
theorem w_lcl (q : tl σ H fun x H1 => ∃ a, x = .ref a ∧ tLc (iAt K a) g tt te vs σ H1 Q) : tLc (iList K tl) g tt te vs σ H Q := q
theorem w_lcA (hx : SqL K H a xs) (J : Addr → Nat → List V → Hp → Prop) (h0 : ∀ D, H D = none → J D 0 [] (upd H D (.lst []))) (hl : ∀ D i acc H1, J D i acc H1 → SqL K H1 a xs)
    (hs : ∀ D i acc x H1, xs[i]? = some x → J D i acc H1 → g x (wipe σ vs) H1 fun σ2 H2 => wipe σ2 vs = wipe σ vs ∧ tt σ2 H2 fun b H3 => if b = true then te σ2 H3 fun y H4 => ∃ bcc, H4 D = some (.lst bcc) ∧ bcc.length < sizeLine ∧ ∃ ccc, J D (i + 1) ccc (upd H4 D (.lst (bcc ++ [y]))) else ∃ ccc, J D (i + 1) ccc H3)
    (hd : ∀ D acc H1, J D xs.length acc H1 → Q (.ref D) H1) : tLc (iAt K a) g tt te vs σ H Q := by
  refine ⟨⟨xs, hx⟩, fun D nD => ?_⟩
  exact lc_list (fun i H1 => ∃ acc, J D i acc H1) ⟨[], h0 D nD⟩ (fun i H1 _ ⟨acc, q⟩ => hl D i acc H1 q) (fun i x H1 hx ⟨acc, q⟩ => hs D i acc x H1 hx q) fun H1 ⟨acc, q⟩ => hd D acc H1 q
def iAtZ (K : PySem.W.Frag) (a b : Addr) : TI := fun _ H R => (∃ xs ys, SqL K H a xs ∧ SqL K H b ys) ∧ R (Itz K a b) H
theorem w_lcz (q : tr σ H fun ws H1 => ∃ a b xs ys, ws = [.ref a, .ref b] ∧ SqL K H1 a xs ∧ SqL K H1 b ys ∧ ∀ D, H1 D = none → ∃ W : Nat → Nat → Hp → Prop, (∃ m, W 0 m (upd H1 D (.lst []))) ∧ ∀ i m H, W i m H →
      ((Itz K a b).stop i H ∧ Q (.ref D) H) ∨ ((Itz K a b).go i H ∧ ∃ Nx : Hp → Prop, (∀ H', Nx H' → ∃ m', m' < m ∧ W (i + 1) m' H') ∧ ∀ x H', (Itz K a b).yld i H x H' → g x (wipe σ vs) H' fun σ2 H2 =>
        wipe σ2 vs = wipe σ vs ∧ tt σ2 H2 fun b H3 => if b = true then te σ2 H3 fun y H4 => ∃ acc, H4 D = some (.lst acc) ∧ acc.length < sizeLine ∧ Nx (upd H4 D (.lst (acc ++ [y]))) else Nx H3)) : tLc (iZip K tr) g tt te vs σ H Q := q
/-- the body of a comprehension over zip, by a word J of the turn -/
theorem w_lcZ {bb : Addr} (J : Addr → Nat → List V → Hp → Prop) {H1 : Hp} {Dd : Addr} (h0 : J Dd 0 [] (upd H1 Dd (.lst []))) (hl : ∀ i acc H2, J Dd i acc H2 → SqL K H2 a xs ∧ SqL K H2 bb ys)
    (hs : ∀ i acc x y T H2, xs[i]? = some x → ys[i]? = some y → J Dd i acc H2 → H2 T = none → g (.ref T) (wipe σ vs) (upd H2 T (.tup [x, y])) fun σ2 H3 => wipe σ2 vs = wipe σ vs ∧ tt σ2 H3 fun b H4 => if b = true then te σ2 H4 fun z H5 => ∃ bcc, H5 Dd = some (.lst bcc) ∧ bcc.length < sizeLine ∧ ∃ ccc, J Dd (i + 1) ccc (upd H5 Dd (.lst (bcc ++ [z]))) else ∃ ccc, J Dd (i + 1) ccc H4)
    (hd : ∀ acc H2, J Dd (min xs.length ys.length) acc H2 → Q (.ref Dd) H2) :
    ∃ W : Nat → Nat → Hp → Prop, (∃ m, W 0 m (upd H1 Dd (.lst []))) ∧ ∀ i m H, W i m H →
      ((Itz K a bb).stop i H ∧ Q (.ref Dd) H) ∨ ((Itz K a bb).go i H ∧ ∃ Nx : Hp → Prop, (∀ H', Nx H' → ∃ m', m' < m ∧ W (i + 1) m' H') ∧ ∀ x H', (Itz K a bb).yld i H x H' → g x (wipe σ vs) H' fun σ2 H2 =>
        wipe σ2 vs = wipe σ vs ∧ tt σ2 H2 fun b H3 => if b = true then te σ2 H3 fun y H4 => ∃ acc, H4 Dd = some (.lst acc) ∧ acc.length < sizeLine ∧ Nx (upd H4 Dd (.lst (acc ++ [y]))) else Nx H3) := by
  refine ⟨fun i m H2 => m = min xs.length ys.length - i ∧ i ≤ min xs.length ys.length ∧ ∃ acc, J Dd i acc H2, ⟨min xs.length ys.length, by simp, Nat.zero_le _, [], h0⟩, ?_⟩
  rintro i m H2 ⟨rfl, hi, acc, q⟩
  obtain ⟨q1, q2⟩ := hl i acc H2 q
  by_cases hlt : i < min xs.length ys.length
  · have k1 : i < xs.length := by omega
    have k2 : i < ys.length := by omega
    refine .inr ⟨⟨xs, ys, xs[i], ys[i], q1, q2, List.getElem?_eq_getElem k1, List.getElem?_eq_getElem k2⟩, fun H' => ∃ ccc, J Dd (i + 1) ccc H', fun H' z => ⟨min xs.length ys.length - (i + 1), by omega, rfl, hlt, z⟩, ?_⟩
    rintro z H' ⟨T, x, y, rfl, nT, rfl, hx, hy⟩
    exact hs i acc x y T H2 (hx xs q1) (hy ys q2) q nT
  · have e : i = min xs.length ys.length := by omega
    subst e
    exact .inl ⟨⟨xs, ys, q1, q2, by omega⟩, hd acc H2 q⟩
end
end Rv
namespace Rv
open PySem PySem.Spec PyProof.Rows L2
/-! what the top leaves behind, beyond defs and methods: properties, an own ==, getters -/
def prA (K : PySem.W.Frag) (x f : Str) : Addr := He.ma K (He.ga K x) f
def gtA (K : PySem.W.Frag) (x f : Str) : Addr := match PySem.W.recIn K (prA K x f) "property" with
  | some (.ref g :: _) => g
  | _ => 0
def prB (K : PySem.W.Frag) (x f : Str) : Bool := He.eqO (PySem.W.findIn K (.ref (He.ga K x)) f) (some (some (.ref (prA K x f)))) &&
  (He.eqO (PySem.W.specialIn K (.ref (prA K x f)) "__get__") (some (some (.builtin "property.__get__"))) && (decide (PySem.W.takesIn K (.ref (prA K x f)) = some true) &&
    (match PySem.W.recIn K (prA K x f) "property" with
      | some (.ref _ :: _) => true
      | _ => false)))
theorem pr_of {K : PySem.W.Frag} {x f : Str} (h : prB K x f = true) : PropOf K (He.ga K x) f (prA K x f) (gtA K x f) := by
  obtain ⟨h1, h⟩ := He.ba h
  obtain ⟨h2, h⟩ := He.ba h
  obtain ⟨h3, h4⟩ := He.ba h
  refine ⟨He.eqO_ok h1, He.eqO_ok h2, of_decide_eq_true h3, ?_⟩
  unfold gtA
  cases q : PySem.W.recIn K (prA K x f) "property" with
  | none =>
    rw [q] at h4
    cases h4
  | some l =>
    rw [q] at h4
    match l, h4 with
    | .ref g :: r, _ => exact ⟨r, rfl⟩
/-- the class x has no __class__ of its own -/
def clB (K : PySem.W.Frag) (x : Str) : Bool := He.eqO (PySem.W.findIn K (.ref (He.ga K x)) "__class__") (some (some (.builtin "object.__class__"))) &&
  (He.eqO (PySem.W.specialIn K (.builtin "object.__class__") "__get__") (some (some (.builtin "getset_descriptor.__get__"))) && (decide (PySem.W.takesIn K (.builtin "object.__class__") = some true) && decide (PySem.W.mroIn K (He.ga K x) (.type "object") = some true)))
/-- the text of a function at an address -/
def txt (K : PySem.W.Frag) (a : Addr) : He.FnW := match K.lookup a with
  | some o => (match o.data with
    | .func z => some (z.name, z.qualname, z.params, z.body, z.scope, z.globals, z.closure, z.builtins)
    | _ => none)
  | none => none
def isNn : Value → Bool
  | .none => true
  | _ => false
def txB (K : PySem.W.Frag) (a : Addr) (q : Str) : Bool := PySem.W.keepIn K (.ref a) && (match K.lookup a with
  | some o => (match o.data with
    | .func z => PySem.W.codeIn K z.code q && isNn z.defaults
    | _ => false)
  | none => false)
/-- a getter: its class, the property's name, its function's text -/
structure Gt where
  cl : Str
  pr : Str
  qual : Str
  params : Arguments
  body : List Stmt
  scope : Scope
def Gt.val (g : Gt) : He.FnW := some (g.pr, g.qual, g.params, .stmts g.body, g.scope, mainGlobals, [], builtinsNs)
theorem gt_fun {K : PySem.W.Frag} {g : Gt} {a : Addr} (e : txt K a = g.val) (c : txB K a g.qual = true) : ∃ z, FunD K g.pr g.qual g.params g.body g.scope [] [] a z := by
  obtain ⟨kp, c⟩ := He.ba c
  unfold txt at e
  cases q : K.lookup a with
  | none =>
    rw [q] at e
    cases e
  | some o =>
    obtain ⟨o1, o2, o3, o4⟩ := o
    rw [q] at e c
    cases o3 with
    | func z =>
      obtain ⟨z1, z2, z3, z4, z5, z6, z7, z8, z9, z10, z11, z12, z13, z14, z15⟩ := z
      have e2 : (some (z1, z2, z3, z4, z5, z6, z7, z15) : He.FnW) = some (g.pr, g.qual, g.params, .stmts g.body, g.scope, mainGlobals, [], builtinsNs) := e
      simp only [Option.some.injEq, Prod.mk.injEq] at e2
      obtain ⟨r1, r2, r3, r4, r5, r6, r7, r8⟩ := e2
      subst r1 r2 r3 r4 r5 r6 r7 r8
      obtain ⟨u1, u2⟩ := He.ba (show (PySem.W.codeIn K z13 _ && isNn z8) = true from c)
      cases z8 with
      | none => exact ⟨_, ⟨o1, o2, _, z9, z10, z11, z12, z13, z14, o4, rfl, q, u1, .inl ⟨rfl, rfl⟩, .inl rfl⟩, kp⟩
      | _ => cases u2
    | _ => cases c
/-! the hook: facts, defs, getters, one more test -/
abbrev AlR : Type := He.AlD × (Bool × List He.FnW)
def obsR (fa : List He.Fa) (fn : List He.DefD) (gs : List Gt) (ex : PySem.W.Frag → Bool) (K : PySem.W.Frag) : AlR :=
  (He.obsD fa fn K, (ex K && gs.all fun g => txB K (gtA K g.cl g.pr) g.qual, gs.map fun g => txt K (gtA K g.cl g.pr)))
def valR (fn : List He.DefD) (gs : List Gt) : AlR := (He.valD fn, (true, gs.map Gt.val))
def SaysR (fa : List He.Fa) (fn : List He.DefD) (gs : List Gt) (ex : PySem.W.Frag → Bool) (K : PySem.W.Frag) : Prop := obsR fa fn gs ex K = valR fn gs
def obsRG (n : Nat) (fa : List He.Fa) (fn : List He.DefD) (gs : List Gt) (ex : PySem.W.Frag → Bool) (g : Addr → Option Obj) : AlR := obsR fa fn gs ex (He.frG g (cStatics :: He.asD g n))
def hookR (n : Nat) (fa : List He.Fa) (fn : List He.DefD) (gs : List Gt) (ex : PySem.W.Frag → Bool) : PySem.W.Hook where
  α := AlR
  obs := fun s => obsRG n fa fn gs ex s.heap.get?
  val := fun _ => valR fn gs
  says := fun _ h => ∃ K : PySem.W.Frag, K.In h ∧ SaysR fa fn gs ex K
  of := fun _ _ e => ⟨_, He.frG_in, e⟩
  keeps := fun _ _ _ ⟨K, hK, c⟩ k => ⟨K, PySem.W.Frag.In.keeps hK k, c⟩
theorem obsRG_eq {n : Nat} {fa : List He.Fa} {fn : List He.DefD} {gs : List Gt} {ex : PySem.W.Frag → Bool} {g : Addr → Option Obj} {s : Shared} (h : ∀ a, g a = s.heap.get? a) : obsRG n fa fn gs ex g = (hookR n fa fn gs ex).obs s := by
  have e : g = s.heap.get? := funext h
  rw [e] <;> rfl
section
variable {fa : List He.Fa} {fn : List He.DefD} {gs : List Gt} {ex : PySem.W.Frag → Bool} {K : PySem.W.Frag}
theorem SaysR.d (c : SaysR fa fn gs ex K) : He.SaysD fa fn K := congrArg (fun z : AlR => z.1) c
theorem SaysR.x (c : SaysR fa fn gs ex K) : ex K = true := (He.ba (show (ex K && gs.all fun g => txB K (gtA K g.cl g.pr) g.qual) = true from congrArg (fun z : AlR => z.2.1) c)).1
theorem SaysR.g (c : SaysR fa fn gs ex K) (i : Nat) {g : Gt} (h : gs[i]? = some g := by rfl) : ∃ z, FunD K g.pr g.qual g.params g.body g.scope [] [] (gtA K g.cl g.pr) z := by
  have c1 := (He.ba (show (ex K && gs.all fun g => txB K (gtA K g.cl g.pr) g.qual) = true from congrArg (fun z : AlR => z.2.1) c)).2
  have e : gs.map (fun g => txt K (gtA K g.cl g.pr)) = gs.map Gt.val := congrArg (fun z : AlR => z.2.2) c
  have e2 : (gs.map fun g => txt K (gtA K g.cl g.pr))[i]? = (gs.map Gt.val)[i]? := by rw [e]
  rw [List.getElem?_map, List.getElem?_map, h] at e2
  exact gt_fun (Option.some.inj e2) (List.all_eq_true.mp c1 g (List.mem_of_getElem? h))
end
end Rv
namespace Rv
open PySem PySem.Spec PyProof.Rows L2
/-! ### the law's draws: a list of the cells, a place, a number in use, a seed -/
def DrawsAt (H : Hp) (d c : Addr) : Prop := ∃ (ns : List Int) (pos num seed : Int), H d = some (.lst [.ref c, .int pos, .int num, .int seed]) ∧ H c = some (.lst (ns.map V.int)) ∧ c ≠ d ∧ 0 ≤ pos ∧ 0 ≤ num ∧ 0 ≤ seed ∧ seed < 2147483647
theorem DrawsAt.new {H H' : Hp} {d c : Addr} (h : DrawsAt H d c) (e : Same H H') : DrawsAt H' d c := by
  obtain ⟨ns, pos, num, seed, h1, h2, h3⟩ := h
  exact ⟨ns, pos, num, seed, e _ _ h1, e _ _ h2, h3⟩
theorem DrawsAt.wr {H : Hp} {d c a : Addr} {o : HO} (h : DrawsAt H d c) (n1 : a ≠ d) (n2 : a ≠ c) : DrawsAt (upd H a o) d c := by
  obtain ⟨ns, pos, num, seed, h1, h2, h3⟩ := h
  exact ⟨ns, pos, num, seed, by rw [upd_ne n1.symm]; exact h1, by rw [upd_ne n2.symm]; exact h2, h3⟩
theorem DrawsAt.nd {H : Hp} {d c a : Addr} (h : DrawsAt H d c) (n : H a = none) : a ≠ d := by
  obtain ⟨ns, pos, num, seed, h1, h2, h3⟩ := h
  intro e
  rw [e, h1] at n
  cases n
theorem DrawsAt.nc {H : Hp} {d c a : Addr} (h : DrawsAt H d c) (n : H a = none) : a ≠ c := by
  obtain ⟨ns, pos, num, seed, h1, h2, h3⟩ := h
  intro e
  rw [e, h2] at n
  cases n
def spDraw (K : PySem.W.Frag) : Sp := fun vs H Q _ => ∃ (d c : Addr) (many : Int), vs = [.ref d, .int many] ∧ DrawsAt H d c ∧ 0 < many ∧ many < 2 ^ 200 ∧
  ∀ r H', 0 ≤ r → r < many → But d H H' → DrawsAt H' d c → Q (.int r) H'
def spDraws (K : PySem.W.Frag) : Sp := fun vs H Q _ => ∃ (a : Addr) (ns : List Int), vs = [.ref a] ∧ SqL K H a (ns.map V.int) ∧ ∀ d c H', H d = none → H c = none → Same H H' → DrawsAt H' d c → Q (.ref d) H'
theorem map_int_at {ns : List Int} {j : Nat} (h : j < ns.length) : (ns.map V.int)[j]? = some (V.int ns[j]) := by
  rw [List.getElem?_map, List.getElem?_eq_getElem h]
  rfl
theorem cell_at {ns : List Int} {z : Int} (h0 : 0 ≤ z) (h : z < ((ns.map V.int).length : Int)) : ∃ y, atI (ns.map V.int) z = some (V.int y) := by
  rw [List.length_map] at h
  have e : z = ((z.toNat : Nat) : Int) := (Int.toNat_of_nonneg h0).symm
  have q : (ns.map V.int)[z.toNat]? = some (V.int (ns[z.toNat]'(by omega))) := map_int_at (by omega)
  exact ⟨_, at_of e q⟩
theorem divw {i j : Int} (h : 0 < j) (hb : j < 2 ^ 200) : CDivW i j := by
  refine wide_div (b := 201) h ?_ (by decide) (by decide)
  have e : (2 : Int) ^ 200 = ((2 ^ 200 : Nat) : Int) := rfl
  have e2 : (2 ^ 200 : Nat) < 2 ^ 201 := by decide
  omega
theorem cut_map (ns : List Int) (lo hi : Option Int) : ∃ ms : List Int, cutV (ns.map V.int) lo hi = ms.map V.int := by
  unfold cutV
  rw [← List.map_drop, ← List.map_take]
  exact ⟨_, rfl⟩
def t__law_draws (K : PySem.W.Frag) : TS :=
  (tRet (tLst (tCons (tSl (rSlL K) (tVar 0) tNoPart (tPart (tC (.int 63)))) (tCons (tC (.int 0)) (tCons (tC (.int 0)) (tCons (tC (.int 5)) tNil))))))
def t__law_draw (K : PySem.W.Frag) : TS :=
  (tSeq (tAsg (tOp (rIxL K) (tVar 0) (tC (.int 0))) (gName 2))
    (tSeq (tIfS (tAnd (tTest (tOp rEq (tOp (rIxL K) (tVar 0) (tC (.int 2))) (tC (.int 0)))) (tAnd (tTest (tOp oLt (tOp (rIxL K) (tVar 0) (tC (.int 1))) (tCB (cLen K) (tCons (tVar 2) tNil)))) (tTest (tOp oGe (tOp (rIxL K) (tVar 2) (tOp (rIxL K) (tVar 0) (tC (.int 1)))) (tOp oPow (tC (.int 10)) (tC (.int 18))))))) (tSeq (tAsg (tOp (rIxL K) (tVar 2) (tOp (rIxL K) (tVar 0) (tC (.int 1)))) (gSub (tVar 0) (tC (.int 2)) rSetL))
    (tAsg (tOp oAdd (tOp (rIxL K) (tVar 0) (tC (.int 1))) (tC (.int 1))) (gSub (tVar 0) (tC (.int 1)) rSetL))) tNext)
    (tSeq (tIfS (tTest (tOp oGt (tOp (rIxL K) (tVar 0) (tC (.int 2))) (tC (.int 0)))) (tSeq (tAsg (tOp oMod (tOp (rIxL K) (tVar 0) (tC (.int 2))) (tVar 1)) (gName 3))
    (tSeq (tAsg (tOp oDiv (tOp (rIxL K) (tVar 0) (tC (.int 2))) (tVar 1)) (gSub (tVar 0) (tC (.int 2)) rSetL))
    (tRet (tVar 3)))) tNext)
    (tSeq (tAsg (tC (.int 0)) (gName 4))
    (tSeq (tIfS (tTest (tOp oLt (tOp (rIxL K) (tVar 0) (tC (.int 1))) (tCB (cLen K) (tCons (tVar 2) tNil)))) (tSeq (tAsg (tOp (rIxL K) (tVar 2) (tOp (rIxL K) (tVar 0) (tC (.int 1)))) (gName 4))
    (tAsg (tOp oAdd (tOp (rIxL K) (tVar 0) (tC (.int 1))) (tC (.int 1))) (gSub (tVar 0) (tC (.int 1)) rSetL))) tNext)
    (tSeq (tAsg (tOp oMod (tOp oAdd (tOp oAdd (tOp oMul (tOp (rIxL K) (tVar 0) (tC (.int 3))) (tC (.int 48271))) (tOp oMod (tVar 4) (tC (.int 1999993)))) (tC (.int 11))) (tC (.int 2147483647))) (gSub (tVar 0) (tC (.int 3)) rSetL))
    (tSeq (tAsg (tOp oMod (tOp oPow (tOp (rIxL K) (tVar 0) (tC (.int 3))) (tC (.int 5))) (tC (.int 2147483647))) (gName 5))
    (tSeq (tIfS (tTest (tOp oGt (tVar 1) (tOp oPow (tC (.int 10)) (tC (.int 9))))) (tAsg (tOp oAdd (tOp oPow (tVar 5) (tC (.int 4))) (tVar 5)) (gName 5)) tNext)
    (tRet (tOp oMod (tVar 5) (tVar 1)))))))))))
local macro_rules | `(tactic| walk_at "rv st") => `(tactic| first
  | with_reducible refine iteT ?_ | with_reducible refine iteF ?_ | with_reducible refine w_nx ?_ | with_reducible refine w_yes ?_ | with_reducible refine w_rt ?_ | with_reducible refine iteNT ?_ | with_reducible refine iteNF ?_ | with_reducible refine iteNRf ?_ | with_reducible refine iteRf ?_ | with_reducible refine w_seqA ?_ | with_reducible refine w_seqD ?_ | with_reducible refine w_seqP ?_ | with_reducible refine w_asg ?_ | with_reducible refine w_ret ?_ | with_reducible refine w_drop ?_ | with_reducible refine w_ifs ?_ | with_reducible refine w_next ?_ | with_reducible refine w_par ?_
  | with_reducible refine w_op ?_ | with_reducible refine w_un ?_ | ((with_reducible show tVar _ _ _ _); refine' w_var ?hv ?_; (case hv => exact rfl)) | with_reducible refine w_c ?_ | with_reducible refine w_test ?_ | with_reducible refine w_tB ?_
  | with_reducible refine w_bl ?_ | with_reducible refine w_I0 ?_ | with_reducible refine w_U ?_ | with_reducible refine w_eqI ?_ | with_reducible refine w_neI ?_
  | with_reducible refine w_cons ?_ | with_reducible refine w_nil ?_ | with_reducible refine w_gn ?_ | with_reducible refine w_gsub ?_ | with_reducible refine w_and ?_ | with_reducible refine w_or ?_ | with_reducible refine w_not ?_
  | with_reducible refine w_andV ?_ | with_reducible refine w_orV ?_ | with_reducible refine w_notV ?_ | with_reducible refine w_if ?_ | with_reducible refine w_cb ?_ | with_reducible refine w_call ?_ | with_reducible refine w_lst ?_ | with_reducible refine w_tup ?_
  | with_reducible refine w_sl ?_ | with_reducible refine w_noPart ?_ | with_reducible refine w_part ?_ | with_reducible refine w_ex1 ?_ | with_reducible refine w_exb ?_ | with_reducible refine w_intB ?_ | with_reducible refine w_intI ?_ | with_reducible refine w_abs ?_)
local macro_rules | `(tactic| walk_at "rv ix") => `(tactic| ((with_reducible show rIxL _ _ _ _ _); refine' w_ixL (sq_lst ?ha) ?hb ?_; (case ha => first | exact upd_same | assumption); (case hb => first | exact rfl | assumption)))
local macro_rules | `(tactic| walk_at "rv ar") => `(tactic| first
  | (refine' w_I ?hc ?_; (case hc => first | (show (0 : Int) < _; first | assumption | decide | omega) | exact pow_c (by decide) (by decide) (by first | decide | omega) (by first | decide | omega) | exact mul_r (by first | decide | omega) (by first | decide | omega) | exact mul_l (by first | decide | omega) (by first | decide | omega) | exact divw (by first | assumption | decide | omega) (by first | assumption | decide | omega))))
local macro_rules | `(tactic| walk_at "rv go") => `(tactic| repeat first | walk_at "rv st" | walk_at "rv ix" | ((with_reducible show rI _ _ _ _ _ _); walk_at "rv ar"))
theorem p_draws {K : PySem.W.Frag} {vs : List V} {H : Hp} {Q : VK} {E : XK} (h : spDraws K vs H Q E) : t__law_draws K { nx := fun _ H' => Q .non H', rt := Q } (start ["_law_script"] vs) H := by
  obtain ⟨a, ns, rfl, hS, k⟩ := h
  unfold t__law_draws
  walk_at "rv go"
  refine w_slL hS fun p np => ?_
  walk_at "rv go"
  refine ⟨szl (by simp), fun q nq => ?_⟩
  have npq : p ≠ q := fun e => by
    rw [e, upd_same] at nq
    cases nq
  have nH : H q = none := by
    rw [upd_ne npq.symm] at nq
    exact nq
  obtain ⟨ms, em⟩ := cut_map ns none (some 63)
  refine k q p _ nH np (same_new (same_new (Same.refl H) np) nq) ⟨ms, 0, 0, 5, upd_same, ?_, npq, by decide, by decide, by decide, by decide⟩
  rw [upd_ne npq, upd_same, em]
theorem p_draw {K : PySem.W.Frag} {vs : List V} {H : Hp} {Q : VK} {E : XK} (h : spDraw K vs H Q E) : t__law_draw K { nx := fun _ H' => Q .non H', rt := Q } (start ["_law_draws_here", "_law_many", "_law_cells", "_law_value", "_law_cell", "_law_mixed"] vs) H := by
  obtain ⟨d, c, many, rfl, ⟨ns, pos, num, seed, hd, hc, ncd, hp, hn, hs, hs2⟩, hm, hm2, k⟩ := h
  have e18 : (0 : Int) < 10 ^ (18 : Int).toNat := by decide
  have sqc : ∀ {H1 : Hp}, But d H H1 → SqL K H1 c (ns.map V.int) := fun e => sq_lst (e _ _ ncd hc)
  unfold t__law_draw
  walk_at "rv go"
  -- a number is taken from the cells, or not
  refine w_cut (fun σ' H1 => ∃ pos num : Int, σ' = [some (.ref d), some (.int many), some (.ref c), none, none, none] ∧ H1 d = some (.lst [.ref c, .int pos, .int num, .int seed]) ∧ But d H H1 ∧ 0 ≤ pos ∧ 0 ≤ num) (fun N key => ?_) ?_
  · refine w_ifs ?_
    walk_at "rv go"
    refine w_both (fun h1 => ?_) (fun h1 => ?_)
    · walk_at "rv go"
      refine w_lenL (sq_lst hc) ?_
      walk_at "rv go"
      refine w_both (fun h2 => ?_) (fun h2 => ?_)
      · obtain ⟨y, hy⟩ := cell_at hp h2
        walk_at "rv go"
        refine w_both (fun h3 => ?_) (fun h3 => ?_)
        · walk_at "rv go"
          refine w_setL hd rfl ?_
          walk_at "rv go"
          refine w_setL upd_same rfl ?_
          refine key _ _ ⟨pos + 1, y, rfl, upd_same, (But.refl d H).wr.wr, by omega, by omega⟩
        · walk_at "rv go"
          exact key _ _ ⟨pos, num, rfl, hd, But.refl d H, hp, hn⟩
      · walk_at "rv go"
        exact key _ _ ⟨pos, num, rfl, hd, But.refl d H, hp, hn⟩
    · walk_at "rv go"
      exact key _ _ ⟨pos, num, rfl, hd, But.refl d H, hp, hn⟩
  · rintro σ1 H1 ⟨pos, num, rfl, hd, b1, hp, hn⟩
    refine w_seq ?_
    walk_at "rv go"
    refine w_both (fun h1 => ?_) (fun h1 => ?_)
    · -- a digit of the number
      walk_at "rv go"
      refine w_setL hd rfl ?_
      walk_at "rv go"
      refine k _ _ (Int.emod_nonneg _ (by omega)) (Int.emod_lt_of_pos _ hm) b1.wr ⟨ns, pos, num / many, seed, upd_same, b1.wr _ _ ncd hc, ncd, hp, Int.ediv_nonneg hn (by omega), hs, hs2⟩
    · -- from the seed
      walk_at "rv go"
      refine w_cut (fun σ' H2 => ∃ pos cell : Int, σ' = [some (.ref d), some (.int many), some (.ref c), none, some (.int cell), none] ∧ H2 d = some (.lst [.ref c, .int pos, .int num, .int seed]) ∧ But d H H2 ∧ 0 ≤ pos) (fun N key => ?_) ?_
      · walk_at "rv go"
        refine w_lenL (sqc b1) ?_
        walk_at "rv go"
        refine w_both (fun h2 => ?_) (fun h2 => ?_)
        · obtain ⟨y, hy⟩ := cell_at hp h2
          walk_at "rv go"
          refine w_ixL (sqc b1) hy ?_
          walk_at "rv go"
          refine w_setL hd rfl ?_
          exact key _ _ ⟨pos + 1, y, rfl, upd_same, b1.wr, by omega⟩
        · refine w_next ?_
          exact key _ _ ⟨pos, 0, rfl, hd, b1, hp⟩
      · rintro σ2 H2 ⟨pos, cell, rfl, hd, b2, hp⟩
        walk_at "rv go"
        refine w_setL hd rfl ?_
        have s1 : 0 ≤ (seed * 48271 + cell % 1999993 + 11) % 2147483647 := Int.emod_nonneg _ (by decide)
        have s2 : (seed * 48271 + cell % 1999993 + 11) % 2147483647 < 2147483647 := Int.emod_lt_of_pos _ (by decide)
        generalize (seed * 48271 + cell % 1999993 + 11) % 2147483647 = sd at s1 s2
        walk_at "rv go"
        have m1 : 0 ≤ sd ^ (5 : Int).toNat % 2147483647 := Int.emod_nonneg _ (by decide)
        have m2 : sd ^ (5 : Int).toNat % 2147483647 < 2147483647 := Int.emod_lt_of_pos _ (by decide)
        generalize sd ^ (5 : Int).toNat % 2147483647 = mx at m1 m2
        have fin : ∀ z : Int, Q (.int (z % many)) (upd H2 d (.lst [.ref c, .int pos, .int num, .int sd])) := fun z =>
          k _ _ (Int.emod_nonneg _ (by omega)) (Int.emod_lt_of_pos _ hm) b2.wr ⟨ns, pos, num, sd, upd_same, b2.wr _ _ ncd hc, ncd, hp, hn, s1, s2⟩
        refine w_seq ?_
        refine w_ifs ?_
        walk_at "rv go"
        refine w_both (fun h2 => ?_) (fun h2 => ?_)
        · walk_at "rv go"
          exact fin _
        · walk_at "rv go"
          exact fin _
end Rv
/-! enumerate of a tuple, and of a list or a tuple. -/
namespace PySem
open Sem (wp)
open AutoSeq1 (wpAny_loadPart')
theorem rv_enum_newT (l : Addr) (items : Array Value) (n : Nat) (dct : Option Addr) (sl : Array (Option Value)) :
    Meets (Builtin.«enumerate.__new__» ⟨[.type "enumerate", .ref l], []⟩) (fun _ R s => s.heap.get? l = some { cls := .type "tuple", dict := dct, data := .seq items n, slots := sl } ∧
      R (.ok (.ret (.ref (s.heap.push { cls := .type "tuple_iterator", data := .fields #[.ref l, .int 0 0] }).objs.size)))
        { s with heap := (s.heap.push { cls := .type "tuple_iterator", data := .fields #[.ref l, .int 0 0] }).push { cls := .type "enumerate", data := .fields #[.none, .bool false, .ref s.heap.objs.size, rawInt 0, .none, .none] } }) :=
  .of_wp fun prog w A R s h => by
    obtain ⟨hp, g, d, tk, os⟩ := s
    obtain ⟨hl, h⟩ := h
    have hsub := sub_enumerate
    have hL : Heap.IsTuple (Shared.heap ⟨hp, g, d, tk, os⟩) l items := ⟨_, hl, rfl, n, rfl⟩
    wp_walk using wpAny_loadPart' hl
    refine wpAny_stack_any fun st => wpAny_pure ?_
    split
    · rename_i c _ _ _ _ _
      cases (c == Value.type "enumerate")
      · wp_walk using wpAny_loadPart' hl, wpAny_pyIter_tuple hL
        exact ⟨_, rfl, h⟩
      · wp_walk using wpAny_loadPart' hl, wpAny_pyIter_tuple hL
        exact ⟨_, rfl, h⟩
    · wp_walk using wpAny_loadPart' hl, wpAny_pyIter_tuple hL
      exact ⟨_, rfl, h⟩
section
variable {prog : Program} {w : World} {A : Around} {E : Value → Shared → Prop} {s : Shared}
theorem rv_call_enumT {l : Addr} {items : Array Value} {Q : Value → Shared → Prop} (hL : s.heap.IsTuple l items)
    (h : ∀ h', IsEnum h' (s.heap.objs.size + 1) s.heap.objs.size 0 .none → h'.IsTupleIter s.heap.objs.size l 0 → h'.objs.size = s.heap.objs.size + 2 →
      (∀ b o, s.heap.get? b = some o → h'.get? b = some o) → Q (.ref (s.heap.objs.size + 1)) { s with heap := h' }) :
    wpAny (model prog w) A (call (.type "enumerate") [.ref l]) Q E s := by
  obtain ⟨⟨c, dct, dt, sl⟩, hl, hc, n, hd⟩ := hL
  replace hc : c = .type "tuple" := hc
  replace hd : dt = .seq items n := hd
  subst hc hd
  refine callType_new F.called_enumerate (by decide) (F.typeCall_enumerate_1 _) (F.newCall_enumerate_1 _) (fun obj => F.args_object_init_2 obj _) F.entry_enumerate_new
    (rv_enum_newT l items n dct sl) ⟨hl, ?_⟩
  have hz : (s.heap.push { cls := .type "tuple_iterator", data := .fields #[.ref l, .int 0 0] }).objs.size = s.heap.objs.size + 1 := Heap.size_push ..
  show _ ∧ _
  rw [hz]
  have he : IsEnum ((s.heap.push { cls := .type "tuple_iterator", data := .fields #[.ref l, .int 0 0] }).push
      { cls := .type "enumerate", data := .fields #[.none, .bool false, .ref s.heap.objs.size, rawInt 0, .none, .none] }) (s.heap.objs.size + 1) s.heap.objs.size 0 .none := by
    have := Heap.get?_push_size (s.heap.push { cls := .type "tuple_iterator", data := .fields #[.ref l, .int 0 0] })
      (o := { cls := .type "enumerate", data := .fields #[.none, .bool false, .ref s.heap.objs.size, rawInt 0, .none, .none] }) rfl
    rw [hz] at this
    exact this
  refine ⟨⟨_, he, rfl⟩, h _ he ⟨_, Heap.get?_push_of_some _ (Heap.get?_push_size _ rfl), rfl, rfl⟩ (by rw [Heap.size_push, hz]) fun b o x => Heap.get?_push_of_some _ (Heap.get?_push_of_some _ x)⟩
theorem rv_enum_endT {e it l : Addr} {i : Nat} {items : Array Value} {old : Value} {Q : Option Value → Shared → Prop} (hh : A.handled = none)
    (he : IsEnum s.heap e it i old) (hit : s.heap.IsTupleIter it l i) (hl : s.heap.IsTuple l items) (hx : items[i]? = none)
    (hQ : ∀ h', Heap.ExtBut it s.heap h' → Q none { s with heap := h' }) : wpAny (model prog w) A (pyNext (.ref e)) Q E s := by
  have hT : s.TypeIs (.ref e) "enumerate" := ⟨_, he, rfl⟩
  unfold pyNext
  refine wpAny_bind (wpAny_attempt (wpAny_callSpecial?_slot (name := Str.ofString "__next__") hT F.slot_enumerate_next
    (wpAny_call_entry F.slot_enumerate_next hT F.entry_enumerate_next ?_ (F.args_enumerate_next_1 _))))
  show wpAny _ _ (field (.ref e) 2 >>= _) _ _ _
  refine wpAny_bind (wpAny_field he rfl (x := .ref it) rfl ?_)
  refine wpAny_bind (wpAny_nextOf_tuple_end hh hit hl hx fun h' x he' hx' => ?_)
  obtain ⟨o, ho, hc⟩ := hx'
  refine wpAny_bind (wpAny_isInstance (T := "StopIteration") (b := true) ⟨o, ho, hc⟩ isSubtype_stop ?_)
  exact wpAny_pure (hQ _ he')
end
end PySem
namespace Rv
open PySem PySem.Spec PyProof.Rows L2
/-- the tuple at a, each item in a new pair -/
def IteT (K : PySem.W.Frag) (a : Addr) : It :=
  ⟨fun i H => ∃ (xs : List V) (x : V), SqT K H a xs ∧ xs[i]? = some x, fun i H v H' => ∃ T x, v = .ref T ∧ H T = none ∧ H' = upd H T (.tup [.int (i : Nat), x]) ∧ ∀ xs, SqT K H a xs → xs[i]? = some x, fun i H => ∃ xs : List V, SqT K H a xs ∧ xs.length ≤ i⟩
theorem turn_enumT {P : Program} {w : World} {K : PySem.W.Frag} {elts : List Expr} {kk : Nat} {tpos : Pos} (a e it : Addr) :
    Turn P w K (.Tuple elts kk tpos) (IteT K a) [e, it] e (fun i h => (∃ old, IsEnum h e it ((i : Nat) : Int) old) ∧ h.IsTupleIter it a i ∧ e ≠ it ∧ a ≠ it ∧ e ≠ a) where
  mem := by simp
  obj := fun i h st b hb => by
    obtain ⟨⟨old, he⟩, ⟨o, ho, hc, hd⟩, _⟩ := st
    have e' : b = e ∨ b = it := by simpa using hb
    rcases e' with z | z
    · rw [z]
      exact ⟨_, he, fun v q => nomatch q⟩
    · rw [z]
      exact ⟨o, ho, fun v q => by rw [hd] at q; cases q⟩
  keep := fun i h h' st k => let ⟨⟨old, he⟩, hi, hne⟩ := st; ⟨⟨old, k e (by simp) _ he⟩, hi.at fun o q => k it (by simp) o q, hne⟩
  item := by
    intro X hP hw hK hc i pins s σ H E I hf st hg
    subst hP hw hK
    obtain ⟨⟨old, he⟩, hit, hne, hai, hea⟩ := st
    obtain ⟨xs, x, hq, hx⟩ := hg
    obtain ⟨its, rv, p, hz⟩ := I.tuple hq
    obtain ⟨u, hu, ru⟩ := rv.get hx
    have hel : e < s.heap.objs.size := Heap.lt_size he
    have hil : it < s.heap.objs.size := by obtain ⟨_, q, _⟩ := hit; exact Heap.lt_size q
    have hil2 : i < its.toArray.size := by
      rw [List.size_toArray]
      exact (List.getElem?_eq_some_iff.mp hu).1
    refine wpAny_pyNext_enum_itemD (Draws.tuple (A := X.A.in1) (I.ok.hd hc) it a hai its.toArray) he ⟨hit, p⟩ hil2 hne (by simp [hne, hea]) fun u' h' tk hu' ho hst' hT hsz hk => ?_
    obtain ⟨hit', _⟩ := hst'
    have eu : u' = u := by
      have h1 : its[i]? = some u' := by simpa using hu'
      rw [hu] at h1
      exact (Option.some.inj h1).symm
    subst eu
    refine ⟨_, rfl, wpAny_letOwnedTupleGo_enum (s := { s with heap := h', toks := tk + 1 }) ho fun h'' he' sb => ?_⟩
    have hT2 : h''.get? s.heap.objs.size = some { cls := .type "tuple", data := .seq #[.int i tk, u'] } := (sb.2 _ (Nat.ne_of_gt hel)).trans hT
    have new : ObjOk X.prog X.w (upd H s.heap.objs.size (.tup [.int (i : Nat), x])) h'' s.heap.objs.size (.tup [.int (i : Nat), x]) :=
      ⟨by show 2 ≤ sizeLine; decide, [.int i tk, u'], .cons ⟨_, rfl⟩ (.cons ru .nil), ⟨_, hT2, rfl, _, rfl⟩⟩
    have I1 : Inv X pins σ (upd H s.heap.objs.size (.tup [.int (i : Nat), x])) { s with heap := h'', toks := tk + 1 } :=
      I.turnedNew (t' := tk + 1) (ch := [e, it]) (fun b ob hb q => (sb.2 b (fun z => hb (by simp [z]))).trans (hk b ob (fun z => hb (by simp [z])) (fun z => hb (by simp [z])) q)) hf (Nat.le_refl _) new
    refine ⟨.ref s.heap.objs.size, _, I1, rfl, ⟨_, x, rfl, I.hok.fresh (Nat.le_refl _), rfl, fun ys hy => by rw [I.tuple_inj hy hq]; exact hx⟩, ⟨⟨u', ?_⟩, hit'.at fun o q => (sb.2 it (Ne.symm hne)).trans q, hne, hai, hea⟩, fun b hb => ?_⟩
    · have e1 : ((i + 1 : Nat) : Int) = (i : Int) + 1 := by omega
      rw [e1]
      exact he'
    · have hb' : b < s.heap.objs.size := by
        have e' : b = e ∨ b = it := by simpa using hb
        rcases e' with z | z
        · rw [z]; exact hel
        · rw [z]; exact hil
      rw [upd_ne (Nat.ne_of_lt hb')]
      exact (hf b hb).1
  done := by
    intro X hP hw hK hc i pins s σ H E I hf st hg
    subst hP hw hK
    obtain ⟨⟨old, he⟩, hit, hne, hai, hea⟩ := st
    obtain ⟨xs, hq, hx⟩ := hg
    obtain ⟨its, rv, p, hz⟩ := I.tuple hq
    obtain ⟨f0, f1, f2, f3, f4, f5⟩ := hf it (by simp)
    have hl := rv.length
    exact rv_enum_endT (I.ok.hd hc) he hit (show s.heap.IsTuple a its.toArray from p) (by simp; omega) fun h' eb => ⟨rfl, I.turned (t' := s.toks) (fun b o hb q => eb b o hb q) f0 f1 f3 f4 f5⟩
  self := fun A i s Q E st h => let ⟨⟨_, he⟩, _⟩ := st; wpAny_pyIter_enum he h
/-- enumerate of a list or a tuple -/
def iEnumA (K : PySem.W.Frag) (ta : TA) : TI := fun σ H R => ta σ H fun vs H1 => ∃ a xs, vs = [.ref a] ∧ ((SqL K H1 a xs ∧ R (Ite K a) H1) ∨ (SqT K H1 a xs ∧ R (IteT K a) H1))
theorem pi_enumA {X : Cx} {e : Expr} {ta : TA} {p pos tpos : Pos} {elts : List Expr} {kk : Nat} (hg : Gl X "enumerate") (hm : X.mg "enumerate" = none) (ha : PA X [e] ta) (hs : starEach [e] X.env = [(false, eval e X.env)] := by rfl) :
    PI X (.Tuple elts kk tpos) (.Call (.Name "enumerate" p) [e] [] pos) (iEnumA X.K ta) := by
  refine ⟨fun pins s σ H R I h => ?_⟩
  refine Call_ (ld_blt I hg hm boot_enumerate (PyProof.Rows.callWith_type1 (thn (ha.run pos pins s σ H _ I h) fun us s1 ⟨vs, H1, I1, r1, q1⟩ => ?_) hs rfl))
  obtain ⟨a, xs, ex, hq⟩ := q1
  subst ex
  cases r1 with
  | cons r rr =>
    cases rr
    cases r
    rcases hq with ⟨hq, q⟩ | ⟨hq, q⟩
    · obtain ⟨its, rv, p', hz⟩ := I1.list hq
      refine call_enumerate_list p'.isList fun h' he hit hsz hk => wpAny_pyIter_enum he ?_
      have I2 : Inv X pins σ H1 { s1 with heap := h' } := I1.kept (t' := s1.toks) hk
      refine ⟨s1.heap.objs.size + 1, [s1.heap.objs.size + 1, s1.heap.objs.size], _, _, H1, rfl, I2, turn_enum a (s1.heap.objs.size + 1) s1.heap.objs.size, ⟨⟨.none, he⟩, hit, Nat.succ_ne_self _⟩, fun b hb => ?_, q⟩
      have e' : b = s1.heap.objs.size + 1 ∨ b = s1.heap.objs.size := by simpa using hb
      have hle : s1.heap.objs.size ≤ b := by
        rcases e' with z | z
        · rw [z]; exact Nat.le_add_right _ _
        · rw [z]; exact Nat.le_refl _
      exact I1.fpOk hle (I1.hok.fresh hle)
    · obtain ⟨its, rv, p', hz⟩ := I1.tuple hq
      have al : a < s1.heap.objs.size := by
        obtain ⟨_, q1, _⟩ := p'
        exact Heap.lt_size q1
      refine rv_call_enumT (show s1.heap.IsTuple a its.toArray from p') fun h' he hit hsz hk => wpAny_pyIter_enum he ?_
      have I2 : Inv X pins σ H1 { s1 with heap := h' } := I1.kept (t' := s1.toks) hk
      refine ⟨s1.heap.objs.size + 1, [s1.heap.objs.size + 1, s1.heap.objs.size], _, _, H1, rfl, I2, turn_enumT a (s1.heap.objs.size + 1) s1.heap.objs.size, ⟨⟨.none, he⟩, hit, Nat.succ_ne_self _, Nat.ne_of_lt al, Nat.ne_of_gt (Nat.lt_succ_of_lt al)⟩, fun b hb => ?_, q⟩
      have e' : b = s1.heap.objs.size + 1 ∨ b = s1.heap.objs.size := by simpa using hb
      have hle : s1.heap.objs.size ≤ b := by
        rcases e' with z | z
        · rw [z]; exact Nat.le_add_right _ _
        · rw [z]; exact Nat.le_refl _
      exact I1.fpOk hle (I1.hok.fresh hle)
section
variable {K : PySem.W.Frag} {σ : L2.St} {H : Hp} {Q : VK} {D : Ends} {tr : TA} {g : TG} {s1 : TS} {a : Addr} {xs : List V}
/-- for i, x in enumerate(a list or a tuple): each turn has a new pair -/
theorem w_forEA (ha : ∀ AQ : List V → Hp → Prop, AQ [.ref a] H → tr σ H AQ) (hx : SqL K H a xs ∨ SqT K H a xs) (Pv : Nat → L2.St → Hp → Prop) (h0 : Pv 0 σ H) (hl : ∀ i σ' H', Pv i σ' H' → (SqL K H a xs → SqL K H' a xs) ∧ (SqT K H a xs → SqT K H' a xs))
    (hs : ∀ i x T σ' H', xs[i]? = some x → Pv i σ' H' → H' T = none → g (.ref T) σ' (upd H' T (.tup [.int (i : Int), x])) fun σ2 H2 => s1 { D with nx := Pv (i + 1), ct := Pv (i + 1), bk := D.nx } σ2 H2)
    (hd : ∀ σ' H', Pv xs.length σ' H' → D.nx σ' H') : tFor (iEnumA K tr) g s1 D σ H := by
  rcases hx with hx | hx
  · refine ha _ ⟨a, xs, rfl, .inl ⟨hx, fun i m σ' H' => m = xs.length - i ∧ i ≤ xs.length ∧ Pv i σ' H', ⟨xs.length, by simp, Nat.zero_le _, h0⟩, ?_⟩⟩
    rintro i m σ' H' ⟨rfl, hi, q⟩
    have hq := (hl i σ' H' q).1 hx
    by_cases hlt : i < xs.length
    · refine .inr ⟨⟨xs, xs[i], hq, List.getElem?_eq_getElem hlt⟩, fun σ2 H2 => Pv (i + 1) σ2 H2, fun σ2 H2 q2 => ⟨xs.length - (i + 1), by omega, rfl, hlt, q2⟩, ?_⟩
      rintro x H2 ⟨T, z, rfl, nT, rfl, hz⟩
      exact hs i z T σ' H' (hz xs hq) q nT
    · have e : i = xs.length := by omega
      subst e
      exact .inl ⟨⟨xs, hq, Nat.le_refl _⟩, hd σ' H' q⟩
  · refine ha _ ⟨a, xs, rfl, .inr ⟨hx, fun i m σ' H' => m = xs.length - i ∧ i ≤ xs.length ∧ Pv i σ' H', ⟨xs.length, by simp, Nat.zero_le _, h0⟩, ?_⟩⟩
    rintro i m σ' H' ⟨rfl, hi, q⟩
    have hq := (hl i σ' H' q).2 hx
    by_cases hlt : i < xs.length
    · refine .inr ⟨⟨xs, xs[i], hq, List.getElem?_eq_getElem hlt⟩, fun σ2 H2 => Pv (i + 1) σ2 H2, fun σ2 H2 q2 => ⟨xs.length - (i + 1), by omega, rfl, hlt, q2⟩, ?_⟩
      rintro x H2 ⟨T, z, rfl, nT, rfl, hz⟩
      exact hs i z T σ' H' (hz xs hq) q nT
    · have e : i = xs.length := by omega
      subst e
      exact .inl ⟨⟨xs, hq, Nat.le_refl _⟩, hd σ' H' q⟩
end
end Rv
namespace Rv
open PySem PySem.Spec PyProof.Rows L2
theorem draw_call {K : PySem.W.Frag} {H : Hp} {Q : VK} {E : XK} {d c : Addr} {many : Int} (h : DrawsAt H d c) (h1 : 0 < many) (h2 : many < 2 ^ 200) (k : ∀ r H', 0 ≤ r → r < many → But d H H' → DrawsAt H' d c → Q (.int r) H') :
    spDraw K ([.ref d, .int many] ++ []) H Q E := ⟨d, c, many, rfl, h, h1, h2, k⟩
/-- a height, a width of the law -/
def HOk1 (z : Int) : Prop := -1000000000000000000000000000000 ≤ z ∧ z ≤ 1000000000000000000000000000000
def WOk1 (z : Int) : Prop := 1 ≤ z ∧ z ≤ 1000000000000000000000000000000
def spHeights (K : PySem.W.Frag) : Sp := fun vs H Q _ => ∃ d c, vs = [.ref d] ∧ DrawsAt H d c ∧
  ∀ p H' (hs : List Int), 1 ≤ hs.length → hs.length ≤ 60 → (∀ z ∈ hs, HOk1 z) → But d H H' → DrawsAt H' d c → H p = none → H' p = some (.lst (hs.map V.int)) → Q (.ref p) H'
def spWidths (K : PySem.W.Frag) : Sp := fun vs H Q _ => ∃ d c, ∃ n : Nat, vs = [.ref d, .int (n : Int)] ∧ n ≤ 60 ∧ DrawsAt H d c ∧
  ∀ p H' (ws : List Int), ws.length = n → (∀ z ∈ ws, WOk1 z) → But d H H' → DrawsAt H' d c → H p = none → H' p = some (.lst (ws.map V.int)) → Q (.ref p) H'
theorem map_app (l : List Int) (z : Int) : l.map V.int ++ [V.int z] = (l ++ [z]).map V.int := by rw [List.map_append]; rfl
/-! values: is it an integer -/
inductive Whole (K : PySem.W.Frag) (H : Hp) : V → Prop where
  | int (i : Int) : Whole K H (.int i)
  | bl (b : Bool) : Whole K H (.bl b)
  | other {v : V} {t : Value} (h : TyX K H v t) (k : PySem.W.kitOne K t (.type "int") = some false) (n1 : ∀ i, v ≠ .int i) : Whole K H v
def isI : V → Bool
  | .int _ => true
  | _ => false
def inI (lo hi : Int) : V → Bool
  | .int i => decide (lo ≤ i) && decide (i ≤ hi)
  | _ => false
def spWhole (K : PySem.W.Frag) : Sp := fun vs H Q _ => ∃ v, vs = [v] ∧ Whole K H v ∧ Q (.bl (isI v)) H
def spWithin (K : PySem.W.Frag) : Sp := fun vs H Q _ => ∃ v lo hi, vs = [v, .int lo, .int hi] ∧ Whole K H v ∧ Q (.bl (inI lo hi v)) H
/-- the first place whose value is not within, if any, from place n on -/
def outs (lo hi : Int) : List V → Nat → V
  | [], _ => .non
  | v :: r, n => if inI lo hi v = true then outs lo hi r (n + 1) else .int (n : Int)
def spOutside (K : PySem.W.Frag) : Sp := fun vs H Q _ => ∃ a lo hi xs, vs = [.ref a, .int lo, .int hi] ∧ (SqL K H a xs ∨ SqT K H a xs) ∧ (∀ x ∈ xs, Whole K H x) ∧ ∀ H', Same H H' → Q (outs lo hi xs 0) H'
theorem outs_none {lo hi : Int} : ∀ {xs : List V} {n : Nat}, (∀ x ∈ xs, inI lo hi x = true) → outs lo hi xs n = .non
  | [], _, _ => rfl
  | x :: r, n, h => by
    unfold outs
    rw [if_pos (h x List.mem_cons_self)]
    exact outs_none fun y hy => h y (List.mem_cons_of_mem _ hy)
theorem isi_of {K : PySem.W.Frag} {H : Hp} {Q : VK} {x c : V} {t u : Value} {b : Bool} (h1 : ClsV c u) (h2 : TyX K H x t) (h3 : PySem.W.kitOne K t u = some b) (q : Q (.bl b) H) : rIsi K [x, c] H Q := ⟨x, c, t, u, b, rfl, h1, h2, h3, q⟩
theorem kit_ii {K : PySem.W.Frag} : PySem.W.kitOne K (.type "int") (.type "int") = some true := kit_ty (by decide +kernel)
theorem kit_ib {K : PySem.W.Frag} : PySem.W.kitOne K (.type "int") (.type "bool") = some false := kit_ty (by decide +kernel)
theorem kit_bi {K : PySem.W.Frag} : PySem.W.kitOne K (.type "bool") (.type "int") = some true := kit_ty (by decide +kernel)
theorem kit_bb {K : PySem.W.Frag} : PySem.W.kitOne K (.type "bool") (.type "bool") = some true := kit_ty (by decide +kernel)
theorem kit_ll {K : PySem.W.Frag} : PySem.W.kitOne K (.type "list") (.type "list") = some true := kit_ty (by decide +kernel)
theorem kit_tl {K : PySem.W.Frag} : PySem.W.kitOne K (.type "tuple") (.type "list") = some false := kit_ty (by decide +kernel)
theorem kit_tt {K : PySem.W.Frag} : PySem.W.kitOne K (.type "tuple") (.type "tuple") = some true := kit_ty (by decide +kernel)
/-- a row that is a list or a tuple -/
def RowAt (K : PySem.W.Frag) (H : Hp) (a : Addr) (xs : List V) : Prop := H a = some (.lst xs) ∨ H a = some (.tup xs)
theorem RowAt.same {K : PySem.W.Frag} {H H' : Hp} {a : Addr} {xs : List V} (h : RowAt K H a xs) (e : Same H H') : RowAt K H' a xs := h.elim (fun h => .inl (e _ _ h)) fun h => .inr (e _ _ h)
def spRow (K : PySem.W.Frag) : Sp := fun vs H Q _ => ∃ a lo hi xs, vs = [.ref a, .int lo, .int hi] ∧ RowAt K H a xs ∧ ∀ H', Same H H' → Q (.bl (decide (lo ≤ (xs.length : Int)) && decide ((xs.length : Int) ≤ hi))) H'
/-- heights, widths that are valid -/
def spCheckH (K : PySem.W.Frag) : Sp := fun vs H Q _ => ∃ a, ∃ hs : List Int, vs = [.ref a] ∧ RowAt K H a (hs.map V.int) ∧ 1 ≤ hs.length ∧ hs.length ≤ 60 ∧ (∀ z ∈ hs, HOk1 z) ∧ ∀ H', Same H H' → Q .non H'
def spCheckW (K : PySem.W.Frag) : Sp := fun vs H Q _ => ∃ a, ∃ ws : List Int, vs = [.ref a, .int (ws.length : Int)] ∧ RowAt K H a (ws.map V.int) ∧ (∀ z ∈ ws, WOk1 z) ∧ ∀ H', Same H H' → Q .non H'
def pfl (t1 t2 : Addr) : List (Str × V) := putF "column_widths" (.ref t2) (putF "column_heights" (.ref t1) [])
theorem n_hw : ¬ (("column_heights" : Str) = "column_widths") := by decide +kernel
theorem pfl_h (t1 t2 : Addr) : (pfl t1 t2).lookup ("column_heights" : Str) = some (.ref t1) := by
  unfold pfl
  rw [lookup_putF, if_neg n_hw, lookup_putF, if_pos rfl]
theorem pfl_w (t1 t2 : Addr) : (pfl t1 t2).lookup ("column_widths" : Str) = some (.ref t2) := by
  unfold pfl
  rw [lookup_putF, if_pos rfl]
/-- a Profile stands at p -/
def ProfAt (K : PySem.W.Frag) (C : Addr) (H : Hp) (p : Addr) (hs ws : List Int) : Prop := ∃ dx t1 t2, H p = some (.ins C dx (pfl t1 t2)) ∧ H t1 = some (.tup (hs.map V.int)) ∧ H t2 = some (.tup (ws.map V.int))
theorem ProfAt.same {K : PySem.W.Frag} {C : Addr} {H H' : Hp} {p : Addr} {hs ws : List Int} (h : ProfAt K C H p hs ws) (e : Same H H') : ProfAt K C H' p hs ws := by
  obtain ⟨dx, t1, t2, h1, h2, h3⟩ := h
  exact ⟨dx, t1, t2, e _ _ h1, e _ _ h2, e _ _ h3⟩
/-- what is told of the class as the top has made it -/
structure PCls (K : PySem.W.Frag) (C : Addr) : Prop where
  cl : Cls K C
  nH : NoAttr K C "column_heights"
  nW : NoAttr K C "column_widths"
  cA : PySem.W.findIn K (.ref C) "__class__" = some (some (.builtin "object.__class__"))
  cG : PySem.W.specialIn K (.builtin "object.__class__") "__get__" = some (some (.builtin "getset_descriptor.__get__"))
  cT : PySem.W.takesIn K (.builtin "object.__class__") = some true
  cM : PySem.W.mroIn K C (.type "object") = some true
def spInit (K : PySem.W.Frag) (C : Addr) : Sp := fun vs H Q _ => ∃ p dx a, ∃ wv : V, ∃ hs ws : List Int, vs = [.ref p, .ref a, wv] ∧ PCls K C ∧ H p = some (.ins C dx []) ∧ RowAt K H a (hs.map V.int) ∧ 1 ≤ hs.length ∧ hs.length ≤ 60 ∧ (∀ z ∈ hs, HOk1 z) ∧
  ((wv = .non ∧ ws = List.replicate hs.length 1) ∨ ∃ b, wv = .ref b ∧ RowAt K H b (ws.map V.int) ∧ ws.length = hs.length ∧ ∀ z ∈ ws, WOk1 z) ∧ ∀ H', ProfAt K C H' p hs ws → (∀ b o, b ≠ p → H b = some o → H' b = some o) → Q .non H'
/-- two profiles that are equal, of the class at C -/
def PEq (K : PySem.W.Frag) (C : Addr) : Addr → Addr → Hp → Prop := fun a b H => PCls K C ∧ ∃ hs ws, ProfAt K C H a hs ws ∧ ProfAt K C H b hs ws
def t__law_heights (K : PySem.W.Frag) : TS :=
  (tSeq (tAsg (tOp oAdd (tC (.int 1)) (tCall (spDraw K) [] E0 (tCons (tVar 0) (tCons (tOp (rIxL K) (tLst (tCons (tC (.int 9)) (tCons (tC (.int 60)) tNil))) (tCB cInt (tCons (tOp rEq (tCall (spDraw K) [] E0 (tCons (tVar 0) (tCons (tC (.int 4)) tNil))) (tC (.int 3))) tNil))) tNil)))) (gName 1))
    (tSeq (tAsg (tOp (rIxL K) (tLst (tCons (tC (.int 2)) (tCons (tC (.int 7)) (tCons (tOp oPow (tC (.int 10)) (tC (.int 6))) (tCons (tOp oPow (tC (.int 10)) (tC (.int 30))) tNil))))) (tCall (spDraw K) [] E0 (tCons (tVar 0) (tCons (tC (.int 4)) tNil)))) (gName 2))
    (tRet (tLc (iRng1 (tCons (tVar 1) tNil)) (gName 3) tYes (tOp oSub (tCall (spDraw K) [] E0 (tCons (tVar 0) (tCons (tOp oAdd (tOp oMul (tC (.int 2)) (tVar 2)) (tC (.int 1))) tNil))) (tVar 2)) [3]))))
def t__law_widths (K : PySem.W.Frag) : TS :=
  (tSeq (tAsg (tOp (rIxL K) (tLst (tCons (tC (.int 1)) (tCons (tC (.int 3)) (tCons (tOp oPow (tC (.int 10)) (tC (.int 30))) tNil)))) (tCall (spDraw K) [] E0 (tCons (tVar 0) (tCons (tC (.int 3)) tNil)))) (gName 2))
    (tRet (tLc (iRng1 (tCons (tVar 1) tNil)) (gName 3) tYes (tOp oAdd (tC (.int 1)) (tCall (spDraw K) [] E0 (tCons (tVar 0) (tCons (tVar 2) tNil)))) [3])))
def t_is_whole (K : PySem.W.Frag) : TS :=
  (tRet (tAndV (tCB (rIsi K) (tCons (tVar 0) (tCons (tC (.ty "int")) tNil))) (tNotV (tCB (rIsi K) (tCons (tVar 0) (tCons (tC (.ty "bool")) tNil))))))
def t_is_whole_within (K : PySem.W.Frag) : TS :=
  (tRet (tAndV (tCall (spWhole K) [] E0 (tCons (tVar 0) tNil)) (tChain oLe oLe (tVar 1) (tVar 0) (tVar 2))))
def t_first_outside (K : PySem.W.Frag) : TS :=
  (tSeq (tFor (iEnumA K (tCons (tVar 0) tNil)) (gTup K 2 (gCons (gName 3) (gCons (gName 4) gNil))) (tIfS (tNot (tB (tCall (spWithin K) [] E0 (tCons (tVar 4) (tCons (tVar 1) (tCons (tVar 2) tNil)))))) (tRet (tVar 3)) tNext))
    (tRet (tC .non)))
def t_is_row (K : PySem.W.Frag) : TS :=
  (tRet (tAndV (tCB (rIsiT K) (tCons (tVar 0) (tCons (tTup (tCons (tC (.ty "list")) (tCons (tC (.ty "tuple")) tNil))) tNil))) (tChain oLe oLe (tVar 1) (tCB (cLen K) (tCons (tVar 0) tNil)) (tVar 2))))
def t_check_heights (K : PySem.W.Frag) : TS :=
  (tSeq (tIfS (tNot (tB (tCall (spRow K) [] E0 (tCons (tVar 0) (tCons (tC (.int 1)) (tCons (tC (.int 60)) tNil)))))) tNever tNext)
    (tSeq (tAsg (tCall (spOutside K) [] E0 (tCons (tVar 0) (tCons (tUn (rU fun i => .int (-i)) (tC (.int 1000000000000000000000000000000))) (tCons (tC (.int 1000000000000000000000000000000)) tNil)))) (gName 1))
    (tIfS (tTest (tOp oNotN (tVar 1) (tC .non))) tNever tNext)))
def t_check_widths (K : PySem.W.Frag) : TS :=
  (tSeq (tIfS (tNot (tB (tCall (spRow K) [] E0 (tCons (tVar 0) (tCons (tVar 1) (tCons (tVar 1) tNil)))))) tNever tNext)
    (tSeq (tAsg (tCall (spOutside K) [] E0 (tCons (tVar 0) (tCons (tC (.int 1)) (tCons (tC (.int 1000000000000000000000000000000)) tNil)))) (gName 2))
    (tIfS (tTest (tOp oNotN (tVar 2) (tC .non))) tNever tNext)))
def t_Profile___init__ (K : PySem.W.Frag) (C_Profile : Addr) : TS :=
  (tSeq (tDrop (tCall (spCheckH K) [] E0 (tCons (tVar 1) tNil)))
    (tSeq (tIfS (tTest (tOp oIsN (tVar 2) (tC .non))) (tAsg (tOp rRep (tLst (tCons (tC (.int 1)) tNil)) (tCB (cLen K) (tCons (tVar 1) tNil))) (gName 2)) tNext)
    (tSeq (tDrop (tCall (spCheckW K) [] E0 (tCons (tVar 2) (tCons (tCB (cLen K) (tCons (tVar 1) tNil)) tNil))))
    (tSeq (sFld K (tVar 0) (tCB (cTuple K) (tCons (tVar 1) tNil)) "column_heights")
    (sFld K (tVar 0) (tCB (cTuple K) (tCons (tVar 2) tNil)) "column_widths")))))
def t_Profile___eq__ (K : PySem.W.Frag) (C_Profile : Addr) : TS :=
  (tRet (tAndV (tCB (rIsi K) (tCons (tVar 1) (tCons (tC (.ref C_Profile)) tNil))) (tAndV (tOp (rEqD K) (tFld K (tVar 0) "column_heights") (tFld K (tVar 1) "column_heights")) (tOp (rEqD K) (tFld K (tVar 0) "column_widths") (tFld K (tVar 1) "column_widths")))))
local macro_rules | `(tactic| walk_at "rv st") => `(tactic| first
  | with_reducible refine iteT ?_ | with_reducible refine iteF ?_ | with_reducible refine w_nx ?_ | with_reducible refine w_yes ?_ | with_reducible refine w_rt ?_ | with_reducible refine iteNT ?_ | with_reducible refine iteNF ?_ | with_reducible refine iteNRf ?_ | with_reducible refine iteRf ?_ | with_reducible refine w_seqA ?_ | with_reducible refine w_seqD ?_ | with_reducible refine w_seqP ?_ | with_reducible refine w_asg ?_ | with_reducible refine w_ret ?_ | with_reducible refine w_drop ?_ | with_reducible refine w_ifs ?_ | with_reducible refine w_next ?_ | with_reducible refine w_par ?_
  | with_reducible refine w_op ?_ | with_reducible refine w_un ?_ | ((with_reducible show tVar _ _ _ _); refine' w_var ?hv ?_; (case hv => exact rfl)) | with_reducible refine w_c ?_ | with_reducible refine w_test ?_ | with_reducible refine w_tB ?_
  | with_reducible refine w_bl ?_ | with_reducible refine w_I0 ?_ | with_reducible refine w_U ?_ | with_reducible refine w_eqI ?_ | with_reducible refine w_neI ?_
  | with_reducible refine w_cons ?_ | with_reducible refine w_nil ?_ | with_reducible refine w_gn ?_ | with_reducible refine w_gsub ?_ | with_reducible refine w_and ?_ | with_reducible refine w_or ?_ | with_reducible refine w_not ?_
  | with_reducible refine w_andV ?_ | with_reducible refine w_orV ?_ | with_reducible refine w_notV ?_ | with_reducible refine w_if ?_ | with_reducible refine w_cb ?_ | with_reducible refine w_call ?_ | with_reducible refine w_lst ?_ | with_reducible refine w_tup ?_
  | with_reducible refine w_sl ?_ | with_reducible refine w_noPart ?_ | with_reducible refine w_part ?_ | with_reducible refine w_ex1 ?_ | with_reducible refine w_exb ?_ | with_reducible refine w_intB ?_ | with_reducible refine w_intI ?_ | with_reducible refine w_abs ?_)
local macro_rules | `(tactic| walk_at "rv ix") => `(tactic| ((with_reducible show rIxL _ _ _ _ _); refine' w_ixL (sq_lst ?ha) ?hb ?_; (case ha => first | exact upd_same | assumption); (case hb => first | exact rfl | assumption)))
local macro_rules | `(tactic| walk_at "rv ar") => `(tactic| first
  | (refine' w_I ?hc ?_; (case hc => first | (show (0 : Int) < _; first | assumption | decide | omega) | exact pow_c (by decide) (by decide) (by first | decide | omega) (by first | decide | omega) | exact mul_r (by first | decide | omega) (by first | decide | omega) | exact mul_l (by first | decide | omega) (by first | decide | omega) | exact divw (by first | assumption | decide | omega) (by first | assumption | decide | omega))))
local macro_rules | `(tactic| walk_at "rv go") => `(tactic| repeat first | walk_at "rv st" | walk_at "rv ix" | ((with_reducible show rI _ _ _ _ _ _); walk_at "rv ar"))
theorem p_heights {K : PySem.W.Frag} {vs : List V} {H : Hp} {Q : VK} {E : XK} (h : spHeights K vs H Q E) : t__law_heights K { nx := fun _ H' => Q .non H', rt := Q } (start ["_law_draws_here", "_law_many", "_law_size", "_law_k"] vs) H := by
  obtain ⟨d, c, rfl, hD, k⟩ := h
  unfold t__law_heights
  walk_at "rv go"
  refine ⟨szl (by decide), fun p1 n1 => ?_⟩
  have n1d : p1 ≠ d := hD.nd n1
  walk_at "rv go"
  have b1 : But d H (upd H p1 (.lst [.int 9, .int 60])) := (But.refl d H).new n1
  refine draw_call (hD.new (same_new (Same.refl H) n1)) (by decide) (by decide) fun r1 H1 r1a r1b e1 D1 => ?_
  walk_at "rv go"
  have l1 : H1 p1 = some (.lst [.int 9, .int 60]) := e1 _ _ n1d upd_same
  have hm : ∃ m : Int, 0 < m ∧ m ≤ 60 ∧ atI [V.int 9, V.int 60] (if decide (r1 = 3) then 1 else 0) = some (.int m) := by
    by_cases z : r1 = 3
    · rw [decide_eq_true z]
      exact ⟨60, by decide, by decide, rfl⟩
    · rw [decide_eq_false z]
      exact ⟨9, by decide, by decide, rfl⟩
  obtain ⟨m, m0, m60, em⟩ := hm
  refine w_ixL (sq_lst l1) em ?_
  walk_at "rv go"
  refine draw_call D1 m0 (Int.lt_of_le_of_lt m60 (by decide)) fun r2 H2 r2a r2b e2 D2 => ?_
  walk_at "rv go"
  refine ⟨szl (by decide), fun p2 n2 => ?_⟩
  walk_at "rv go"
  have n2d : p2 ≠ d := D2.nd n2
  refine draw_call (D2.new (same_new (Same.refl H2) n2)) (by decide) (by decide) fun r3 H3 r3a r3b e3 D3 => ?_
  have l3 : H3 p2 = some (.lst [.int 2, .int 7, .int (10 ^ Int.toNat 6), .int (10 ^ Int.toNat 30)]) := e3 _ _ n2d upd_same
  have hz : ∃ z : Int, 0 < z ∧ z ≤ 1000000000000000000000000000000 ∧ atI [V.int 2, V.int 7, V.int (10 ^ Int.toNat 6), V.int (10 ^ Int.toNat 30)] r3 = some (.int z) := by
    have c : r3 = 0 ∨ r3 = 1 ∨ r3 = 2 ∨ r3 = 3 := by omega
    rcases c with rfl | rfl | rfl | rfl
    · exact ⟨2, by decide, by decide, rfl⟩
    · exact ⟨7, by decide, by decide, rfl⟩
    · exact ⟨10 ^ Int.toNat 6, by decide, by decide, rfl⟩
    · exact ⟨10 ^ Int.toNat 30, by decide, by decide, rfl⟩
  obtain ⟨z, z0, z1, ez⟩ := hz
  refine w_ixL (sq_lst l3) ez ?_
  walk_at "rv go"
  have eN : (((1 + r2).toNat : Nat) : Int) = 1 + r2 := Int.toNat_of_nonneg (by omega)
  have b3 : But d H H3 := ((b1.trans e1).trans e2).trans (((But.refl d H2).new n2).trans e3)
  refine w_lcR (n := (1 + r2).toNat) (by omega) (fun AQ q => ?_) (fun D acc H' => ∃ hs : List Int, acc = hs.map V.int ∧ (∀ z ∈ hs, HOk1 z) ∧ But d H H' ∧ DrawsAt H' d c ∧ H' D = some (.lst acc) ∧ D ≠ d ∧ D ≠ c ∧ H D = none) (fun D nD => ?_) ?_ ?_
  · rw [eN] at q
    walk_at "rv go"
    exact q
  · exact ⟨[], rfl, (fun _ h => nomatch h), b3.new nD, D3.new (same_new (Same.refl H3) nD), upd_same, D3.nd nD, D3.nc nD, b3.free (D3.nd nD) nD⟩
  · rintro D acc H' hl ⟨hs, rfl, hok, b, DD, hD', nDd, nDc, nD⟩
    walk_at "rv go"
    refine draw_call DD (by omega) (Int.lt_of_le_of_lt (b := 2000000000000000000000000000001) (by omega) (by decide)) fun r H4 ra rb e4 D4 => ?_
    walk_at "rv go"
    have b4 := b.trans e4
    refine w_app (J := fun D acc H' => ∃ hs : List Int, acc = hs.map V.int ∧ (∀ z ∈ hs, HOk1 z) ∧ But d H H' ∧ DrawsAt H' d c ∧ H' D = some (.lst acc) ∧ D ≠ d ∧ D ≠ c ∧ H D = none) (e4 _ _ nDd hD') (by rw [List.length_map] at hl ⊢; omega) ⟨hs ++ [r - z], (by rw [map_app]), ?_, ?_, D4.wr nDd nDc, upd_same, nDd, nDc, nD⟩
    · intro y hy
      rcases List.mem_append.mp hy with h | h
      · exact hok y h
      · rw [List.mem_singleton.mp h]
        exact ⟨by omega, by omega⟩
    · exact fun c o nc h => by
        have q := b4 c o nc h
        rw [upd_ne (ne_of_none h nD)]
        exact q
  · rintro D acc H' hl ⟨hs, rfl, hok, b, DD, hD', nDd, nDc, nD⟩
    rw [List.length_map] at hl
    exact k D H' hs (by omega) (by omega) hok b DD nD hD'
theorem p_widths {K : PySem.W.Frag} {vs : List V} {H : Hp} {Q : VK} {E : XK} (h : spWidths K vs H Q E) : t__law_widths K { nx := fun _ H' => Q .non H', rt := Q } (start ["_law_draws_here", "_law_many", "_law_size", "_law_k"] vs) H := by
  obtain ⟨d, c, n, rfl, hn, hD, k⟩ := h
  unfold t__law_widths
  walk_at "rv go"
  refine ⟨szl (by decide), fun p1 n1 => ?_⟩
  have n1d : p1 ≠ d := hD.nd n1
  walk_at "rv go"
  refine draw_call (hD.new (same_new (Same.refl H) n1)) (by decide) (by decide) fun r1 H1 r1a r1b e1 D1 => ?_
  walk_at "rv go"
  have b1 : But d H H1 := But.trans ((But.refl d H).new n1) e1
  have l1 : H1 p1 = some (.lst [.int 1, .int 3, .int (10 ^ Int.toNat 30)]) := e1 _ _ n1d upd_same
  have hz : ∃ z : Int, 0 < z ∧ z ≤ 1000000000000000000000000000000 ∧ atI [V.int 1, V.int 3, V.int (10 ^ Int.toNat 30)] r1 = some (.int z) := by
    have c : r1 = 0 ∨ r1 = 1 ∨ r1 = 2 := by omega
    rcases c with rfl | rfl | rfl
    · exact ⟨1, by decide, by decide, rfl⟩
    · exact ⟨3, by decide, by decide, rfl⟩
    · exact ⟨10 ^ Int.toNat 30, by decide, by decide, rfl⟩
  obtain ⟨z, z0, z1, ez⟩ := hz
  refine w_ixL (sq_lst l1) ez ?_
  walk_at "rv go"
  refine w_lcR (n := n) (by omega) (fun AQ q => ?_) (fun D acc H' => ∃ hs : List Int, acc = hs.map V.int ∧ (∀ z ∈ hs, WOk1 z) ∧ But d H H' ∧ DrawsAt H' d c ∧ H' D = some (.lst acc) ∧ D ≠ d ∧ D ≠ c ∧ H D = none) (fun D nD => ?_) ?_ ?_
  · walk_at "rv go"
    exact q
  · exact ⟨[], rfl, (fun _ h => nomatch h), b1.new nD, D1.new (same_new (Same.refl H1) nD), upd_same, D1.nd nD, D1.nc nD, b1.free (D1.nd nD) nD⟩
  · rintro D acc H' hl ⟨hs, rfl, hok, b, DD, hD', nDd, nDc, nD⟩
    walk_at "rv go"
    refine draw_call DD (by omega) (Int.lt_of_le_of_lt (b := 2000000000000000000000000000001) (by omega) (by decide)) fun r H4 ra rb e4 D4 => ?_
    walk_at "rv go"
    have b4 := b.trans e4
    refine w_app (J := fun D acc H' => ∃ hs : List Int, acc = hs.map V.int ∧ (∀ z ∈ hs, WOk1 z) ∧ But d H H' ∧ DrawsAt H' d c ∧ H' D = some (.lst acc) ∧ D ≠ d ∧ D ≠ c ∧ H D = none) (e4 _ _ nDd hD') (by rw [List.length_map] at hl ⊢; omega) ⟨hs ++ [1 + r], (by rw [map_app]), ?_, ?_, D4.wr nDd nDc, upd_same, nDd, nDc, nD⟩
    · intro y hy
      rcases List.mem_append.mp hy with h | h
      · exact hok y h
      · rw [List.mem_singleton.mp h]
        exact ⟨by omega, by omega⟩
    · exact fun c o nc h => by
        have q := b4 c o nc h
        rw [upd_ne (ne_of_none h nD)]
        exact q
  · rintro D acc H' hl ⟨hs, rfl, hok, b, DD, hD', nDd, nDc, nD⟩
    rw [List.length_map] at hl
    exact k D H' hs hl hok b DD nD hD'
theorem ty_same {K : PySem.W.Frag} {H H' : Hp} {v : V} {t : Value} (h : TyX K H v t) (e : Same H H') : TyX K H' v t := by
  cases h with
  | base h =>
    cases h with
    | non => exact .base .non
    | bl x => exact .base (.bl x)
    | int i => exact .base (.int i)
    | str x => exact .base (.str x)
    | flt x => exact .base (.flt x)
    | lst h => exact .base (.lst (e _ _ h))
    | frz h => exact .base (.frz (e _ _ h))
    | tup h => exact .base (.tup (e _ _ h))
    | dK h => exact .base (.dK (e _ _ h))
    | dT h => exact .base (.dT (e _ _ h))
    | ins h cl ha hn htk hm => exact .base (.ins (e _ _ h) cl ha hn htk hm)
  | byt b => exact .byt b
  | set h => exact .set (e _ _ h)
  | kList h c => exact .kList h c
  | kTuple h c => exact .kTuple h c
  | kDict h c => exact .kDict h c
  | fTuple h => exact .fTuple (e _ _ h)
  | fDict h => exact .fDict (e _ _ h)
theorem Whole.same {K : PySem.W.Frag} {H H' : Hp} {v : V} (h : Whole K H v) (e : Same H H') : Whole K H' v := by
  cases h with
  | int i => exact .int i
  | bl b => exact .bl b
  | other h k n => exact .other (ty_same h e) k n
theorem whole_int {K : PySem.W.Frag} {H : Hp} {v : V} (h : Whole K H v) : ∃ t, TyX K H v t ∧ PySem.W.kitOne K t (.type "int") = some (isI v || match v with | .bl _ => true | _ => false) := by
  cases h with
  | int i => exact ⟨_, .base (.int i), kit_ii⟩
  | bl b => exact ⟨_, .base (.bl b), kit_bi⟩
  | other h k n1 =>
    refine ⟨_, h, ?_⟩
    rw [k]
    cases v with
    | int i => exact absurd rfl (n1 i)
    | bl b =>
      cases h with
      | base hb =>
        cases hb
        rw [kit_bi] at k
        cases k
    | _ => rfl
theorem p_whole {K : PySem.W.Frag} {vs : List V} {H : Hp} {Q : VK} {E : XK} (h : spWhole K vs H Q E) : t_is_whole K { nx := fun _ H' => Q .non H', rt := Q } (start ["value"] vs) H := by
  obtain ⟨v, rfl, hw, k⟩ := h
  unfold t_is_whole
  obtain ⟨t, h1, h2⟩ := whole_int hw
  walk_at "rv go"
  refine isi_of (.ty "int") h1 h2 ?_
  walk_at "rv go"
  cases v with
  | int i =>
    refine iteT ?_
    walk_at "rv go"
    refine isi_of (.ty "bool") (.base (.int i)) kit_ib ?_
    walk_at "rv go"
    exact k
  | bl b =>
    refine iteT ?_
    walk_at "rv go"
    refine isi_of (.ty "bool") (.base (.bl b)) kit_bb ?_
    walk_at "rv go"
    exact k
  | _ => exact k
theorem p_within {K : PySem.W.Frag} {vs : List V} {H : Hp} {Q : VK} {E : XK} (h : spWithin K vs H Q E) : t_is_whole_within K { nx := fun _ H' => Q .non H', rt := Q } (start ["value", "least", "greatest"] vs) H := by
  obtain ⟨v, lo, hi, rfl, hw, k⟩ := h
  unfold t_is_whole_within
  walk_at "rv go"
  refine ⟨v, rfl, hw, ?_⟩
  walk_at "rv go"
  cases v with
  | int i =>
    refine iteT ?_
    refine w_chain ?_
    walk_at "rv go"
    refine w_both (fun h => ?_) (fun h => ?_)
    · walk_at "rv go"
      have e : inI lo hi (.int i) = decide (i ≤ hi) := by
        show (decide (lo ≤ i) && decide (i ≤ hi)) = _
        rw [decide_eq_true h, Bool.true_and]
      rw [e] at k
      exact k
    · have e : inI lo hi (.int i) = false := by
        show (decide (lo ≤ i) && decide (i ≤ hi)) = _
        rw [decide_eq_false h, Bool.false_and]
      rw [e] at k
      exact k
  | _ => exact k
theorem sqT_same0 {K : PySem.W.Frag} {H H' : Hp} {a : Addr} {xs : List V} (h : SqT K H a xs) (e : Same H H') : SqT K H' a xs := by
  rcases h with (h | ⟨o, h⟩) | h
  · exact .inl (.inl (e _ _ h))
  · exact .inl (.inr ⟨o, e _ _ h⟩)
  · exact .inr h
theorem p_outside {K : PySem.W.Frag} {vs : List V} {H : Hp} {Q : VK} {E : XK} (h : spOutside K vs H Q E) : t_first_outside K { nx := fun _ H' => Q .non H', rt := Q } (start ["values", "least", "greatest", "index", "value"] vs) H := by
  obtain ⟨a, lo, hi, xs, rfl, hS, hw, k⟩ := h
  unfold t_first_outside
  refine w_seq ?_
  refine w_forEA (fun AQ q => ?_) hS (fun i σ' H' => ∃ u v : Option V, σ' = [some (.ref a), some (.int lo), some (.int hi), u, v] ∧ Same H H' ∧ outs lo hi xs 0 = outs lo hi (xs.drop i) i) ⟨none, none, rfl, Same.refl H, by rw [List.drop_zero]⟩ (fun i σ' H' ⟨_, _, _, e, _⟩ => ⟨fun z => e.seq z, fun z => sqT_same0 z e⟩) ?_ ?_
  · walk_at "rv go"
    exact q
  · rintro i x T σ' H' hx ⟨u, v, rfl, e, ho⟩ nT
    refine ⟨T, _, rfl, sq_tup upd_same, rfl, _, _, rfl, ?_⟩
    refine ⟨_, _, rfl, rfl, ?_⟩
    have e2 : Same H (upd H' T (.tup [.int (i : Int), x])) := same_new e nT
    have hil : i < xs.length := (List.getElem?_eq_some_iff.mp hx).1
    have hxe : xs[i] = x := (List.getElem?_eq_some_iff.mp hx).2
    have ed : xs.drop i = x :: xs.drop (i + 1) := by rw [List.drop_eq_getElem_cons hil, hxe]
    refine w_ifs ?_
    walk_at "rv go"
    refine ⟨x, lo, hi, rfl, ?_, ?_⟩
    · exact (hw x (List.mem_of_getElem? hx)).same e2
    · walk_at "rv go"
      rw [ed] at ho
      cases hb : inI lo hi x with
      | true =>
        refine iteF ?_
        refine w_next ?_
        refine ⟨_, _, rfl, e2, ?_⟩
        rw [ho]
        show (if inI lo hi x = true then _ else _) = _
        rw [if_pos hb]
      | false =>
        refine iteT ?_
        walk_at "rv go"
        have q := k _ e2
        rw [ho] at q
        have e3 : outs lo hi (x :: xs.drop (i + 1)) i = .int (i : Int) := by
          show (if inI lo hi x = true then _ else _) = _
          rw [hb, if_neg Bool.false_ne_true]
        rw [e3] at q
        exact q
  · rintro σ' H' ⟨u, v, rfl, e, ho⟩
    walk_at "rv go"
    rw [List.drop_length] at ho
    have q := k _ e
    rw [ho] at q
    exact q
theorem p_row {K : PySem.W.Frag} {vs : List V} {H : Hp} {Q : VK} {E : XK} (h : spRow K vs H Q E) : t_is_row K { nx := fun _ H' => Q .non H', rt := Q } (start ["values", "least", "most"] vs) H := by
  obtain ⟨a, lo, hi, xs, rfl, hR, k⟩ := h
  unfold t_is_row
  walk_at "rv go"
  refine ⟨szl (by decide), fun p np => ?_⟩
  have e := same_new (o := .tup [.ty "list", .ty "tuple"]) (Same.refl H) np
  walk_at "rv go"
  have hR2 := hR.same (K := K) e
  have ty : ∃ t, TyX K (upd H p (.tup [.ty "list", .ty "tuple"])) (.ref a) t ∧ PySem.W.kitAny K t [.type "list", .type "tuple"] = some true := by
    rcases hR2 with h | h
    · exact ⟨_, .base (.lst h), kitAny_cons kit_ll (fun z => nomatch z) (fun _ => rfl)⟩
    · exact ⟨_, .base (.tup h), kitAny_cons kit_tl (fun _ => kitAny_cons kit_tt (fun z => nomatch z) (fun _ => rfl)) (fun z => nomatch z)⟩
  obtain ⟨t, h1, h2⟩ := ty
  refine ⟨.ref a, p, _, t, _, true, rfl, upd_same, .cons (.ty "list") (.cons (.ty "tuple") .nil), h1, h2, ?_⟩
  walk_at "rv go"
  refine w_chain ?_
  walk_at "rv go"
  have hl : ∀ Q : VK, Q (.int (xs.length : Int)) (upd H p (.tup [.ty "list", .ty "tuple"])) → cLen K [.ref a] (upd H p (.tup [.ty "list", .ty "tuple"])) Q := fun Q q => by
    rcases hR2 with h | h
    · exact w_lenL (sq_lst h) q
    · exact w_lenT (sq_tup h) q
  refine hl _ ?_
  walk_at "rv go"
  have q := k _ e
  refine w_both (fun z => ?_) (fun z => ?_)
  · walk_at "rv go"
    rw [decide_eq_true z, Bool.true_and] at q
    exact q
  · rw [decide_eq_false z, Bool.false_and] at q
    exact q
theorem row_call {K : PySem.W.Frag} {H : Hp} {Q : VK} {E : XK} {a : Addr} {lo hi : Int} {xs : List V} (h : RowAt K H a xs) (h1 : lo ≤ (xs.length : Int)) (h2 : (xs.length : Int) ≤ hi) (k : ∀ H', Same H H' → Q (.bl true) H') :
    spRow K ([.ref a, .int lo, .int hi] ++ []) H Q E := ⟨a, lo, hi, xs, rfl, h, fun H' e => by
  rw [decide_eq_true h1, decide_eq_true h2]
  exact k H' e⟩
theorem outside_call {K : PySem.W.Frag} {H : Hp} {Q : VK} {E : XK} {a : Addr} {lo hi : Int} {zs : List Int} (h : RowAt K H a (zs.map V.int)) (hz : ∀ z ∈ zs, lo ≤ z ∧ z ≤ hi) (k : ∀ H', Same H H' → Q .non H') :
    spOutside K ([.ref a, .int lo, .int hi] ++ []) H Q E := by
  have hm : ∀ x ∈ zs.map V.int, ∃ z, x = V.int z ∧ lo ≤ z ∧ z ≤ hi := fun x hx => by
    obtain ⟨z, h1, h2⟩ := List.mem_map.mp hx
    exact ⟨z, h2.symm, hz z h1⟩
  refine ⟨a, lo, hi, _, rfl, h.elim (fun h => .inl (sq_lst h)) (fun h => .inr (sq_tup h)), fun x hx => ?_, fun H' e => ?_⟩
  · obtain ⟨z, rfl, _⟩ := hm x hx
    exact .int z
  · rw [outs_none fun x hx => ?_]
    · exact k H' e
    · obtain ⟨z, rfl, h1, h2⟩ := hm x hx
      show (decide (lo ≤ z) && decide (z ≤ hi)) = true
      rw [decide_eq_true h1, decide_eq_true h2]
      rfl
theorem p_checkH {K : PySem.W.Frag} {vs : List V} {H : Hp} {Q : VK} {E : XK} (h : spCheckH K vs H Q E) : t_check_heights K { nx := fun _ H' => Q .non H', rt := Q } (start ["heights", "wrong"] vs) H := by
  obtain ⟨a, hs, rfl, ha, h1, h60, hok, k⟩ := h
  unfold t_check_heights
  refine w_seq ?_
  refine w_ifs ?_
  walk_at "rv go"
  refine row_call ha (by rw [List.length_map]; omega) (by rw [List.length_map]; omega) fun H1 e1 => ?_
  walk_at "rv go"
  refine outside_call (ha.same e1) (fun z hz => hok z hz) fun H2 e2 => ?_
  refine w_gn ?_
  refine w_ifs ?_
  walk_at "rv go"
  refine ⟨rfl, ?_⟩
  walk_at "rv go"
  exact k H2 (e1.trans e2)
theorem p_checkW {K : PySem.W.Frag} {vs : List V} {H : Hp} {Q : VK} {E : XK} (h : spCheckW K vs H Q E) : t_check_widths K { nx := fun _ H' => Q .non H', rt := Q } (start ["widths", "many", "wrong"] vs) H := by
  obtain ⟨a, ws, rfl, ha, hok, k⟩ := h
  unfold t_check_widths
  refine w_seq ?_
  refine w_ifs ?_
  walk_at "rv go"
  refine row_call ha (by rw [List.length_map]; omega) (by rw [List.length_map]; omega) fun H1 e1 => ?_
  walk_at "rv go"
  refine outside_call (ha.same e1) (fun z hz => hok z hz) fun H2 e2 => ?_
  refine w_gn ?_
  refine w_ifs ?_
  walk_at "rv go"
  refine ⟨rfl, ?_⟩
  walk_at "rv go"
  exact k H2 (e1.trans e2)
theorem tup_call {K : PySem.W.Frag} {H : Hp} {Q : VK} {a : Addr} {xs : List V} (h : RowAt K H a xs) (k : ∀ l H', Same H H' → H' l = some (.tup xs) → Q (.ref l) H') : cTuple K [.ref a] H Q := by
  rcases h with h | h
  · exact ⟨a, xs, rfl, .inl ⟨sq_lst h, fun l nl => k l _ (same_new (Same.refl H) nl) upd_same⟩⟩
  · exact ⟨a, xs, rfl, .inr ⟨sq_tup h, k a H (Same.refl H) h⟩⟩
theorem w_lenR {K : PySem.W.Frag} {H : Hp} {Q : VK} {a : Addr} {xs : List V} (h : RowAt K H a xs) (q : Q (.int xs.length) H) : cLen K [.ref a] H Q :=
  h.elim (fun h => w_lenL (sq_lst h) q) fun h => w_lenT (sq_tup h) q
theorem p_init {K : PySem.W.Frag} {C : Addr} {vs : List V} {H : Hp} {Q : VK} {E : XK} (h : spInit K C vs H Q E) : t_Profile___init__ K C { nx := fun _ H' => Q .non H', rt := Q } (start ["self", "heights", "widths"] vs) H := by
  obtain ⟨p, dx, a, wv, hs, ws, rfl, P, hp, ha, h1, h60, hok, hw, k⟩ := h
  unfold t_Profile___init__
  walk_at "rv go"
  refine ⟨a, hs, rfl, ha, h1, h60, hok, fun H1 e1 => ?_⟩
  refine w_cut (fun σ' H' => ∃ b, σ' = [some (.ref p), some (.ref a), some (.ref b)] ∧ RowAt K H' b (ws.map V.int) ∧ ws.length = hs.length ∧ (∀ z ∈ ws, WOk1 z) ∧ Same H H') (fun N key => ?_) ?_
  · refine w_ifs ?_
    rcases hw with ⟨rfl, rfl⟩ | ⟨b, rfl, hb, hl, hwok⟩
    · walk_at "rv go"
      refine ⟨rfl, ?_⟩
      walk_at "rv go"
      refine ⟨szl (by decide), fun q nq => ?_⟩
      walk_at "rv go"
      refine w_lenR (ha.same (same_new e1 nq)) ?_
      walk_at "rv go"
      refine ⟨q, _, _, rfl, rfl, upd_same, by omega, by rw [List.length_map]; omega, by rw [List.length_map]; exact szl (by simp; omega), fun r nr => ?_⟩
      walk_at "rv go"
      refine key _ _ ⟨r, rfl, .inl ?_, by simp, fun z hz => ?_, same_new (same_new e1 nq) nr⟩
      · rw [upd_same, List.map_replicate, List.length_map, Int.toNat_natCast, List.flatten_replicate_singleton]
      · rw [(List.mem_replicate.mp hz).2]
        exact ⟨by decide, by decide⟩
    · walk_at "rv go"
      refine ⟨rfl, ?_⟩
      have e : decide (V.ref b = V.non) = false := decide_eq_false fun z => nomatch z
      rw [e]
      walk_at "rv go"
      exact key _ _ ⟨b, rfl, hb.same e1, hl, hwok, e1⟩
  · rintro σ2 H2 ⟨b, rfl, hb, hl, hwok, e2⟩
    walk_at "rv go"
    refine w_lenR (ha.same e2) ?_
    walk_at "rv go"
    refine ⟨b, ws, ?_, hb, hwok, fun H3 e3 => ?_⟩
    · show [V.ref b, V.int ((hs.map V.int).length : Int)] = _
      rw [List.length_map, hl]
    have e23 := e2.trans e3
    refine w_seq ?_
    refine w_sfld ?_
    walk_at "rv go"
    refine tup_call (ha.same e23) fun t1 H4 e4 h1 => ?_
    walk_at "rv go"
    have e24 := e23.trans e4
    refine w_put (e24 _ _ hp) P.cl P.nH (by decide) ?_
    refine w_nx ?_
    refine w_sfld ?_
    walk_at "rv go"
    have ne_p : ∀ {c : Addr} {ys : List V}, RowAt K H4 c ys → c ≠ p := fun {c ys} q z => by
      have q2 := e24 _ _ hp
      rw [← z] at q2
      rcases q with q | q
      · rw [q] at q2
        cases q2
      · rw [q] at q2
        cases q2
    have t1p : t1 ≠ p := ne_p (.inr h1)
    have hb4 : RowAt K H4 b (ws.map V.int) := (hb.same e3).same e4
    have bp : b ≠ p := ne_p hb4
    have hb5 : RowAt K (upd H4 p (.ins C dx (putF "column_heights" (.ref t1) []))) b (ws.map V.int) := by
      unfold RowAt
      rw [upd_ne bp]
      exact hb4
    refine tup_call hb5 fun t2 H5 e5 h2 => ?_
    have hp5 := e5 _ _ (upd_same (H := H4) (a := p))
    have t2p : t2 ≠ p := fun z => by
      rw [z, hp5] at h2
      cases h2
    walk_at "rv go"
    refine w_put (fs := putF "column_heights" (.ref t1) []) hp5 P.cl P.nW (by show (1 : Nat) < 1000; decide) ?_
    refine k _ ⟨dx, t1, t2, upd_same, ?_, ?_⟩ fun c o nc hc => ?_
    · rw [upd_ne t1p]
      exact e5 _ _ (by rw [upd_ne t1p]; exact h1)
    · rw [upd_ne t2p]
      exact h2
    · rw [upd_ne nc]
      exact e5 _ _ (by rw [upd_ne nc]; exact e24 _ _ hc)
theorem dp_ints {K : PySem.W.Frag} {H : Hp} : ∀ zs : List Int, DpAll K H (zs.map V.int) (zs.map PyData.int)
  | [] => .nil
  | z :: r => .cons (.int z) (dp_ints r)
theorem kit_self {K : PySem.W.Frag} {C : Addr} : PySem.W.kitOne K (.ref C) (.ref C) = some true := if_pos (beq_self_eq_true _)
theorem lay_ints : ∀ zs : List Int, PyData.canLayAll0 (zs.map PyData.int) = true ∧ PyData.depthAll (zs.map PyData.int) = 0
  | [] => ⟨by simp [PyData.canLayAll0], by simp [PyData.depthAll]⟩
  | z :: r => by
    have h := lay_ints r
    exact ⟨by simp [PyData.canLayAll0, PyData.canLay0, h.1], by simp [PyData.depthAll, PyData.depth, h.2]⟩
theorem shT_ints (zs : List Int) : SeqAt.shaped (.tuple (zs.map PyData.int)) = true := by
  have h := lay_ints zs
  simp [SeqAt.shaped, PyData.canLay0, PyData.depth, h.1, h.2]
theorem shL_ints (zs : List Int) : SeqAt.shaped (.list (zs.map PyData.int)) = true := by
  have h := lay_ints zs
  simp [SeqAt.shaped, PyData.canLay0, PyData.depth, h.1, h.2]
theorem eqD_ok {K : PySem.W.Frag} {H : Hp} {Q : VK} {a b : Addr} {zs : List Int} (h1 : SqT K H a (zs.map V.int)) (h2 : SqT K H b (zs.map V.int)) (q : Q (.bl true) H) : rEqD K (.ref a) (.ref b) H Q := by
  refine ⟨.tuple (zs.map PyData.int), .tuple (zs.map PyData.int), .tup h1 (dp_ints zs), .tup h2 (dp_ints zs), shT_ints zs, shT_ints zs, ?_⟩
  rw [SeqAt.eqv_refl _ (SeqAt.canLay_of_shaped (shT_ints zs))]
  exact q
theorem p_eq {K : PySem.W.Frag} {C : Addr} {vs : List V} {H : Hp} {Q : VK} {E : XK} (h : spEq (PEq K C) vs H Q E) : t_Profile___eq__ K C { nx := fun _ H' => Q .non H', rt := Q } (start ["self", "other"] vs) H := by
  obtain ⟨a, b, rfl, ⟨P, hs, ws, ⟨dx, t1, t2, ha, h1, h2⟩, ⟨dy, u1, u2, hb, g1, g2⟩⟩, k⟩ := h
  unfold t_Profile___eq__
  walk_at "rv go"
  refine isi_of (.own C) (.base (.ins hb P.cl P.cA P.cG P.cT P.cM)) kit_self ?_
  walk_at "rv go"
  refine w_fld rfl ha P.cl P.nH (pfl_h _ _) ?_
  refine w_fld rfl hb P.cl P.nH (pfl_h _ _) ?_
  refine eqD_ok (sq_tup h1) (sq_tup g1) ?_
  walk_at "rv go"
  refine w_fld rfl ha P.cl P.nW (pfl_w _ _) ?_
  refine w_fld rfl hb P.cl P.nW (pfl_w _ _) ?_
  refine eqD_ok (sq_tup h2) (sq_tup g2) ?_
  walk_at "rv go"
  exact k H fun _ _ z => z
end Rv
/-! Operators, comparisons and len of instances of a class with its own defs for them. -/
namespace Rv
open PySem PySem.Spec PyProof.Rows L2
theorem back_of {P : Value → Shared → Prop} {z : V} {v : Value} {s' : Shared} (r : RelV z v) (h : P v s') : PySem.W.CmpBack P v s' := by
  have n : v ≠ .notImplemented := by
    rintro rfl
    cases z <;> first | (obtain ⟨_, e⟩ := r; cases e) | cases r
  cases v <;> first | exact h | exact absurd rfl n
/-- the second operand: an int, or an instance of the class at C -/
inductive Snd (C : Addr) (H : Hp) : V → Prop where
  | int (i : Int) : Snd C H (.int i)
  | own {b dy : Addr} {gs : List (Str × V)} (h : H b = some (.ins C dy gs)) : Snd C H (.ref b)
/-- the class at C has a def of two parameters under the name nm -/
structure CalO (P : Program) (w : World) (K : PySem.W.Frag) (mg : Str → Option Value) (base : Heap) (CX : CXT) (k : Nat) (C : Addr) (nm : Str) (sp : Sp) : Prop where
  ex : ∃ f fd, FnOk P w K mg base CX k f fd ["self", "other"] sp ∧ PySem.W.findIn K (.ref C) nm = some (some (.ref f)) ∧ PySem.W.isFn K (.ref f) = true ∧ Binds K fd ["self", "other"] []
/-- .. of one parameter -/
structure CalU (P : Program) (w : World) (K : PySem.W.Frag) (mg : Str → Option Value) (base : Heap) (CX : CXT) (k : Nat) (C : Addr) (nm : Str) (sp : Sp) : Prop where
  ex : ∃ f fd, FnOk P w K mg base CX k f fd ["self"] sp ∧ PySem.W.findIn K (.ref C) nm = some (some (.ref f)) ∧ PySem.W.isFn K (.ref f) = true ∧ Binds K fd ["self"] []
/-- what the operators ask of the class -/
structure OpC (K : PySem.W.Frag) (C : Addr) : Prop where
  nf : PySem.W.notFirst K C (.type "int") = true
  sf : PySem.W.selfFirst K C = true
  su : PySem.W.subIn K (.type "int") (.ref C) = some false
/-- .. for one arithmetic operator (its second name, the reflected one, is a def of the class or nothing) -/
structure OpN (K : PySem.W.Frag) (C : Addr) (nm : String) : Prop where
  rd : ∃ rc, PySem.W.findIn K (.ref C) (PySem.dunderR nm) = some rc ∧ (rc = none ∨ ∃ g : Addr, rc = some (.ref g))
  i1 : ∃ fo, PySem.W.findIn K (.type "int") (PySem.dunder nm) = some fo
  i2 : ∃ ro, PySem.W.findIn K (.type "int") (PySem.dunderR nm) = some ro
def rOwn (C : Addr) (sp : Sp) (E : XK) : R2 := fun x y H Q => ∃ a dx fs, x = .ref a ∧ H a = some (.ins C dx fs) ∧ Snd C H y ∧ sp [x, y] H Q E
def rOwnI (C : Addr) (sp : Sp) (E : XK) : R2 := fun x y H Q => ∃ a dx fs i, x = .ref a ∧ H a = some (.ins C dx fs) ∧ y = .int i ∧ sp [x, y] H Q E
def cLenO (C : Addr) (sp : Sp) (E : XK) : List V → Hp → VK → Prop := fun xs H Q => ∃ a dx fs, xs = [.ref a] ∧ H a = some (.ins C dx fs) ∧ sp [.ref a] H (fun z H' => ∃ i, z = .int i ∧ (0 ≤ i ∧ i < 2 ^ 63) ∧ Q (.int i) H') E
section
variable {X : Cx} {CX : CXT} {k : Nat} {nm : String} {sp : Sp} {E : XK} {C f : Addr} {fd : FuncData} {pins : List (Addr × Obj)} {σ : L2.St} {H : Hp} {s : Shared} {a : Addr} {y : V} {u : Value} {Q : VK}
theorem run2 (F : FnOk X.prog X.w X.K X.mg X.base CX k f fd ["self", "other"] sp) (hb : Binds X.K fd ["self", "other"] []) (hx : Passes CX X E) (hr : Room k X.A) (I : Inv X pins σ H s) (ry : RelV y u) (q : sp [.ref a, y] H Q E) :
    wpAny (model X.prog X.w) X.A (call (.ref f) [.ref a, u]) (PySem.W.CmpBack (EP X pins σ Q)) X.xe s := by
  have r2 : Vals [V.ref a, y] [Value.ref a, u] := .cons rfl (.cons ry .nil)
  have hl := F.len _ _ _ _ q
  refine wpAny_call (codeAny_mono (F.run X.A X.stack s H ⟨[.ref a, u], []⟩ [.ref a, u] [.ref a, y] _ E hr I.env0 (by
    have := hb s [.ref a, u] I.kIn (by simpa using hl)
    simpa using this) r2 q) fun r s' hq => ?_)
  cases r with
  | error e => exact hx pins σ H s e s' I hq
  | ok fl =>
    cases fl with
    | ret w =>
      obtain ⟨z, H', I', rz, qz⟩ := I.after hq
      exact back_of rz ⟨z, H', I', rz, qz⟩
    | next => exact False.elim hq
    | brk => exact False.elim hq
    | cont => exact False.elim hq
theorem op_ownC {op : CmpOp} (hop : ∀ a b, compareOp op a b = richCompare op a b) (c : CalO X.prog X.w X.K X.mg X.base CX k C (cmpInfo op).2.1 sp) (oc : OpC X.K C) (hr : Room k X.A) (hx : Passes CX X E) : OpR X (compareOp op) (rOwn C sp E) := by
  intro pins s σ H x y v u Q I rx ry h
  obtain ⟨a, dx, fs, rfl, ha, sy, q⟩ := h
  cases (show v = Value.ref a from rx)
  obtain ⟨f, fd, F, hs, hf, hb⟩ := c.ex
  obtain ⟨mA, J, _⟩ := ins_get I.hok ha
  obtain ⟨od, J, _⟩ := J.look
  obtain ⟨m, hF⟩ := I.fr
  rw [hop]
  have go := run2 (y := y) (u := u) F hb hx hr I ry q
  cases sy with
  | int i =>
    obtain ⟨t, rfl⟩ := (show ∃ t, u = Value.int i t from ry)
    exact PySem.W.cmp_K (op := op) (tb := .type "int") hr.units0 hF I.ok.mod.kin J (PySem.W.Looks.of_pure rfl) oc.nf hs hf go
  | own hb' =>
    cases (show u = Value.ref _ from ry)
    obtain ⟨mB, J', _⟩ := ins_get I.hok hb'
    obtain ⟨od', J', _⟩ := J'.look
    exact PySem.W.cmp_K (op := op) (tb := .ref C) hr.units0 hF I.ok.mod.kin J J'.type (by simp [PySem.W.notFirst]) hs hf go
theorem op_ownI {op : Operator} (c : CalO X.prog X.w X.K X.mg X.base CX k C (PySem.dunder op.info.2) sp) (oc : OpC X.K C) (on : OpN X.K C op.info.2) (hr : Room k X.A) (hx : Passes CX X E) : OpR X (binaryOp op) (rOwnI C sp E) := by
  intro pins s σ H x y v u Q I rx ry h
  obtain ⟨a, dx, fs, i, rfl, ha, rfl, q⟩ := h
  cases (show v = Value.ref a from rx)
  obtain ⟨f, fd, F, hs, hf, hb⟩ := c.ex
  obtain ⟨mA, J, _⟩ := ins_get I.hok ha
  obtain ⟨od, J, _⟩ := J.look
  obtain ⟨m, hF⟩ := I.fr
  have go := run2 (y := .int i) (u := u) F hb hx hr I ry q
  obtain ⟨t, rfl⟩ := (show ∃ t, u = Value.int i t from ry)
  obtain ⟨rc, r1, r2⟩ := on.rd
  obtain ⟨fo, h1⟩ := on.i1
  obtain ⟨ro, h2⟩ := on.i2
  exact PySem.W.ksp_binT (op := op) (T := "int") hF I.ok.mod.kin J rfl oc.sf hs hf r1 r2 h1 h2 oc.su go
theorem op_ownMul (c : CalO X.prog X.w X.K X.mg X.base CX k C "__mul__" sp) (oc : OpC X.K C) (on : OpN X.K C "mul") (hr : Room k X.A) (hx : Passes CX X E) : OpR X (binaryOp .Mult) (rOwnI C sp E) :=
  op_ownI (op := .Mult) (by rw [show PySem.dunder (Operator.info .Mult).2 = ("__mul__" : Str) from by decide +kernel]; exact c) oc on hr hx
theorem op_ownSub (c : CalO X.prog X.w X.K X.mg X.base CX k C "__sub__" sp) (oc : OpC X.K C) (on : OpN X.K C "sub") (hr : Room k X.A) (hx : Passes CX X E) : OpR X (binaryOp .Sub) (rOwnI C sp E) :=
  op_ownI (op := .Sub) (by rw [show PySem.dunder (Operator.info .Sub).2 = ("__sub__" : Str) from by decide +kernel]; exact c) oc on hr hx
theorem op_ownAdd (c : CalO X.prog X.w X.K X.mg X.base CX k C "__add__" sp) (oc : OpC X.K C) (on : OpN X.K C "add") (hr : Room k X.A) (hx : Passes CX X E) : OpR X (binaryOp .Add) (rOwnI C sp E) :=
  op_ownI (op := .Add) (by rw [show PySem.dunder (Operator.info .Add).2 = ("__add__" : Str) from by decide +kernel]; exact c) oc on hr hx
theorem call_lenO (c : CalU X.prog X.w X.K X.mg X.base CX k C "__len__" sp) (hr : Room (k + 1) X.A) (hx : Passes CX X E) : CallR X (.builtin "len") (cLenO C sp E) := by
  intro pins s σ H xs us Q I r h
  obtain ⟨a, dx, fs, rfl, ha, q⟩ := h
  obtain ⟨u, rfl, ru⟩ := r.one
  cases (show u = Value.ref a from ru)
  obtain ⟨f, fd, F, hs, hf, hb⟩ := c.ex
  obtain ⟨mA, J, _⟩ := ins_get I.hok ha
  obtain ⟨od, J, _⟩ := J.look
  obtain ⟨m, hF⟩ := I.fr
  have hl := F.len _ _ _ _ q
  refine PySem.W.len_K hF I.ok.mod.kin J hs hf (wpAny_call (codeAny_mono (F.run X.A.in1 X.stack s H ⟨[.ref a], []⟩ [.ref a] [.ref a] _ E hr.in1 I.env0.in1 (by
    have := hb s [.ref a] I.kIn (by simpa using hl)
    simpa using this) (.cons rfl .nil) q) fun r s' hq => ?_))
  cases r with
  | error e => exact hx pins σ H s e s' I hq
  | ok fl =>
    cases fl with
    | ret w =>
      obtain ⟨z, H', I', rz, i, rfl, hi, qz⟩ := I.after hq
      obtain ⟨t, rfl⟩ := (show ∃ t, w = Value.int i t from rz)
      exact ⟨hi, .int i, H', I'.tok (s'.toks + 1), ⟨_, rfl⟩, qz⟩
    | next => exact False.elim hq
    | brk => exact False.elim hq
    | cont => exact False.elim hq
end
section
variable {K : PySem.W.Frag} {H : Hp} {Q : VK} {C a dx : Addr} {fs : List (Str × V)} {sp : Sp} {E : XK} {y : V} {i : Int}
theorem w_ownI (ha : H a = some (.ins C dx fs)) (q : sp [.ref a, .int i] H Q E) : rOwn C sp E (.ref a) (.int i) H Q := ⟨a, dx, fs, rfl, ha, .int i, q⟩
theorem w_ownO {b dy : Addr} {gs : List (Str × V)} (ha : H a = some (.ins C dx fs)) (hb : H b = some (.ins C dy gs)) (q : sp [.ref a, .ref b] H Q E) : rOwn C sp E (.ref a) (.ref b) H Q := ⟨a, dx, fs, rfl, ha, .own hb, q⟩
theorem w_binI (ha : H a = some (.ins C dx fs)) (q : sp [.ref a, .int i] H Q E) : rOwnI C sp E (.ref a) (.int i) H Q := ⟨a, dx, fs, i, rfl, ha, rfl, q⟩
theorem w_lenO (ha : H a = some (.ins C dx fs)) (q : sp [.ref a] H (fun z H' => ∃ i, z = .int i ∧ (0 ≤ i ∧ i < 2 ^ 63) ∧ Q (.int i) H') E) : cLenO C sp E [.ref a] H Q := ⟨a, dx, fs, rfl, ha, q⟩
end
end Rv
namespace Rv
open PySem PySem.Spec PyProof.Rows L2
structure Red (n d t b : Int) : Prop where
  eq : t * d = n * b
  pos : 0 < b
  low : Int.gcd t b = 1
  le : b ≤ d
  lt : t.natAbs ≤ n.natAbs
theorem red_gcd {n d : Int} (hd : 0 < d) : Red n d (n / (Int.gcd n d : Int)) (d / (Int.gcd n d : Int)) := by
  have g0 : 0 < Int.gcd n d := Int.gcd_pos_iff.mpr (.inr (by omega))
  have g1 : (0 : Int) < (Int.gcd n d : Int) := by omega
  obtain ⟨x, hx⟩ := Int.gcd_dvd_left (a := n) (b := d)
  obtain ⟨y, hy⟩ := Int.gcd_dvd_right (a := n) (b := d)
  have low : Int.gcd x y = 1 := by
    have e : Int.gcd n d = Int.gcd n d * Int.gcd x y := by
      have q := Int.gcd_mul_left (Int.gcd n d : Int) x y
      rw [← hx, ← hy, Int.natAbs_natCast] at q
      exact q
    exact Nat.eq_of_mul_eq_mul_left g0 (by omega)
  have ex : n / (Int.gcd n d : Int) = x := by
    have q := Int.mul_ediv_cancel_left x (show (Int.gcd n d : Int) ≠ 0 by omega)
    rw [← hx] at q
    exact q
  have ey : d / (Int.gcd n d : Int) = y := by
    have q := Int.mul_ediv_cancel_left y (show (Int.gcd n d : Int) ≠ 0 by omega)
    rw [← hy] at q
    exact q
  rw [ex, ey]
  have py : 0 < y := by
    by_cases h : 0 < y
    · exact h
    · have : (Int.gcd n d : Int) * y ≤ 0 := Int.mul_nonpos_of_nonneg_of_nonpos (by omega) (by omega)
      omega
  generalize hg : Int.gcd n d = g at *
  refine ⟨?_, py, low, ?_, ?_⟩
  · rw [hx, hy]
    rw [show x * ((g : Int) * y) = (g : Int) * x * y by rw [Int.mul_left_comm, Int.mul_assoc]]
  · rw [hy]
    have := Int.mul_le_mul_of_nonneg_right (show (1 : Int) ≤ g by omega) (show 0 ≤ y by omega)
    omega
  · rw [hx, Int.natAbs_mul, Int.natAbs_natCast]
    exact Nat.le_mul_of_pos_left _ g0
theorem gcd_step {a b : Int} (hb : 0 < b) (ha : 0 ≤ a) : Int.gcd b (a % b) = Int.gcd a b := by
  have e : a = (a.natAbs : Int) := by omega
  have f : b = (b.natAbs : Int) := by omega
  rw [Int.gcd_comm a b, e, f, ← Int.natCast_emod]
  show Nat.gcd _ _ = Nat.gcd _ _
  simp only [Int.natAbs_natCast]
  rw [Nat.gcd_comm b.natAbs (a.natAbs % b.natAbs), ← Nat.gcd_rec]
def Sz (k : Nat) (z : Int) : Prop := z.natAbs < 2 ^ k
theorem Sz.mono {j k : Nat} {z : Int} (h : Sz j z) (e : j ≤ k) : Sz k z := Nat.lt_of_lt_of_le h (Nat.pow_le_pow_right (by decide) e)
theorem Sz.mul {j k : Nat} {x y : Int} (h : Sz j x) (g : Sz k y) : Sz (j + k) (x * y) := by
  unfold Sz at *
  rw [Int.natAbs_mul, Nat.pow_add]
  exact Nat.mul_lt_mul'' h g
theorem Sz.add {k : Nat} {x y : Int} (h : Sz k x) (g : Sz k y) : Sz (k + 1) (x + y) := by
  unfold Sz at *
  rw [Nat.pow_succ]
  omega
theorem Sz.sub {k : Nat} {x y : Int} (h : Sz k x) (g : Sz k y) : Sz (k + 1) (x - y) := by
  unfold Sz at *
  rw [Nat.pow_succ]
  omega
theorem Red.szt {n d t b : Int} {k : Nat} (r : Red n d t b) (h : Sz k n) : Sz k t := Nat.lt_of_le_of_lt r.lt h
theorem Red.szb {n d t b : Int} {k : Nat} (r : Red n d t b) (h : Sz k d) : Sz k b := by
  have := r.pos
  have := r.le
  unfold Sz at *
  omega
theorem Red.one {n t b : Int} (r : Red n 1 t b) : t = n ∧ b = 1 := by
  have h1 := r.pos
  have h2 := r.le
  have e : b = 1 := by omega
  have h3 := r.eq
  subst e
  omega
def dueF (h w : Nat → Int) (t b : Int) (f : Nat) : Nat → Int
  | 0 => 0
  | k + 1 => dueF h w t b f k + if h (f + k) * b < t then w (f + k) * (t - h (f + k) * b) else 0
def wetF (h : Nat → Int) (t b : Int) (f : Nat) : Nat → List Nat
  | 0 => []
  | k + 1 => wetF h t b f k ++ if h (f + k) * b < t then [f + k] else []
theorem wet_due (h w : Nat → Int) (t b : Int) (f : Nat) : ∀ k : Nat, t * ((wetF h t b f k).map w).sum - ((wetF h t b f k).map fun c => w c * h c).sum * b = dueF h w t b f k
  | 0 => by simp [wetF, dueF]
  | k + 1 => by
    have ih := wet_due h w t b f k
    unfold wetF dueF
    rw [← ih]
    split
    · rw [List.map_append, List.map_append, List.sum_append, List.sum_append]
      simp only [List.map_cons, List.map_nil, List.sum_cons, List.sum_nil, Int.add_zero]
      rw [Int.mul_add, Int.add_mul, Int.mul_sub, Int.mul_comm t (w (f + k)), Int.mul_assoc (w (f + k))]
      omega
    · simp
theorem due_scale {h w : Nat → Int} {t b p q : Int} {f : Nat} (hb : 0 < b) (hq : 0 < q) (e : t * q = p * b) : ∀ k : Nat, dueF h w t b f k * q = dueF h w p q f k * b
  | 0 => by simp [dueF]
  | k + 1 => by
    have ih := due_scale (h := h) (w := w) (f := f) hb hq e k
    unfold dueF
    have iff' : h (f + k) * b < t ↔ h (f + k) * q < p := by
      have e1 : h (f + k) * b * q = h (f + k) * q * b := by rw [Int.mul_assoc, Int.mul_comm b q, Int.mul_assoc]
      constructor
      · intro z
        have z2 := Int.mul_lt_mul_of_pos_right z hq
        rw [e, e1] at z2
        exact Int.lt_of_mul_lt_mul_right z2 (by omega)
      · intro z
        have z2 := Int.mul_lt_mul_of_pos_right z hb
        rw [← e, ← e1] at z2
        exact Int.lt_of_mul_lt_mul_right z2 (by omega)
    rw [Int.add_mul, Int.add_mul, ih]
    by_cases c : h (f + k) * b < t
    · rw [if_pos c, if_pos (iff'.mp c)]
      have e1 : h (f + k) * b * q = h (f + k) * q * b := by rw [Int.mul_assoc, Int.mul_comm b q, Int.mul_assoc]
      rw [Int.mul_assoc, Int.sub_mul, e, e1, ← Int.sub_mul, ← Int.mul_assoc]
    · rw [if_neg c, if_neg (fun z => c (iff'.mpr z))]
      simp
theorem vol_fin {n d t b p q x y : Int} (hb : 0 < b) (h1 : n * b = x * d) (h2 : x * q = y * b) : n * q = y * d := by
  have e : n * q * b = y * d * b := by
    rw [Int.mul_assoc, Int.mul_comm q b, ← Int.mul_assoc, h1, Int.mul_assoc, Int.mul_comm d q, ← Int.mul_assoc, h2, Int.mul_assoc, Int.mul_comm b d, ← Int.mul_assoc]
  exact Int.eq_of_mul_eq_mul_right (by omega) e
/-- level * wide - ground, in lowest terms twice -/
theorem vol_two {n1 d1 n d t b wide ground : Int} (h1 : n1 * (b * 1) = (t * wide) * d1) (p1 : 0 < d1) (h2 : n * (d1 * 1) = (n1 * 1 - ground * d1) * d) : n * b = (t * wide - ground * b) * d := by
  rw [Int.mul_one] at h1 h2
  rw [Int.mul_one] at h2
  have e : n * b * d1 = (t * wide - ground * b) * d * d1 := by
    rw [Int.mul_assoc, Int.mul_comm b d1, ← Int.mul_assoc, h2, Int.mul_assoc, Int.mul_comm d b, ← Int.mul_assoc, Int.sub_mul, h1, Int.mul_assoc ground d1 b, Int.mul_comm d1 b, ← Int.mul_assoc ground b d1, ← Int.sub_mul, Int.mul_assoc, Int.mul_comm d1 d, ← Int.mul_assoc]
  exact Int.eq_of_mul_eq_mul_right (by omega) e
theorem sum_bound {M : Nat} : ∀ {l : List Int}, (∀ x ∈ l, x.natAbs ≤ M) → l.sum.natAbs ≤ l.length * M
  | [], _ => by simp
  | x :: r, h => by
    have h1 := h x List.mem_cons_self
    have h2 := sum_bound fun y hy => h y (List.mem_cons_of_mem _ hy)
    rw [List.sum_cons, List.length_cons, Nat.add_mul]
    omega
theorem wet_len (h : Nat → Int) (t b : Int) (f : Nat) : ∀ k : Nat, (wetF h t b f k).length ≤ k
  | 0 => by simp [wetF]
  | k + 1 => by
    have := wet_len h t b f k
    unfold wetF
    rw [List.length_append]
    split <;> simp <;> omega
theorem wet_mem {h : Nat → Int} {t b : Int} {f c : Nat} : ∀ {k : Nat}, c ∈ wetF h t b f k → f ≤ c ∧ c < f + k
  | 0, m => by simp [wetF] at m
  | k + 1, m => by
    unfold wetF at m
    rcases List.mem_append.mp m with m | m
    · have := wet_mem m
      omega
    · split at m
      · simp at m
        omega
      · simp at m
/-! fractions in the heap -/
def rfl2 (t b : Int) : List (Str × V) := putF "reduced_bottom" (.int b) (putF "reduced_top" (.int t) [])
theorem n_tb : ¬ (("reduced_top" : Str) = "reduced_bottom") := by decide +kernel
theorem rfl2_t (t b : Int) : (rfl2 t b).lookup ("reduced_top" : Str) = some (.int t) := by
  unfold rfl2
  rw [lookup_putF, if_neg n_tb, lookup_putF, if_pos rfl]
theorem rfl2_b (t b : Int) : (rfl2 t b).lookup ("reduced_bottom" : Str) = some (.int b) := by
  unfold rfl2
  rw [lookup_putF, if_pos rfl]
/-- a Ratio t / b in lowest terms stands at p -/
def RatAt (C : Addr) (H : Hp) (p : Addr) (t b : Int) : Prop := (0 < b ∧ Int.gcd t b = 1) ∧ ∃ dx, H p = some (.ins C dx (rfl2 t b))
theorem RatAt.same {C : Addr} {H H' : Hp} {p : Addr} {t b : Int} (h : RatAt C H p t b) (e : Same H H') : RatAt C H' p t b := by
  obtain ⟨l, dx, h1⟩ := h
  exact ⟨l, dx, e _ _ h1⟩
/-- a number: an int or a Ratio -/
def Num (C : Addr) (H : Hp) (v : V) (n d : Int) : Prop := (v = .int n ∧ d = 1) ∨ ∃ p, v = .ref p ∧ RatAt C H p n d
theorem Num.same {C : Addr} {H H' : Hp} {v : V} {n d : Int} (h : Num C H v n d) (e : Same H H') : Num C H' v n d := by
  rcases h with h | ⟨p, h1, h2⟩
  · exact .inl h
  · exact .inr ⟨p, h1, h2.same e⟩
theorem Num.pos {C : Addr} {H : Hp} {v : V} {n d : Int} (h : Num C H v n d) : 0 < d := by
  rcases h with ⟨_, h⟩ | ⟨p, _, h, _⟩
  · omega
  · exact h.1
/-- what is told of the class Ratio -/
structure RCls (K : PySem.W.Frag) (C : Addr) : Prop where
  cl : Cls K C
  nT : NoAttr K C "reduced_top"
  nB : NoAttr K C "reduced_bottom"
  cA : PySem.W.findIn K (.ref C) "__class__" = some (some (.builtin "object.__class__"))
  cG : PySem.W.specialIn K (.builtin "object.__class__") "__get__" = some (some (.builtin "getset_descriptor.__get__"))
  cT : PySem.W.takesIn K (.builtin "object.__class__") = some true
  cM : PySem.W.mroIn K C (.type "object") = some true
  ki : PySem.W.kitOne K (.type "int") (.ref C) = some false
def spPLen (K : PySem.W.Frag) (C : Addr) : Sp := fun vs H Q _ => ∃ p hs ws, vs = [.ref p] ∧ PCls K C ∧ ProfAt K C H p hs ws ∧ Q (.int (hs.length : Int)) H
def spGcd (K : PySem.W.Frag) : Sp := fun vs H Q _ => ∃ a b : Int, vs = [.int a, .int b] ∧ 0 ≤ a ∧ 0 ≤ b ∧ Q (.int (Int.gcd a b : Int)) H
def spRInit (K : PySem.W.Frag) (C : Addr) : Sp := fun vs H Q _ => ∃ p dx n d, vs = [.ref p, .int n, .int d] ∧ RCls K C ∧ H p = some (.ins C dx []) ∧ 0 < d ∧ Sz 8000 d ∧
  ∀ H' t b, Red n d t b → RatAt C H' p t b → (∀ c o, c ≠ p → H c = some o → H' c = some o) → Q .non H'
def spGap (K : PySem.W.Frag) (C : Addr) : Sp := fun vs H Q _ => ∃ a c t b n d, vs = [.ref a, .ref c] ∧ RCls K C ∧ RatAt C H a t b ∧ RatAt C H c n d ∧ Sz 4000 t ∧ Sz 4000 b ∧ Sz 4000 n ∧ Sz 4000 d ∧ Q (.int (t * d - n * b)) H
def spAsR (K : PySem.W.Frag) (C : Addr) : Sp := fun vs H Q _ => ∃ v n d, vs = [v] ∧ RCls K C ∧ Num C H v n d ∧ ∀ q H', Same H H' → RatAt C H' q n d → Q (.ref q) H'
def spChkN (K : PySem.W.Frag) (C : Addr) : Sp := spAsR K C
def spBin (f : Int → Int → Int → Int → Int) (K : PySem.W.Frag) (C : Addr) : Sp := fun vs H Q _ => ∃ a v t b n d, vs = [.ref a, v] ∧ RCls K C ∧ RatAt C H a t b ∧ Num C H v n d ∧ Sz 3000 t ∧ Sz 3000 b ∧ Sz 3000 n ∧ Sz 3000 d ∧
  ∀ q H' x y, Same H H' → RatAt C H' q x y → Red (f t b n d) (b * d) x y → Q (.ref q) H'
def spMul : PySem.W.Frag → Addr → Sp := spBin fun t _ n _ => t * n
def spSub : PySem.W.Frag → Addr → Sp := spBin fun t b n d => t * d - n * b
def spAdd : PySem.W.Frag → Addr → Sp := spBin fun t b n d => t * d + n * b
def spCmp (f : Int → Bool) (K : PySem.W.Frag) (C : Addr) : Sp := fun vs H Q _ => ∃ a v t b n d, vs = [.ref a, v] ∧ RCls K C ∧ RatAt C H a t b ∧ Num C H v n d ∧ Sz 3000 t ∧ Sz 3000 b ∧ Sz 3000 n ∧ Sz 3000 d ∧
  ∀ H', Same H H' → Q (.bl (f (t * d - n * b))) H'
def spGt : PySem.W.Frag → Addr → Sp := spCmp fun z => decide (0 < z)
def spLe : PySem.W.Frag → Addr → Sp := spCmp fun z => decide (z ≤ 0)
/-- heights and widths of a profile -/
structure PrOk (hs ws : List Int) : Prop where
  pos : 1 ≤ hs.length
  le : hs.length ≤ 60
  eq : ws.length = hs.length
  hh : ∀ z ∈ hs, HOk1 z
  ww : ∀ z ∈ ws, WOk1 z
def spIsCol (K : PySem.W.Frag) (C : Addr) : Sp := fun vs H Q _ => ∃ p hs ws, ∃ c : Int, vs = [.ref p, .int c] ∧ PCls K C ∧ ProfAt K C H p hs ws ∧ hs.length ≤ 60 ∧ Q (.bl (decide (0 ≤ c) && decide (c ≤ (hs.length : Int) - 1))) H
def spChkCol (K : PySem.W.Frag) (C : Addr) : Sp := fun vs H Q _ => ∃ p hs ws, ∃ c : Nat, vs = [.ref p, .int (c : Int)] ∧ PCls K C ∧ ProfAt K C H p hs ws ∧ hs.length ≤ 60 ∧ c < hs.length ∧ Q .non H
def spChkRun (K : PySem.W.Frag) (C : Addr) : Sp := fun vs H Q _ => ∃ p hs ws, ∃ f l : Nat, vs = [.ref p, .int (f : Int), .int (l : Int)] ∧ PCls K C ∧ ProfAt K C H p hs ws ∧ hs.length ≤ 60 ∧ f ≤ l ∧ l < hs.length ∧ Q .non H
def hN (hs : List Int) (i : Nat) : Int := (hs[i]?).getD 0
theorem at_hN {hs : List Int} {i : Nat} (h : i < hs.length) : atI (hs.map V.int) (i : Int) = some (.int (hN hs i)) := by
  refine at_nat ?_
  rw [List.getElem?_map]
  unfold hN
  rw [List.getElem?_eq_getElem h]
  rfl
theorem hN_mem {hs : List Int} {i : Nat} (h : i < hs.length) : hN hs i ∈ hs := by
  unfold hN
  rw [List.getElem?_eq_getElem h]
  exact List.getElem_mem h
def spVolB (K : PySem.W.Frag) (CP CR : Addr) : Sp := fun vs H Q _ => ∃ p hs ws, ∃ f l : Nat, ∃ q t b, vs = [.ref p, .int (f : Int), .int (l : Int), .ref q] ∧ PCls K CP ∧ RCls K CR ∧ ProfAt K CP H p hs ws ∧ PrOk hs ws ∧ f ≤ l ∧ l < hs.length ∧ RatAt CR H q t b ∧ Sz 1000 t ∧ Sz 1000 b ∧
  ∀ r H' n d, Same H H' → RatAt CR H' r n d → n * b = dueF (hN hs) (hN ws) t b f (l + 1 - f) * d → Sz 2000 n → Sz 1000 d → Q (.ref r) H'
def spVolU (K : PySem.W.Frag) (CP CR : Addr) : Sp := fun vs H Q _ => ∃ p hs ws, ∃ f l : Nat, ∃ v t b, vs = [.ref p, .int (f : Int), .int (l : Int), v] ∧ PCls K CP ∧ RCls K CR ∧ ProfAt K CP H p hs ws ∧ PrOk hs ws ∧ f ≤ l ∧ l < hs.length ∧ Num CR H v t b ∧ Sz 1000 t ∧ Sz 1000 b ∧
  ∀ r H' n d, Same H H' → RatAt CR H' r n d → n * b = dueF (hN hs) (hN ws) t b f (l + 1 - f) * d → Sz 2000 n → Sz 1000 d → Q (.ref r) H'
def t_Profile___len__ (K : PySem.W.Frag) (C_Profile : Addr) : TS :=
  (tRet (tCB (cLen K) (tCons (tFld K (tVar 0) "column_heights") tNil)))
def t_common_divisor (K : PySem.W.Frag) : TS :=
  (tSeq (tWhile (tTest (tOp rNe (tVar 1) (tC (.int 0)))) (tPar 0 1 (tCons (tVar 1) (tCons (tOp oMod (tVar 0) (tVar 1)) tNil))))
    (tRet (tVar 0)))
def t_gap (K : PySem.W.Frag) (C_Ratio : Addr) : TS :=
  (tRet (tOp oSub (tOp oMulW (tFld K (tVar 0) "reduced_top") (tFld K (tVar 1) "reduced_bottom")) (tOp oMulW (tFld K (tVar 1) "reduced_top") (tFld K (tVar 0) "reduced_bottom"))))
def t_Ratio___init__ (K : PySem.W.Frag) (C_Ratio : Addr) : TS :=
  (tSeq (tIfS (tNot (tB (tCall (spWhole K) [] E0 (tCons (tVar 1) tNil)))) tNever tNext)
    (tSeq (tIfS (tOr (tNot (tB (tCall (spWhole K) [] E0 (tCons (tVar 2) tNil)))) (tTest (tOp rEq (tVar 2) (tC (.int 0))))) tNever tNext)
    (tSeq (tAsg (tCall (spGcd K) [] E0 (tCons (tCB cAbs (tCons (tVar 1) tNil)) (tCons (tCB cAbs (tCons (tVar 2) tNil)) tNil))) (gName 3))
    (tSeq (tIfS (tTest (tOp oLt (tVar 2) (tC (.int 0)))) (tAsg (tUn (rU fun i => .int (-i)) (tVar 3)) (gName 3)) tNext)
    (tSeq (sFld K (tVar 0) (tOp oDiv (tVar 1) (tVar 3)) "reduced_top")
    (sFld K (tVar 0) (tOp oDiv (tVar 2) (tVar 3)) "reduced_bottom"))))))
def t_as_ratio (K : PySem.W.Frag) (C_Ratio : Addr) : TS :=
  (tSeq (tIfS (tB (tCB (rIsi K) (tCons (tVar 0) (tCons (tC (.ref C_Ratio)) tNil)))) (tRet (tVar 0)) tNext)
    (tSeq (tIfS (tB (tCall (spWhole K) [] E0 (tCons (tVar 0) tNil))) (tRet (tMake C_Ratio (spRInit K C_Ratio) [.int 1] E0 (tCons (tVar 0) tNil))) tNext)
    (tRet (tC .non))))
def t_Ratio___mul__ (K : PySem.W.Frag) (C_Ratio : Addr) : TS :=
  (tSeq (tAsg (tCall (spAsR K C_Ratio) [] E0 (tCons (tVar 1) tNil)) (gName 2))
    (tSeq (tIfS (tTest (tOp oIsN (tVar 2) (tC .non))) tNever tNext)
    (tRet (tMake C_Ratio (spRInit K C_Ratio) [] E0 (tCons (tOp oMulW (tFld K (tVar 0) "reduced_top") (tFld K (tVar 2) "reduced_top")) (tCons (tOp oMulW (tFld K (tVar 0) "reduced_bottom") (tFld K (tVar 2) "reduced_bottom")) tNil))))))
def t_Ratio___sub__ (K : PySem.W.Frag) (C_Ratio : Addr) : TS :=
  (tSeq (tAsg (tCall (spAsR K C_Ratio) [] E0 (tCons (tVar 1) tNil)) (gName 2))
    (tSeq (tIfS (tTest (tOp oIsN (tVar 2) (tC .non))) tNever tNext)
    (tRet (tMake C_Ratio (spRInit K C_Ratio) [] E0 (tCons (tCall (spGap K C_Ratio) [] E0 (tCons (tVar 0) (tCons (tVar 2) tNil))) (tCons (tOp oMulW (tFld K (tVar 0) "reduced_bottom") (tFld K (tVar 2) "reduced_bottom")) tNil))))))
def t_Ratio___gt__ (K : PySem.W.Frag) (C_Ratio : Addr) : TS :=
  (tSeq (tAsg (tCall (spAsR K C_Ratio) [] E0 (tCons (tVar 1) tNil)) (gName 2))
    (tSeq (tIfS (tTest (tOp oIsN (tVar 2) (tC .non))) tNever tNext)
    (tRet (tOp oGt (tCall (spGap K C_Ratio) [] E0 (tCons (tVar 0) (tCons (tVar 2) tNil))) (tC (.int 0))))))
def t_checked_number (K : PySem.W.Frag) (C_Ratio : Addr) : TS :=
  (tSeq (tAsg (tCall (spAsR K C_Ratio) [] E0 (tCons (tVar 0) tNil)) (gName 1))
    (tSeq (tIfS (tTest (tOp oIsN (tVar 1) (tC .non))) tNever tNext)
    (tRet (tVar 1))))
def t_is_column (K : PySem.W.Frag) (C_Profile : Addr) : TS :=
  (tRet (tCall (spWithin K) [] E0 (tCons (tVar 1) (tCons (tC (.int 0)) (tCons (tOp oSub (tCB (cLenO C_Profile (spPLen K C_Profile) E0) (tCons (tVar 0) tNil)) (tC (.int 1))) tNil)))))
def t_check_column (K : PySem.W.Frag) (C_Profile : Addr) : TS :=
  (tIfS (tNot (tB (tCall (spIsCol K C_Profile) [] E0 (tCons (tVar 0) (tCons (tVar 1) tNil))))) tNever tNext)
def t_check_run (K : PySem.W.Frag) (C_Profile : Addr) : TS :=
  (tSeq (tDrop (tCall (spChkCol K C_Profile) [] E0 (tCons (tVar 0) (tCons (tVar 1) tNil))))
    (tIfS (tNot (tB (tCall (spWithin K) [] E0 (tCons (tVar 2) (tCons (tVar 1) (tCons (tOp oSub (tCB (cLenO C_Profile (spPLen K C_Profile) E0) (tCons (tVar 0) tNil)) (tC (.int 1))) tNil)))))) tNever tNext))
def t_volume_below (K : PySem.W.Frag) (C_Profile : Addr) (C_Ratio : Addr) : TS :=
  (tSeq (tAsg (tProp C_Profile (getSp C_Profile "column_heights") [] E0 (tVar 0)) (gName 4))
    (tSeq (tAsg (tProp C_Profile (getSp C_Profile "column_widths") [] E0 (tVar 0)) (gName 5))
    (tSeq (tAsg (tLc (iRng2 (tCons (tVar 1) (tCons (tOp oAdd (tVar 2) (tC (.int 1))) tNil))) (gName 9) (tTest (tOp (rOwn C_Ratio (spGt K C_Ratio) E0) (tVar 3) (tOp (rIxT K) (tVar 4) (tVar 9)))) (tVar 9) [9]) (gName 6))
    (tSeq (tAsg (tCB (rSum K) (tCons (tLc (iList K (tVar 6)) (gName 9) tYes (tOp (rIxT K) (tVar 5) (tVar 9)) [9]) tNil)) (gName 7))
    (tSeq (tAsg (tCB (rSum K) (tCons (tLc (iList K (tVar 6)) (gName 9) tYes (tOp oMulW (tOp (rIxT K) (tVar 5) (tVar 9)) (tOp (rIxT K) (tVar 4) (tVar 9))) [9]) tNil)) (gName 8))
    (tRet (tOp (rOwnI C_Ratio (spSub K C_Ratio) E0) (tOp (rOwnI C_Ratio (spMul K C_Ratio) E0) (tVar 3) (tVar 7)) (tVar 8))))))))
def t_volume_up_to (K : PySem.W.Frag) (C_Profile : Addr) (C_Ratio : Addr) : TS :=
  (tSeq (tDrop (tCall (spChkRun K C_Profile) [] E0 (tCons (tVar 0) (tCons (tVar 1) (tCons (tVar 2) tNil)))))
    (tRet (tCall (spVolB K C_Profile C_Ratio) [] E0 (tCons (tVar 0) (tCons (tVar 1) (tCons (tVar 2) (tCons (tCall (spChkN K C_Ratio) [] E0 (tCons (tVar 3) tNil)) tNil)))))))
local macro_rules | `(tactic| walk_at "rv st") => `(tactic| first
  | with_reducible refine iteT ?_ | with_reducible refine iteF ?_ | with_reducible refine w_nx ?_ | with_reducible refine w_yes ?_ | with_reducible refine w_rt ?_ | with_reducible refine iteNT ?_ | with_reducible refine iteNF ?_ | with_reducible refine iteNRf ?_ | with_reducible refine iteRf ?_ | with_reducible refine w_seqA ?_ | with_reducible refine w_seqD ?_ | with_reducible refine w_seqP ?_ | with_reducible refine w_asg ?_ | with_reducible refine w_ret ?_ | with_reducible refine w_drop ?_ | with_reducible refine w_ifs ?_ | with_reducible refine w_next ?_ | with_reducible refine w_par ?_
  | with_reducible refine w_op ?_ | with_reducible refine w_un ?_ | ((with_reducible show tVar _ _ _ _); refine' w_var ?hv ?_; (case hv => exact rfl)) | with_reducible refine w_c ?_ | with_reducible refine w_test ?_ | with_reducible refine w_tB ?_
  | with_reducible refine w_bl ?_ | with_reducible refine w_I0 ?_ | with_reducible refine w_U ?_ | with_reducible refine w_eqI ?_ | with_reducible refine w_neI ?_
  | with_reducible refine w_cons ?_ | with_reducible refine w_nil ?_ | with_reducible refine w_gn ?_ | with_reducible refine w_gsub ?_ | with_reducible refine w_and ?_ | with_reducible refine w_or ?_ | with_reducible refine w_not ?_
  | with_reducible refine w_andV ?_ | with_reducible refine w_orV ?_ | with_reducible refine w_notV ?_ | with_reducible refine w_if ?_ | with_reducible refine w_cb ?_ | with_reducible refine w_call ?_ | with_reducible refine w_lst ?_ | with_reducible refine w_tup ?_
  | with_reducible refine w_sl ?_ | with_reducible refine w_noPart ?_ | with_reducible refine w_part ?_ | with_reducible refine w_ex1 ?_ | with_reducible refine w_exb ?_ | with_reducible refine w_intB ?_ | with_reducible refine w_intI ?_ | with_reducible refine w_abs ?_)
local macro_rules | `(tactic| walk_at "rv ix") => `(tactic| ((with_reducible show rIxL _ _ _ _ _); refine' w_ixL (sq_lst ?ha) ?hb ?_; (case ha => first | exact upd_same | assumption); (case hb => first | exact rfl | assumption)))
local macro_rules | `(tactic| walk_at "rv ar") => `(tactic| first
  | (refine' w_I ?hc ?_; (case hc => first | (show (0 : Int) < _; first | assumption | decide | omega) | exact pow_c (by decide) (by decide) (by first | decide | omega) (by first | decide | omega) | exact mul_r (by first | decide | omega) (by first | decide | omega) | exact mul_l (by first | decide | omega) (by first | decide | omega) | exact divw (by first | assumption | decide | omega) (by first | assumption | decide | omega))))
local macro_rules | `(tactic| walk_at "rv go") => `(tactic| repeat first | walk_at "rv st" | walk_at "rv ix" | ((with_reducible show rI _ _ _ _ _ _); walk_at "rv ar"))
theorem whole_call {K : PySem.W.Frag} {H : Hp} {Q : VK} {E : XK} {i : Int} (q : Q (.bl true) H) : spWhole K ([.int i] ++ []) H Q E := ⟨.int i, rfl, .int i, q⟩
theorem mulw {j k : Nat} {x y : Int} (h : Sz j x) (g : Sz k y) (h0 : 0 < j) (h1 : 0 < k) (h2 : j + k ≤ 1000000) : CMulW x y := wide_mul h g h0 h1 h2
theorem p_plen {K : PySem.W.Frag} {C : Addr} {vs : List V} {H : Hp} {Q : VK} {E : XK} (h : spPLen K C vs H Q E) : t_Profile___len__ K C { nx := fun _ H' => Q .non H', rt := Q } (start ["self"] vs) H := by
  obtain ⟨p, hs, ws, rfl, P, ⟨dx, t1, t2, hp, h1, h2⟩, k⟩ := h
  unfold t_Profile___len__
  walk_at "rv go"
  refine w_fld rfl hp P.cl P.nH (pfl_h _ _) ?_
  walk_at "rv go"
  refine w_lenT (sq_tup h1) ?_
  rw [List.length_map]
  exact k
theorem p_gcd {K : PySem.W.Frag} {vs : List V} {H : Hp} {Q : VK} {E : XK} (h : spGcd K vs H Q E) : t_common_divisor K { nx := fun _ H' => Q .non H', rt := Q } (start ["first", "second"] vs) H := by
  obtain ⟨a, b, rfl, ha, hb, k⟩ := h
  unfold t_common_divisor
  refine w_seq ?_
  refine w_while (fun m σ' H' => ∃ x y : Int, σ' = [some (.int x), some (.int y)] ∧ 0 ≤ x ∧ 0 ≤ y ∧ m = y.toNat ∧ Int.gcd x y = Int.gcd a b ∧ H' = H) (m := b.toNat) ⟨a, b, rfl, ha, hb, rfl, rfl, rfl⟩ ?_
  rintro m σ' H' ⟨x, y, rfl, hx, hy, rfl, e, rfl⟩
  walk_at "rv go"
  refine w_bothN (fun h1 => ?_) (fun h1 => ?_)
  · refine w_turn ?_
    have y0 : 0 < y := by omega
    have z1 := Int.emod_lt_of_pos x y0
    have z2 := Int.emod_nonneg x (show y ≠ 0 by omega)
    walk_at "rv go"
    refine ⟨_, _, rfl, ?_⟩
    exact ⟨(x % y).toNat, by omega, y, x % y, rfl, hy, z2, rfl, by rw [gcd_step y0 hx]; exact e, rfl⟩
  · subst h1
    walk_at "rv go"
    rw [← e, Int.gcd_zero_right] at k
    have e2 : ((x.natAbs : Nat) : Int) = x := by omega
    rw [e2] at k
    exact k
theorem p_gap {K : PySem.W.Frag} {C : Addr} {vs : List V} {H : Hp} {Q : VK} {E : XK} (h : spGap K C vs H Q E) : t_gap K C { nx := fun _ H' => Q .non H', rt := Q } (start ["left", "right"] vs) H := by
  obtain ⟨a, c, t, b, n, d, rfl, R, ⟨l1, dx, h1⟩, ⟨l2, dy, h2⟩, s1, s2, s3, s4, k⟩ := h
  unfold t_gap
  walk_at "rv go"
  refine w_fld rfl h1 R.cl R.nT (rfl2_t _ _) ?_
  refine w_fld rfl h2 R.cl R.nB (rfl2_b _ _) ?_
  refine w_I (mulw s1 s4 (by decide) (by decide) (by decide)) ?_
  walk_at "rv go"
  refine w_fld rfl h2 R.cl R.nT (rfl2_t _ _) ?_
  refine w_fld rfl h1 R.cl R.nB (rfl2_b _ _) ?_
  refine w_I (mulw s3 s2 (by decide) (by decide) (by decide)) ?_
  walk_at "rv go"
  exact k
theorem p_rinit {K : PySem.W.Frag} {C : Addr} {vs : List V} {H : Hp} {Q : VK} {E : XK} (h : spRInit K C vs H Q E) : t_Ratio___init__ K C { nx := fun _ H' => Q .non H', rt := Q } (start ["self", "numerator", "denominator", "divisor"] vs) H := by
  obtain ⟨p, dx, n, d, rfl, R, hp, hd, sd, k⟩ := h
  unfold t_Ratio___init__
  refine w_seq ?_
  walk_at "rv go"
  refine whole_call ?_
  walk_at "rv go"
  refine w_seq ?_
  walk_at "rv go"
  refine whole_call ?_
  walk_at "rv go"
  rw [decide_eq_false (show ¬ d = 0 by omega)]
  walk_at "rv go"
  refine ⟨_, _, rfl, by split <;> omega, by split <;> omega, ?_⟩
  have eg : Int.gcd (if n < 0 then -n else n) (if d < 0 then -d else d) = Int.gcd n d := by
    have e1 : (if n < 0 then -n else n).natAbs = n.natAbs := by split <;> omega
    have e2 : (if d < 0 then -d else d).natAbs = d.natAbs := by split <;> omega
    show Nat.gcd _ _ = Nat.gcd _ _
    rw [e1, e2]
  rw [eg]
  have red := red_gcd (n := n) hd
  have g0 : 0 < Int.gcd n d := Int.gcd_pos_iff.mpr (.inr (by omega))
  have gd : Int.gcd n d ≤ d.natAbs := by
    have := Int.gcd_dvd_right (a := n) (b := d)
    have z := Int.le_of_dvd hd this
    omega
  have sg : Sz 8000 (Int.gcd n d : Int) := by
    unfold Sz at *
    rw [Int.natAbs_natCast]
    omega
  have cd : ∀ z : Int, CDivW z (Int.gcd n d : Int) := fun z => wide_div (b := 8000) (by omega) sg (by decide) (by decide)
  generalize (Int.gcd n d : Int) = g at *
  walk_at "rv go"
  refine w_seq ?_
  walk_at "rv go"
  rw [decide_eq_false (show ¬ d < 0 by omega)]
  walk_at "rv go"
  refine w_seq ?_
  refine w_sfld ?_
  walk_at "rv go"
  refine w_I (cd _) ?_
  walk_at "rv go"
  refine w_put hp R.cl R.nT (by decide) ?_
  refine w_nx ?_
  refine w_sfld ?_
  walk_at "rv go"
  refine w_I (cd _) ?_
  walk_at "rv go"
  refine w_put (fs := putF "reduced_top" (.int (n / g)) []) upd_same R.cl R.nB (by show (1 : Nat) < 1000; decide) ?_
  refine k _ _ _ red ⟨⟨red.pos, red.low⟩, dx, upd_same⟩ fun c o nc hc => ?_
  rw [upd_ne nc, upd_ne nc]
  exact hc
theorem mk_rat {K : PySem.W.Frag} {C : Addr} {H : Hp} {Q : Addr → Hp → Prop} {E : XK} {n d : Int} {us dvs : List V} (hu : us ++ dvs = [.int n, .int d]) (R : RCls K C) (hd : 0 < d) (sd : Sz 8000 d) (k : ∀ x H' t b, Same H H' → Red n d t b → RatAt C H' x t b → Q x H') :
    ∀ x dx, H x = none → H dx = none → dx ≠ x → spRInit K C (.ref x :: (us ++ dvs)) (upd (upd H dx (.own x)) x (.ins C dx [])) (fun v H2 => v = .non ∧ Q x H2) E := by
  intro x dx nx ndx hne
  rw [hu]
  have s0 : Same H (upd (upd H dx (.own x)) x (.ins C dx [])) := fun b o hb => by
    rw [upd_ne (ne_of_none hb nx), upd_ne (ne_of_none hb ndx)]
    exact hb
  exact ⟨x, dx, n, d, rfl, R, upd_same, hd, sd, fun H' t b r hr hf => ⟨rfl, k x H' t b (fun b o hb => hf b o (ne_of_none hb nx) (s0 b o hb)) r hr⟩⟩
theorem sz_one {k : Nat} (h : 1 ≤ k) : Sz k 1 := Nat.lt_of_lt_of_le (show Int.natAbs 1 < 2 ^ 1 by decide) (Nat.pow_le_pow_right (by decide) h)
theorem p_asR {K : PySem.W.Frag} {C : Addr} {vs : List V} {H : Hp} {Q : VK} {E : XK} (h : spAsR K C vs H Q E) : t_as_ratio K C { nx := fun _ H' => Q .non H', rt := Q } (start ["value"] vs) H := by
  obtain ⟨v, n, d, rfl, R, hv, k⟩ := h
  unfold t_as_ratio
  refine w_seq ?_
  rcases hv with ⟨rfl, rfl⟩ | ⟨p, rfl, hl, dx, hp⟩
  · walk_at "rv go"
    refine isi_of (.own C) (.base (.int n)) R.ki ?_
    walk_at "rv go"
    refine w_seq ?_
    walk_at "rv go"
    refine whole_call ?_
    walk_at "rv go"
    refine w_make ?_
    walk_at "rv go"
    refine mk_rat (Q := fun x H' => Q (.ref x) H') rfl R (by decide) (sz_one (by decide)) fun x H' t b e r hr => ?_
    obtain ⟨rfl, rfl⟩ := r.one
    exact k x H' e hr
  · walk_at "rv go"
    refine isi_of (.own C) (.base (.ins hp R.cl R.cA R.cG R.cT R.cM)) kit_self ?_
    walk_at "rv go"
    exact k p H (Same.refl H) ⟨hl, dx, hp⟩
theorem p_chkN {K : PySem.W.Frag} {C : Addr} {vs : List V} {H : Hp} {Q : VK} {E : XK} (h : spChkN K C vs H Q E) : t_checked_number K C { nx := fun _ H' => Q .non H', rt := Q } (start ["value", "found"] vs) H := by
  obtain ⟨v, n, d, rfl, R, hv, k⟩ := h
  unfold t_checked_number
  walk_at "rv go"
  refine ⟨v, n, d, rfl, R, hv, fun q H' e hq => ?_⟩
  walk_at "rv go"
  refine w_seq ?_
  walk_at "rv go"
  refine ⟨rfl, ?_⟩
  rw [decide_eq_false (show ¬ V.ref q = V.non from fun z => nomatch z)]
  walk_at "rv go"
  exact k q H' e hq
theorem p_mul {K : PySem.W.Frag} {C : Addr} {vs : List V} {H : Hp} {Q : VK} {E : XK} (h : spMul K C vs H Q E) : t_Ratio___mul__ K C { nx := fun _ H' => Q .non H', rt := Q } (start ["self", "other", "right"] vs) H := by
  obtain ⟨a, v, t, b, n, d, rfl, R, ha, hv, s1, s2, s3, s4, k⟩ := h
  unfold t_Ratio___mul__
  walk_at "rv go"
  refine ⟨v, n, d, rfl, R, hv, fun q H1 e hq => ?_⟩
  have hd := hv.pos
  obtain ⟨l1, dx, ha⟩ := ha.same e
  obtain ⟨l2, dy, hq⟩ := hq
  walk_at "rv go"
  refine w_seq ?_
  walk_at "rv go"
  refine ⟨rfl, ?_⟩
  rw [decide_eq_false (show ¬ V.ref q = V.non from fun z => nomatch z)]
  walk_at "rv go"
  refine w_make ?_
  walk_at "rv go"
  refine w_fld rfl ha R.cl R.nT (rfl2_t _ _) ?_
  refine w_fld rfl hq R.cl R.nT (rfl2_t _ _) ?_
  refine w_I (mulw s1 s3 (by decide) (by decide) (by decide)) ?_
  walk_at "rv go"
  refine w_fld rfl ha R.cl R.nB (rfl2_b _ _) ?_
  refine w_fld rfl hq R.cl R.nB (rfl2_b _ _) ?_
  refine w_I (mulw s2 s4 (by decide) (by decide) (by decide)) ?_
  walk_at "rv go"
  exact mk_rat (Q := fun x H' => Q (.ref x) H') rfl R (Int.mul_pos l1.1 hd) ((s2.mul s4).mono (by decide)) fun x H' y z e2 r hr => k x H' y z (e.trans e2) hr r
theorem p_sub {K : PySem.W.Frag} {C : Addr} {vs : List V} {H : Hp} {Q : VK} {E : XK} (h : spSub K C vs H Q E) : t_Ratio___sub__ K C { nx := fun _ H' => Q .non H', rt := Q } (start ["self", "other", "right"] vs) H := by
  obtain ⟨a, v, t, b, n, d, rfl, R, ha, hv, s1, s2, s3, s4, k⟩ := h
  unfold t_Ratio___sub__
  walk_at "rv go"
  refine ⟨v, n, d, rfl, R, hv, fun q H1 e hq => ?_⟩
  have hd := hv.pos
  have ha2 := ha.same e
  obtain ⟨l1, dx, ha⟩ := ha.same e
  have hq2 := hq
  obtain ⟨l2, dy, hq⟩ := hq
  walk_at "rv go"
  refine w_seq ?_
  walk_at "rv go"
  refine ⟨rfl, ?_⟩
  rw [decide_eq_false (show ¬ V.ref q = V.non from fun z => nomatch z)]
  walk_at "rv go"
  refine w_make ?_
  walk_at "rv go"
  refine ⟨a, q, t, b, n, d, rfl, R, ha2, hq2, s1.mono (by decide), s2.mono (by decide), s3.mono (by decide), s4.mono (by decide), ?_⟩
  walk_at "rv go"
  refine w_fld rfl ha R.cl R.nB (rfl2_b _ _) ?_
  refine w_fld rfl hq R.cl R.nB (rfl2_b _ _) ?_
  refine w_I (mulw s2 s4 (by decide) (by decide) (by decide)) ?_
  walk_at "rv go"
  exact mk_rat (Q := fun x H' => Q (.ref x) H') rfl R (Int.mul_pos l1.1 hd) ((s2.mul s4).mono (by decide)) fun x H' y z e2 r hr => k x H' y z (e.trans e2) hr r
theorem p_gt {K : PySem.W.Frag} {C : Addr} {vs : List V} {H : Hp} {Q : VK} {E : XK} (h : spGt K C vs H Q E) : t_Ratio___gt__ K C { nx := fun _ H' => Q .non H', rt := Q } (start ["self", "other", "right"] vs) H := by
  obtain ⟨a, v, t, b, n, d, rfl, R, ha, hv, s1, s2, s3, s4, k⟩ := h
  unfold t_Ratio___gt__
  walk_at "rv go"
  refine ⟨v, n, d, rfl, R, hv, fun q H1 e hq => ?_⟩
  walk_at "rv go"
  refine w_seq ?_
  walk_at "rv go"
  refine ⟨rfl, ?_⟩
  rw [decide_eq_false (show ¬ V.ref q = V.non from fun z => nomatch z)]
  walk_at "rv go"
  refine ⟨a, q, t, b, n, d, rfl, R, ha.same e, hq, s1.mono (by decide), s2.mono (by decide), s3.mono (by decide), s4.mono (by decide), ?_⟩
  walk_at "rv go"
  exact k H1 e
theorem p_isCol {K : PySem.W.Frag} {C : Addr} {vs : List V} {H : Hp} {Q : VK} {E : XK} (h : spIsCol K C vs H Q E) : t_is_column K C { nx := fun _ H' => Q .non H', rt := Q } (start ["profile", "value"] vs) H := by
  obtain ⟨p, hs, ws, c, rfl, P, hp, h60, k⟩ := h
  unfold t_is_column
  walk_at "rv go"
  obtain ⟨dx, t1, t2, h0, h1, h2⟩ := id hp
  refine w_lenO h0 ?_
  refine ⟨p, hs, ws, rfl, P, hp, _, rfl, by omega, ?_⟩
  walk_at "rv go"
  exact ⟨.int c, _, _, rfl, .int c, k⟩
theorem p_chkCol {K : PySem.W.Frag} {C : Addr} {vs : List V} {H : Hp} {Q : VK} {E : XK} (h : spChkCol K C vs H Q E) : t_check_column K C { nx := fun _ H' => Q .non H', rt := Q } (start ["profile", "value"] vs) H := by
  obtain ⟨p, hs, ws, c, rfl, P, hp, h60, hc, k⟩ := h
  unfold t_check_column
  walk_at "rv go"
  refine ⟨p, hs, ws, _, rfl, P, hp, h60, ?_⟩
  rw [decide_eq_true (show (0 : Int) ≤ (c : Int) by omega), decide_eq_true (show (c : Int) ≤ (hs.length : Int) - 1 by omega), Bool.true_and]
  walk_at "rv go"
  exact k
theorem p_chkRun {K : PySem.W.Frag} {C : Addr} {vs : List V} {H : Hp} {Q : VK} {E : XK} (h : spChkRun K C vs H Q E) : t_check_run K C { nx := fun _ H' => Q .non H', rt := Q } (start ["profile", "first", "last"] vs) H := by
  obtain ⟨p, hs, ws, f, l, rfl, P, hp, h60, hfl, hl, k⟩ := h
  unfold t_check_run
  walk_at "rv go"
  refine ⟨p, hs, ws, f, rfl, P, hp, h60, by omega, ?_⟩
  walk_at "rv go"
  obtain ⟨dx, t1, t2, h0, h1, h2⟩ := id hp
  refine w_lenO h0 ?_
  refine ⟨p, hs, ws, rfl, P, hp, _, rfl, by omega, ?_⟩
  walk_at "rv go"
  refine ⟨.int (l : Int), _, _, rfl, .int _, ?_⟩
  have e : inI (f : Int) ((hs.length : Int) - 1) (.int (l : Int)) = true := by
    show (decide _ && decide _) = true
    rw [decide_eq_true (show (f : Int) ≤ (l : Int) by omega), decide_eq_true (show (l : Int) ≤ (hs.length : Int) - 1 by omega)]
    rfl
  rw [e]
  walk_at "rv go"
  exact k
end Rv
/-! The head's tests of the classes Profile and Ratio. -/
namespace Rv
open PySem PySem.Spec PyProof.Rows L2
theorem pcls_of {K : PySem.W.Frag} (k : Cls K (He.ga K "Profile")) (nH : NoAttr K (He.ga K "Profile") "column_heights") (nW : NoAttr K (He.ga K "Profile") "column_widths") (h : clB K "Profile" = true) : PCls K (He.ga K "Profile") := by
  obtain ⟨h1, h⟩ := He.ba h
  obtain ⟨h2, h⟩ := He.ba h
  obtain ⟨h3, h4⟩ := He.ba h
  exact ⟨k, nH, nW, He.eqO_ok h1, He.eqO_ok h2, of_decide_eq_true h3, of_decide_eq_true h4⟩
def kiB (K : PySem.W.Frag) (x : Str) : Bool := decide (PySem.W.kitOne K (.type "int") (.ref (He.ga K x)) = some false)
theorem rcls_of {K : PySem.W.Frag} (k : Cls K (He.ga K "Ratio")) (nT : NoAttr K (He.ga K "Ratio") "reduced_top") (nB : NoAttr K (He.ga K "Ratio") "reduced_bottom") (h : clB K "Ratio" = true) (h5 : kiB K "Ratio" = true) : RCls K (He.ga K "Ratio") := by
  obtain ⟨h1, h⟩ := He.ba h
  obtain ⟨h2, h⟩ := He.ba h
  obtain ⟨h3, h4⟩ := He.ba h
  exact ⟨k, nT, nB, He.eqO_ok h1, He.eqO_ok h2, of_decide_eq_true h3, of_decide_eq_true h4, of_decide_eq_true h5⟩
def opcB (K : PySem.W.Frag) (x : Str) : Bool := PySem.W.notFirst K (He.ga K x) (.type "int") && (PySem.W.selfFirst K (He.ga K x) && decide (PySem.W.subIn K (.type "int") (.ref (He.ga K x)) = some false))
theorem opc_of {K : PySem.W.Frag} {x : Str} (h : opcB K x = true) : OpC K (He.ga K x) := by
  obtain ⟨h1, h⟩ := He.ba h
  obtain ⟨h2, h3⟩ := He.ba h
  exact ⟨h1, h2, of_decide_eq_true h3⟩
def refO : Option (Option Value) → Bool
  | some none => true
  | some (some (.ref _)) => true
  | _ => false
def opnB (K : PySem.W.Frag) (x : Str) (nm : String) : Bool := refO (PySem.W.findIn K (.ref (He.ga K x)) (PySem.dunderR nm)) && ((PySem.W.findIn K (.type "int") (PySem.dunder nm)).isSome && (PySem.W.findIn K (.type "int") (PySem.dunderR nm)).isSome)
theorem opn_of {K : PySem.W.Frag} {x : Str} {nm : String} (h : opnB K x nm = true) : OpN K (He.ga K x) nm := by
  obtain ⟨h1, h⟩ := He.ba h
  obtain ⟨h2, h3⟩ := He.ba h
  refine ⟨?_, Option.isSome_iff_exists.mp h2, Option.isSome_iff_exists.mp h3⟩
  cases q : PySem.W.findIn K (.ref (He.ga K x)) (PySem.dunderR nm) with
  | none =>
    rw [q] at h1
    cases h1
  | some o =>
    rw [q] at h1
    refine ⟨o, rfl, ?_⟩
    cases o with
    | none => exact .inl rfl
    | some v =>
      cases v with
      | ref g => exact .inr ⟨g, rfl⟩
      | _ => cases h1
end Rv
namespace Rv
open PySem PySem.Spec PyProof.Rows L2
local macro_rules | `(tactic| walk_at "rv st") => `(tactic| first
  | with_reducible refine iteT ?_ | with_reducible refine iteF ?_ | with_reducible refine w_nx ?_ | with_reducible refine w_yes ?_ | with_reducible refine w_rt ?_ | with_reducible refine iteNT ?_ | with_reducible refine iteNF ?_ | with_reducible refine iteNRf ?_ | with_reducible refine iteRf ?_ | with_reducible refine w_seqA ?_ | with_reducible refine w_seqD ?_ | with_reducible refine w_seqP ?_ | with_reducible refine w_asg ?_ | with_reducible refine w_ret ?_ | with_reducible refine w_drop ?_ | with_reducible refine w_ifs ?_ | with_reducible refine w_next ?_ | with_reducible refine w_par ?_
  | with_reducible refine w_op ?_ | with_reducible refine w_un ?_ | ((with_reducible show tVar _ _ _ _); refine' w_var ?hv ?_; (case hv => exact rfl)) | with_reducible refine w_c ?_ | with_reducible refine w_test ?_ | with_reducible refine w_tB ?_
  | with_reducible refine w_bl ?_ | with_reducible refine w_I0 ?_ | with_reducible refine w_U ?_ | with_reducible refine w_eqI ?_ | with_reducible refine w_neI ?_
  | with_reducible refine w_cons ?_ | with_reducible refine w_nil ?_ | with_reducible refine w_gn ?_ | with_reducible refine w_gsub ?_ | with_reducible refine w_and ?_ | with_reducible refine w_or ?_ | with_reducible refine w_not ?_
  | with_reducible refine w_andV ?_ | with_reducible refine w_orV ?_ | with_reducible refine w_notV ?_ | with_reducible refine w_if ?_ | with_reducible refine w_cb ?_ | with_reducible refine w_call ?_ | with_reducible refine w_lst ?_ | with_reducible refine w_tup ?_
  | with_reducible refine w_sl ?_ | with_reducible refine w_noPart ?_ | with_reducible refine w_part ?_ | with_reducible refine w_ex1 ?_ | with_reducible refine w_exb ?_ | with_reducible refine w_intB ?_ | with_reducible refine w_intI ?_ | with_reducible refine w_abs ?_)
local macro_rules | `(tactic| walk_at "rv ix") => `(tactic| ((with_reducible show rIxL _ _ _ _ _); refine' w_ixL (sq_lst ?ha) ?hb ?_; (case ha => first | exact upd_same | assumption); (case hb => first | exact rfl | assumption)))
local macro_rules | `(tactic| walk_at "rv ar") => `(tactic| first
  | (refine' w_I ?hc ?_; (case hc => first | (show (0 : Int) < _; first | assumption | decide | omega) | exact pow_c (by decide) (by decide) (by first | decide | omega) (by first | decide | omega) | exact mul_r (by first | decide | omega) (by first | decide | omega) | exact mul_l (by first | decide | omega) (by first | decide | omega) | exact divw (by first | assumption | decide | omega) (by first | assumption | decide | omega))))
local macro_rules | `(tactic| walk_at "rv go") => `(tactic| repeat first | walk_at "rv st" | walk_at "rv ix" | ((with_reducible show rI _ _ _ _ _ _); walk_at "rv ar"))
section
variable {K : PySem.W.Frag} {σ : L2.St} {H : Hp} {Q : VK} {slot : Nat} {tr : TA} {te : TE} {tt : TT}
/-- [e for x in range(lo, hi) if t] -/
theorem w_lcT2 {lo m : Nat} {hi : Int} (hm : m = (hi - (lo : Int)).toNat) (h1 : lo ≤ 100000) (h2 : -100000 ≤ hi ∧ hi ≤ 100000) (ha : ∀ AQ : List V → Hp → Prop, AQ [.int (lo : Int), .int hi] H → tr σ H AQ) (J : Addr → Nat → List V → Hp → Prop) (h0 : ∀ D, H D = none → J D 0 [] (upd H D (.lst [])))
    (hs : ∀ D i acc H1, i < m → J D i acc H1 → tt ((σ.set slot none).set slot (some (.int ((lo + i : Nat) : Int)))) H1 fun b H2 => if b = true then te ((σ.set slot none).set slot (some (.int ((lo + i : Nat) : Int)))) H2 fun y H3 => ∃ bcc, H3 D = some (.lst bcc) ∧ bcc.length < sizeLine ∧ ∃ ccc, J D (i + 1) ccc (upd H3 D (.lst (bcc ++ [y]))) else ∃ ccc, J D (i + 1) ccc H2)
    (hd : ∀ D acc H1, J D m acc H1 → Q (.ref D) H1) : tLc (iRng2 tr) (gName slot) tt te [slot] σ H Q := by
  refine ha _ ⟨(lo : Int), hi, rfl, ⟨by omega, by omega, by omega, by omega⟩, ?_⟩
  rw [← hm]
  intro D nD
  refine lc_range (fun i H1 => ∃ acc, J D i acc H1) ⟨[], h0 D nD⟩ ?_ (fun H1 ⟨acc, q⟩ => hd D acc H1 q)
  rintro i H1 hi' ⟨acc, q⟩
  refine ⟨?_, ?_⟩
  · show ((σ.set slot none).set slot _).set slot none = σ.set slot none
    rw [List.set_set, List.set_set]
  · have e : ((lo : Int) + (i : Int)) = ((lo + i : Nat) : Int) := by omega
    rw [e]
    exact hs D i acc H1 hi' q
end
section
variable {K : PySem.W.Frag} {σ : L2.St} {H : Hp} {Q : VK} {D : Ends} {slot : Nat} {tr : TA} {s1 : TS}
/-- for i in range(lo, hi): m turns -/
theorem w_forT2 {lo m : Nat} {hi : Int} (hm : m = (hi - (lo : Int)).toNat) (h1 : lo ≤ 100000) (h2 : -100000 ≤ hi ∧ hi ≤ 1000000) (ha : ∀ AQ : List V → Hp → Prop, AQ [.int (lo : Int), .int hi] H → tr σ H AQ) (Pv : Nat → L2.St → Hp → Prop) (h0 : Pv lo σ H)
    (hs : ∀ i σ' H', lo ≤ i → (i : Int) < hi → Pv i σ' H' → s1 { D with nx := Pv (i + 1), ct := Pv (i + 1), bk := D.nx } (σ'.set slot (some (.int (i : Int)))) H') (hd : ∀ σ' H', Pv (lo + m) σ' H' → D.nx σ' H') : tFor (iRng2 tr) (gName slot) s1 D σ H := by
  refine ha _ ⟨(lo : Int), hi, rfl, ⟨by omega, by omega, by omega, by omega⟩, ?_⟩
  rw [← hm]
  refine for_range (fun k => Pv (lo + k)) h0 (fun i σ' H' hi' q => ?_) hd
  show s1 _ (σ'.set slot (some (.int ((lo : Int) + (i : Int))))) H'
  have e : ((lo : Int) + (i : Int)) = ((lo + i : Nat) : Int) := by omega
  rw [e]
  exact hs (lo + i) σ' H' (Nat.le_add_right _ _) (by omega) q
end
theorem sz_lit {z : Int} {M k : Nat} (h : z.natAbs ≤ M) (e : M < 2 ^ k := by decide) : Sz k z := Nat.lt_of_le_of_lt h e
theorem hok_sz {z : Int} (h : HOk1 z) : z.natAbs ≤ 1000000000000000000000000000000 := by
  have h1 := h.1
  have h2 := h.2
  omega
theorem wok_sz {z : Int} (h : WOk1 z) : z.natAbs ≤ 1000000000000000000000000000000 := by
  have h1 := h.1
  have h2 := h.2
  omega
theorem p_volB {K : PySem.W.Frag} {CP CR : Addr} {vs : List V} {H : Hp} {Q : VK} {E : XK} (h : spVolB K CP CR vs H Q E) : t_volume_below K CP CR { nx := fun _ H' => Q .non H', rt := Q } (start ["profile", "first", "last", "level", "heights", "widths", "wet", "wide", "ground", "column"] vs) H := by
  obtain ⟨p, hs, ws, f, l, q, t, b, rfl, P, R, ⟨dx, t1, t2, hp, h1, h2⟩, ok, hfl, hl, hq, st, sb, k⟩ := h
  have h60 := ok.le
  have hwl := ok.eq
  unfold t_volume_below
  refine w_seqA ?_
  refine w_prop rfl hp ?_
  refine ⟨p, dx, _, _, rfl, hp, pfl_h _ _, ?_⟩
  walk_at "rv go"
  refine w_prop rfl hp ?_
  refine ⟨p, dx, _, _, rfl, hp, pfl_w _ _, ?_⟩
  walk_at "rv go"
  -- the wet columns
  refine w_lcT2 (lo := f) (m := l + 1 - f) (hi := (l : Int) + 1) (by omega) (by omega) ⟨by omega, by omega⟩ (fun AQ q => by walk_at "rv go"; exact q)
    (fun D i acc H' => Same H H' ∧ H D = none ∧ H' D = some (.lst acc) ∧ acc = (wetF (hN hs) t b f i).map (fun c : Nat => V.int (c : Int)) ∧ acc.length ≤ i)
    (fun D nD => ⟨same_new (Same.refl H) nD, nD, upd_same, rfl, Nat.le_refl _⟩) ?_ ?_
  · rintro D i acc H' hi ⟨e, nD, hD, hacc, hl2⟩
    have hil : f + i < hs.length := by omega
    walk_at "rv go"
    refine w_ixT (sq_tup (e _ _ h1)) (at_hN hil) ?_
    obtain ⟨lw, dq, hq'⟩ := hq.same e
    refine w_ownI hq' ?_
    have shz : Sz 3000 (hN hs (f + i)) := sz_lit (hok_sz (ok.hh _ (hN_mem hil)))
    refine ⟨q, _, t, b, _, 1, rfl, R, ⟨lw, dq, hq'⟩, .inl ⟨rfl, rfl⟩, st.mono (by decide), sb.mono (by decide), shz, sz_one (by decide), fun H2 e2 => ?_⟩
    walk_at "rv go"
    have hD2 := e2 _ _ hD
    have ew : wetF (hN hs) t b f (i + 1) = wetF (hN hs) t b f i ++ if hN hs (f + i) * b < t then [f + i] else [] := rfl
    refine w_both (fun z => ?_) (fun z => ?_)
    · walk_at "rv go"
      rw [if_pos (by omega : hN hs (f + i) * b < t)] at ew
      refine ⟨acc, hD2, Nat.lt_of_lt_of_le (by omega : acc.length < 100001) (by decide), acc ++ [.int ((f + i : Nat) : Int)], ?_, nD, upd_same, ?_, ?_⟩
      · exact fun c o hc => by
          rw [upd_ne (ne_of_none hc nD)]
          exact e2 _ _ (e _ _ hc)
      · rw [ew, List.map_append, ← hacc]
        rfl
      · rw [List.length_append]
        show acc.length + 1 ≤ i + 1
        omega
    · rw [if_neg (by omega : ¬ hN hs (f + i) * b < t), List.append_nil] at ew
      exact ⟨acc, e.trans e2, nD, hD2, by rw [ew]; exact hacc, by omega⟩
  rintro D acc H1 ⟨e1, nD, hD, hacc, hl2⟩
  walk_at "rv go"
  generalize hW : wetF (hN hs) t b f (l + 1 - f) = W at hacc
  have wm : ∀ c ∈ W, c < hs.length := fun c hc => by
    rw [← hW] at hc
    have := wet_mem hc
    omega
  have wl : W.length ≤ 60 := by
    have := wet_len (hN hs) t b f (l + 1 - f)
    rw [hW] at this
    omega
  have al : acc.length = W.length := by rw [hacc, List.length_map]
  have hx : ∀ {i : Nat} {x : V}, acc[i]? = some x → ∃ c, W[i]? = some c ∧ x = .int (c : Int) ∧ c < hs.length := fun {i x} hx => by
    rw [hacc, List.getElem?_map] at hx
    cases hc : W[i]? with
    | none =>
      rw [hc] at hx
      cases hx
    | some c =>
      rw [hc] at hx
      exact ⟨c, rfl, (Option.some.inj hx).symm, wm c (List.mem_of_getElem? hc)⟩
  have stepE : ∀ {g : Nat → Int} {i c : Nat}, W[i]? = some c → ((W.take (i + 1)).map g).map V.int = ((W.take i).map g).map V.int ++ [.int (g c)] := fun {g i c} hc => by
    rw [List.take_add_one, hc]
    simp
  -- the width of the wet ground
  refine w_lcl ?_
  walk_at "rv go"
  refine ⟨D, rfl, ?_⟩
  refine w_lcA (sq_lst hD) (fun D2 i bcc H' => Same H1 H' ∧ H1 D2 = none ∧ H' D2 = some (.lst bcc) ∧ bcc = ((W.take i).map (hN ws)).map V.int ∧ bcc.length ≤ i)
    (fun D2 n2 => ⟨same_new (Same.refl H1) n2, n2, upd_same, by rw [List.take_zero]; rfl, Nat.le_refl _⟩) (fun D2 i bcc H' ⟨e, _⟩ => sq_lst (e _ _ hD)) ?_ ?_
  · rintro D2 i bcc x H' hxi ⟨e, n2, hD2, hb, hl3⟩
    obtain ⟨c, hc, rfl, hcl⟩ := hx hxi
    have il : i < W.length := (List.getElem?_eq_some_iff.mp hc).1
    refine ⟨rfl, ?_⟩
    walk_at "rv go"
    refine w_ixT (sq_tup (e _ _ (e1 _ _ h2))) (at_hN (by omega)) ?_
    refine ⟨bcc, hD2, Nat.lt_of_lt_of_le (by omega : bcc.length < 100001) (by decide), bcc ++ [.int (hN ws c)], ?_, n2, upd_same, ?_, ?_⟩
    · exact fun z o hz => by
        rw [upd_ne (ne_of_none hz n2)]
        exact e _ _ hz
    · rw [stepE hc, ← hb]
    · rw [List.length_append]
      show bcc.length + 1 ≤ i + 1
      omega
  rintro D2 bcc H2 ⟨e2, n2, hD2, hb, _⟩
  rw [al, List.take_length] at hb
  walk_at "rv go"
  refine ⟨D2, W.map (hN ws), rfl, sq_lst (by rw [hD2, hb]), ?_⟩
  walk_at "rv go"
  -- what the wet ground takes up
  refine w_lcl ?_
  walk_at "rv go"
  refine ⟨D, rfl, ?_⟩
  refine w_lcA (sq_lst (e2 _ _ hD)) (fun D3 i bcc H' => Same H2 H' ∧ H2 D3 = none ∧ H' D3 = some (.lst bcc) ∧ bcc = ((W.take i).map (fun c => hN ws c * hN hs c)).map V.int ∧ bcc.length ≤ i)
    (fun D3 n3 => ⟨same_new (Same.refl H2) n3, n3, upd_same, by rw [List.take_zero]; rfl, Nat.le_refl _⟩) (fun D3 i bcc H' ⟨e, _⟩ => sq_lst (e _ _ (e2 _ _ hD))) ?_ ?_
  · rintro D3 i bcc x H' hxi ⟨e, n3, hD3, hb3, hl3⟩
    obtain ⟨c, hc, rfl, hcl⟩ := hx hxi
    have il : i < W.length := (List.getElem?_eq_some_iff.mp hc).1
    refine ⟨rfl, ?_⟩
    walk_at "rv go"
    refine w_ixT (sq_tup (e _ _ (e2 _ _ (e1 _ _ h2)))) (at_hN (by omega)) ?_
    walk_at "rv go"
    refine w_ixT (sq_tup (e _ _ (e2 _ _ (e1 _ _ h1)))) (at_hN hcl) ?_
    refine w_I (mulw (j := 100) (k := 100) (sz_lit (wok_sz (ok.ww _ (hN_mem (by omega))))) (sz_lit (hok_sz (ok.hh _ (hN_mem hcl)))) (by decide) (by decide) (by decide)) ?_
    refine ⟨bcc, hD3, Nat.lt_of_lt_of_le (by omega : bcc.length < 100001) (by decide), bcc ++ [.int (hN ws c * hN hs c)], ?_, n3, upd_same, ?_, ?_⟩
    · exact fun z o hz => by
        rw [upd_ne (ne_of_none hz n3)]
        exact e _ _ hz
    · rw [stepE hc, ← hb3]
    · rw [List.length_append]
      show bcc.length + 1 ≤ i + 1
      omega
  rintro D3 ccc H3 ⟨e3, n3, hD3, hb3, _⟩
  rw [al, List.take_length] at hb3
  walk_at "rv go"
  refine ⟨D3, W.map (fun c => hN ws c * hN hs c), rfl, sq_lst (by rw [hD3, hb3]), ?_⟩
  walk_at "rv go"
  have e13 := (e1.trans e2).trans e3
  -- how great the sums are
  have swide : Sz 110 (W.map (hN ws)).sum := by
    have hb := sum_bound (M := 1000000000000000000000000000000) (l := W.map (hN ws)) fun x hx => by
      obtain ⟨c, hc, rfl⟩ := List.mem_map.mp hx
      have := wm c hc
      exact wok_sz (ok.ww _ (hN_mem (by omega)))
    rw [List.length_map] at hb
    exact sz_lit (M := 60000000000000000000000000000000) (by omega)
  have sground : Sz 210 (W.map (fun c => hN ws c * hN hs c)).sum := by
    have hb := sum_bound (M := 1000000000000000000000000000000000000000000000000000000000000) (l := W.map (fun c => hN ws c * hN hs c)) fun x hx => by
      obtain ⟨c, hc, rfl⟩ := List.mem_map.mp hx
      have := wm c hc
      rw [Int.natAbs_mul]
      exact Nat.le_trans (Nat.mul_le_mul (wok_sz (ok.ww _ (hN_mem (by omega)))) (hok_sz (ok.hh _ (hN_mem this)))) (by decide)
    rw [List.length_map] at hb
    exact sz_lit (M := 60000000000000000000000000000000000000000000000000000000000000) (by omega)
  have hdue := wet_due (hN hs) (hN ws) t b f (l + 1 - f)
  rw [hW] at hdue
  generalize (W.map (hN ws)).sum = wide at *
  generalize (W.map (fun c => hN ws c * hN hs c)).sum = ground at *
  obtain ⟨lw, dq, hq'⟩ := hq.same e13
  refine w_binI hq' ?_
  refine ⟨q, _, t, b, wide, 1, rfl, R, ⟨lw, dq, hq'⟩, .inl ⟨rfl, rfl⟩, st.mono (by decide), sb.mono (by decide), swide.mono (by decide), sz_one (by decide), fun r H4 n1 d1 e4 hr red => ?_⟩
  walk_at "rv go"
  have sn1 : Sz 1110 n1 := red.szt (st.mul swide)
  have sd1 : Sz 1000 d1 := red.szb (by rw [Int.mul_one]; exact sb)
  obtain ⟨lr, dr, hr'⟩ := id hr
  refine w_binI hr' ?_
  refine ⟨r, _, n1, d1, ground, 1, rfl, R, hr, .inl ⟨rfl, rfl⟩, sn1.mono (by decide), sd1.mono (by decide), sground.mono (by decide), sz_one (by decide), fun r2 H5 n d e5 hr2 red2 => ?_⟩
  refine k r2 H5 n d ((e13.trans e4).trans e5) hr2 ?_ ?_ ?_
  · rw [← hdue]
    exact vol_two red.eq lr.1 red2.eq
  · have s1 : Sz 1210 (n1 * 1) := by rw [Int.mul_one]; exact sn1.mono (by decide)
    have s2 : Sz 1210 (ground * d1) := sground.mul sd1
    exact (red2.szt (s1.sub s2)).mono (by decide)
  · exact red2.szb (by rw [Int.mul_one]; exact sd1)
theorem p_volU {K : PySem.W.Frag} {CP CR : Addr} {vs : List V} {H : Hp} {Q : VK} {E : XK} (h : spVolU K CP CR vs H Q E) : t_volume_up_to K CP CR { nx := fun _ H' => Q .non H', rt := Q } (start ["profile", "first", "last", "level"] vs) H := by
  obtain ⟨p, hs, ws, f, l, v, t, b, rfl, P, R, hp, ok, hfl, hl, hv, st, sb, k⟩ := h
  unfold t_volume_up_to
  walk_at "rv go"
  refine ⟨p, hs, ws, f, l, rfl, P, hp, ok.le, hfl, hl, ?_⟩
  walk_at "rv go"
  refine ⟨v, t, b, rfl, R, hv, fun q H1 e hq => ?_⟩
  walk_at "rv go"
  exact ⟨p, hs, ws, f, l, q, t, b, rfl, P, R, hp.same e, ok, hfl, hl, hq, st, sb, fun r H2 n d e2 => k r H2 n d (e.trans e2)⟩
end Rv
namespace Rv
open PySem PySem.Spec PyProof.Rows L2
section
variable {K : PySem.W.Frag} {σ : L2.St} {H : Hp} {Q : VK} {te : TE}
/-- sorted(set(e)) of a list of ints -/
def tSortSet (K : PySem.W.Frag) (te : TE) : TE := fun σ H Q => te σ H fun x H1 => ∃ (a : Addr) (ns : List Int), x = .ref a ∧ SqL K H1 a (ns.map V.int) ∧ ns.length < 4000 ∧ (∀ out : List Int, out.Nodup → (∀ k, k ∈ out ↔ k ∈ ns) → out.length < 64) ∧
  ∀ (out : List Int) (p : Addr), out.Pairwise (· < ·) → (∀ k, k ∈ out ↔ k ∈ ns) → H1 p = none → Q (.ref p) (upd H1 p (.lst (out.map V.int)))
theorem w_ss (q : te σ H fun x H1 => ∃ (a : Addr) (ns : List Int), x = .ref a ∧ SqL K H1 a (ns.map V.int) ∧ ns.length < 4000 ∧ (∀ out : List Int, out.Nodup → (∀ k, k ∈ out ↔ k ∈ ns) → out.length < 64) ∧
  ∀ (out : List Int) (p : Addr), out.Pairwise (· < ·) → (∀ k, k ∈ out ↔ k ∈ ns) → H1 p = none → Q (.ref p) (upd H1 p (.lst (out.map V.int)))) : tSortSet K te σ H Q := q
end
theorem nodup_le : ∀ {l m : List Int}, l.Nodup → (∀ x ∈ l, x ∈ m) → l.length ≤ m.length
  | [], _, _, _ => Nat.zero_le _
  | x :: r, m, hn, hs => by
    have h1 := hs x List.mem_cons_self
    have hn2 := List.nodup_cons.mp hn
    have h2 : r.length ≤ (m.erase x).length := nodup_le hn2.2 fun y hy => (List.mem_erase_of_ne (fun e => hn2.1 (by rw [← e]; exact hy))).mpr (hs y (List.mem_cons_of_mem _ hy))
    rw [List.length_erase_of_mem h1] at h2
    have := List.length_pos_of_mem h1
    rw [List.length_cons]
    omega
/-- a set that is just made -/
abbrev eS (w : World) : Obj := { cls := .type "set", dict := none, data := .set #[] 0 (.fresh 0 0 (!w.params.followText "set-order")) }
section
variable {P : Program} {w : World} {A : Around} {E : Value → Shared → Prop} {s : Shared}
/-- set(l) of a list of ints -/
theorem set_of_ints {l : Addr} {its : Array Value} (zs : List Int) {Q : Value → Shared → Prop} (nh : A.handled = none) (gl : s.heap.IsList l its) (gi : IntsAre its.toList zs) (gb : zs.length + 1 < scanBound)
    (g : ∀ (h2 : Heap) (u c : Nat), SetR w h2 s.heap.objs.size (fun j => decide (j ∈ zs)) c → c ≤ zs.length → (∀ b o, s.heap.get? b = some o → h2.get? b = some o) → Q (.ref s.heap.objs.size) { s with heap := h2, toks := u }) :
    wpAny (model P w) A (call (.type "set") [.ref l]) Q E s := by
  have gz : its.size = zs.length := by
    have z := IntsAre.length gi
    rw [Array.length_toList] at z
    exact z
  obtain ⟨c0, tl0, m0⟩ := F.called_set.mro
  have a1 := F.called_set.made
  have a2 := F.called_set.sub
  refine wpAny_call (codeAny_of_tree ?_)
  show wpAny _ _ (callAny (.type "set") _) _ _ _
  refine wpAny_pure ⟨Code.quiet_builtin _ (by decide +kernel), codeAny_builtin F.entry_type_call ?_⟩
  rw [Around.under_plain (weight_type_call_type "set" [.ref l] []) rfl]
  have a3 := F.called_set.notType
  have a4 := F.called_set.canCreate
  have a5 := F.typeCall_set_1 (.ref l)
  repeat (any_goals (first | assumption | wp_step))
  refine codeAny_mono (code_set_led1 (.ref l) (E := E) (Q₁ := fun ob s1 => ob = .ref s.heap.objs.size ∧ s1 = { s with heap := s.heap.push (eS w) }) ⟨rfl, rfl⟩) fun r1 s1 k1 => ?_
  cases r1 with
  | error e => exact k1
  | ok f1 =>
    cases f1 with
    | ret ob =>
      obtain ⟨rfl, rfl⟩ := k1
      have b1 : (s.heap.push (eS w)).get? s.heap.objs.size = some (eS w) := Heap.get?_push_size _ rfl
      have b2 : Shared.TypeIs { s with heap := s.heap.push (eS w) } (.ref s.heap.objs.size) "set" := ⟨_, b1, rfl⟩
      have b3 := F.called_set.init.lookup
      have b4 := F.called_set.init.bind (.ref s.heap.objs.size)
      repeat (any_goals (first | assumption | wp_step))
      refine codeAny_mono (codeAny_call_builtin (R := wants (fun r s2 => r = .none ∧ ∃ h2 u c, s2 = { s with heap := h2, toks := u } ∧ SetR w h2 s.heap.objs.size (fun j => decide (j ∈ zs)) c ∧ c ≤ zs.length ∧ (∀ b o, s.heap.get? b = some o → h2.get? b = some o)) E) F.called_set.init.plain F.entry_set_init (check_set_init_1 b2 ?_)) fun r2 s2 k2 => ?_
      · obtain ⟨lo, glo, gcl, nn, gdt⟩ := gl
        obtain ⟨l1, l2, l3, l4⟩ := lo
        simp only at gcl gdt
        subst gcl; subst gdt
        have b5 : (s.heap.push (eS w)).get? l = some { cls := .type "list", dict := l2, data := .seq its nn, slots := l4 } := Heap.get?_push_of_some _ glo
        have b6 := F.sub_list_set
        have b7 := F.sub_list_frozenset
        have b8 : (Value.type "list" == Value.type "dict") = false := by decide
        have b9 : (s.heap.push (eS w)).IsList l its := ⟨_, b5, rfl, nn, rfl⟩
        unfold Builtin.«set.__init__» noKeywords Builtin.Frozenset.updateFrom
        generalize gPI : pyIter = PI
        wp_walk
        subst gPI
        refine wpAny_pyIter_list b9 ?_
        refine wpAny_bind (wpAny_runValue ?_)
        have ls : l < s.heap.objs.size := Heap.lt_size glo
        have n3 : A.in1.in1.in1.handled = none := by simp [nh]
        have nI : l ≠ (s.heap.push (eS w)).objs.size := by
          rw [Heap.size_push]
          exact Nat.ne_of_lt (Nat.lt_succ_of_lt ls)
        have nS : s.heap.objs.size ∉ [(s.heap.push (eS w)).objs.size, l] := by
          rw [Heap.size_push]
          simp only [List.mem_cons, List.not_mem_nil, or_false, not_or]
          exact ⟨Nat.ne_of_lt (Nat.lt_succ_self _), Nat.ne_of_gt ls⟩
        have vals : ∀ (i : Nat) (v : Value), its[i]? = some v → ∃ k t, zs[i]? = some k ∧ v = .int k t := fun i v hv => by
          have hi : i < zs.length := by
            rw [← gz]
            exact (Array.getElem?_eq_some_iff.mp hv).1
          obtain ⟨t, e⟩ := IntsAre.int_at gi i v (by rw [Array.getElem?_toList]; exact hv)
          refine ⟨zs[i], t, List.getElem?_eq_getElem hi, ?_⟩
          rw [e, List.getD_eq_getElem?_getD, List.getElem?_eq_getElem hi] <;> rfl
        refine set_update_ints ((Walks.list n3 _ l nI its).toS) s.heap.objs.size nS zs gz gb vals (its.size - 0) 0 _ (by omega) (Nat.zero_le _) ⟨⟨_, Heap.get?_push_size _ rfl, rfl, rfl⟩, (b9.push _)⟩ ?k0 ?k1
        case k0 => exact ⟨0, Nat.le_refl 0, setR_new_at (Heap.get?_push_of_some _ b1)⟩
        case k1 =>
          intro s3 c3 mv cl sr
          obtain ⟨h3, g3, d3, u3, o3⟩ := s3
          have w1 : g3 = s.gens := mv.gens
          have w2 : d3 = s.drawn := mv.drawn
          have w3 : o3 = s.os := mv.os
          subst w1; subst w2; subst w3
          show wpAny _ _ _ _ _ _
          refine wpAny_pure ?_
          show wpAny _ _ (ret Value.none) _ _ _
          rw [gz] at cl
          refine wpAny_pure ⟨rfl, h3, u3, c3, rfl, sr, cl, fun b o e => ?_⟩
          have q0 : b < s.heap.objs.size := Heap.lt_size e
          exact mv.heap b o (by
            rw [Heap.size_push]
            simp only [List.mem_cons, List.not_mem_nil, or_false, not_or]
            exact ⟨Nat.ne_of_lt q0, Nat.ne_of_lt (Nat.lt_succ_of_lt q0)⟩) (Heap.get?_push_of_some _ (Heap.get?_push_of_some _ e))
      · cases r2 with
        | error e => exact k2
        | ok f2 =>
          cases f2 with
          | ret v =>
            obtain ⟨rfl, h2, u, c, rfl, sr, cl, kk⟩ := k2
            repeat (any_goals (first | assumption | wp_step))
            exact g _ _ _ sr cl kk
          | _ => exact k2.elim
    | _ => exact k1.elim
end
theorem pe_sortSet {X : Cx} {a : Expr} {ta : TE} {p p2 q pos : Pos} (hc : X.calm = true) (hg : Gl X "sorted") (hm : X.mg "sorted" = none) (hg2 : Gl X "set") (hm2 : X.mg "set" = none) (ha : PE X a ta)
    (na : starEach [a] X.env = (false, eval a X.env) :: starEach [] X.env := by rfl) : PE X (.Call (.Name "sorted" p) [.Call (.Name "set" p2) [a] [] q] [] pos) (tSortSet X.K ta) := by
  refine ⟨fun pins s σ H Q I h => ?_⟩
  refine Call_ (ld_blt I hg hm (show bootBuiltins "sorted" = some (.builtin "sorted") by decide +kernel) ?_)
  refine callWith_builtin1 (args_cons ?_ rfl) rfl rfl
  refine Call_ (ld_blt I hg2 hm2 boot_set ?_)
  refine callWith_type1 (args_cons (thn (ha.run pins s σ H _ I h) fun v s1 ⟨x, H1, I1, r1, q1⟩ => args_nil ?_) na) na rfl
  obtain ⟨l, zs, rfl, hq, b1, b64, q1⟩ := q1
  cases r1
  obtain ⟨its, r, pl, hz⟩ := I1.list hq
  refine set_of_ints zs (I1.ok.hd hc) pl.isList (by simpa using r.ints) (by unfold scanBound; omega) fun h2 u c R cl kk => ?_
  have I2 : Inv X pins σ H1 { s1 with heap := h2, toks := u } := I1.kept kk
  have c64 : c < 64 := by
    obtain ⟨o, es, ep, t, _, _, _, _, nd, mm, _, _, en, _⟩ := id R
    have z := b64 (es.toList.map keyOf) nd fun k => (mm k).symm.trans decide_eq_true_iff
    rw [List.length_map, Array.length_toList] at z
    omega
  refine args_nil ?_
  refine sorted_set R (I1.ok.hd hc) c64 fun s3 p3 out c3 ks k3 g3 o3 hp3 gt gi gs gm gl => ?_
  have fr : H1 p3 = none := I2.hok.fresh hp3
  have le : (ks.map V.int).length ≤ sizeLine := by
    rw [List.length_map, gl, sizeLine_eq]
    omega
  have J : Inv X pins σ (upd H1 p3 (.lst (ks.map V.int))) { s1 with heap := s3.heap, gens := s3.gens, drawn := s3.drawn, toks := s3.toks } :=
    L2.Inv.call (s := { s1 with heap := h2, toks := u }) (ch := []) I2 (Un.laid k3 hp3 fr) (I2.hok.laid k3 hp3 ⟨le, out.toList, c3, vals_of_ints gi, gt⟩) (by rw [g3]; exact I2.bare) (fun _ z => nomatch z)
  have e : s3 = { s1 with heap := s3.heap, gens := s3.gens, drawn := s3.drawn, toks := s3.toks } := by
    cases s3
    cases s1
    cases o3
    rfl
  rw [e]
  exact ⟨.ref p3, _, J, rfl, q1 ks p3 gs (fun k => (gm k).trans decide_eq_true_iff) fr⟩
end Rv
namespace Rv
open PySem PySem.Spec PyProof.Rows L2
def sumF (g : Nat → Int) (f : Nat) : Nat → Int
  | 0 => 0
  | k + 1 => sumF g f k + g (f + k)
theorem sumF_congr {g g' : Nat → Int} {f : Nat} : ∀ {k : Nat}, (∀ j, j < k → g (f + j) = g' (f + j)) → sumF g f k = sumF g' f k
  | 0, _ => rfl
  | k + 1, h => by
    unfold sumF
    rw [sumF_congr fun j hj => h j (by omega), h k (by omega)]
theorem sumF_add {g g' : Nat → Int} {f : Nat} : ∀ {k : Nat}, sumF (fun c => g c + g' c) f k = sumF g f k + sumF g' f k
  | 0 => rfl
  | k + 1 => by
    unfold sumF
    rw [sumF_add]
    omega
theorem sumF_bound {g : Nat → Int} {f : Nat} {M : Int} {k : Nat} (h : ∀ j, j < k → -M ≤ g (f + j) ∧ g (f + j) ≤ M) : -((k : Int) * M) ≤ sumF g f k ∧ sumF g f k ≤ (k : Int) * M := by
  induction k with
  | zero => simp [sumF]
  | succ k ih =>
    have h1 := ih fun j hj => h j (by omega)
    have h2 := h k (by omega)
    have e : ((k + 1 : Nat) : Int) * M = (k : Int) * M + M := by
      rw [Int.natCast_add, Int.add_mul]
      omega
    show -(((k + 1 : Nat) : Int) * M) ≤ sumF g f k + g (f + k) ∧ sumF g f k + g (f + k) ≤ ((k + 1 : Nat) : Int) * M
    rw [e]
    omega
def wLe (h w : Nat → Int) (s : Int) : Nat → Nat → Int := sumF fun c => if h c ≤ s then w c else 0
def wLt (h w : Nat → Int) (s : Int) : Nat → Nat → Int := sumF fun c => if h c < s then w c else 0
def wEq (h w : Nat → Int) (s : Int) : Nat → Nat → Int := sumF fun c => if h c = s then w c else 0
def gLe (h w : Nat → Int) (s : Int) : Nat → Nat → Int := sumF fun c => if h c ≤ s then w c * h c else 0
section
variable {h w : Nat → Int} {f k : Nat} {s t n d : Int}
theorem wLe_eq : wLe h w s f k = wLt h w s f k + wEq h w s f k := by
  unfold wLe wLt wEq
  rw [← sumF_add]
  refine sumF_congr fun j _ => ?_
  by_cases a : h (f + j) = s
  · rw [if_pos (by omega), if_neg (by omega), if_pos a, Int.zero_add]
  · rw [if_neg a, Int.add_zero]
    by_cases b : h (f + j) < s
    · rw [if_pos (by omega), if_pos b]
    · rw [if_neg (by omega), if_neg b]
theorem wLt_next (a : ∀ j, j < k → (h (f + j) < t ↔ h (f + j) ≤ s)) : wLt h w t f k = wLe h w s f k := by
  unfold wLt wLe
  refine sumF_congr fun j hj => ?_
  by_cases b : h (f + j) ≤ s
  · rw [if_pos b, if_pos ((a j hj).mpr b)]
  · rw [if_neg b, if_neg fun z => b ((a j hj).mp z)]
theorem wLt_min (a : ∀ j, j < k → s ≤ h (f + j)) : wLt h w s f k = 0 := by
  have e : wLt h w s f k = sumF (fun _ => 0) f k := sumF_congr fun j hj => if_neg (by have := a j hj; omega)
  rw [e]
  have z : ∀ k, sumF (fun _ => 0) f k = 0 := fun k => by
    induction k with
    | zero => rfl
    | succ k ih =>
      unfold sumF
      rw [ih]
      rfl
  exact z k
end
theorem due_le {h w : Nat → Int} {f : Nat} {s n d : Int} (hs : s * d ≤ n) (hd : 0 < d) : ∀ {k : Nat}, (∀ j, j < k → s < h (f + j) → n ≤ h (f + j) * d) → dueF h w n d f k = wLe h w s f k * n - gLe h w s f k * d
  | 0, _ => by simp [dueF, wLe, gLe, sumF]
  | k + 1, a => by
    have ih := due_le (h := h) (w := w) (f := f) hs hd (k := k) fun j hj => a j (by omega)
    have ak := a k (by omega)
    unfold dueF
    rw [ih]
    show _ = (wLe h w s f k + (if h (f + k) ≤ s then w (f + k) else 0)) * n - (gLe h w s f k + (if h (f + k) ≤ s then w (f + k) * h (f + k) else 0)) * d
    by_cases c : h (f + k) ≤ s
    · rw [if_pos c, if_pos c]
      have c2 : h (f + k) * d ≤ n := Int.le_trans (Int.mul_le_mul_of_nonneg_right c (by omega)) hs
      rw [Int.add_mul, Int.add_mul, Int.mul_assoc (w (f + k))]
      by_cases e : h (f + k) * d < n
      · rw [if_pos e, Int.mul_sub]
        omega
      · rw [if_neg e, show h (f + k) * d = n by omega]
        omega
    · rw [if_neg c, if_neg c, if_neg (by have := ak (by omega); omega)]
      simp
theorem due_min {h w : Nat → Int} {f : Nat} {s : Int} : ∀ {k : Nat}, (∀ j, j < k → s ≤ h (f + j)) → dueF h w s 1 f k = 0
  | 0, _ => rfl
  | k + 1, a => by
    unfold dueF
    rw [due_min fun j hj => a j (by omega), if_neg (by have := a k (by omega); omega)]
    rfl
theorem wLe_nn {h w : Nat → Int} {f : Nat} {s : Int} : ∀ {k : Nat}, (∀ j, j < k → 1 ≤ w (f + j)) → 0 ≤ wLe h w s f k
  | 0, _ => by simp [wLe, sumF]
  | k + 1, a => by
    have h1 := wLe_nn (h := h) (s := s) (k := k) fun j hj => a j (by omega)
    show 0 ≤ wLe h w s f k + (if h (f + k) ≤ s then w (f + k) else 0)
    have := a k (by omega)
    split <;> omega
theorem wLe_pos {h w : Nat → Int} {f : Nat} {s : Int} : ∀ {k : Nat}, (∀ j, j < k → 1 ≤ w (f + j)) → (∃ j, j < k ∧ h (f + j) ≤ s) → 0 < wLe h w s f k
  | 0, _, ⟨j, hj, _⟩ => by omega
  | k + 1, a, ⟨j, hj, hh⟩ => by
    have h0 := wLe_nn (h := h) (s := s) (k := k) fun j hj => a j (by omega)
    show 0 < wLe h w s f k + (if h (f + k) ≤ s then w (f + k) else 0)
    have hw := a k (by omega)
    by_cases e : j = k
    · subst e
      rw [if_pos hh]
      omega
    · have := wLe_pos (h := h) (s := s) (k := k) (fun j hj => a j (by omega)) ⟨j, by omega, hh⟩
      split <;> omega
def IsMin (h : Nat → Int) (f k : Nat) (m : Int) : Prop := (∀ j, j < k → m ≤ h (f + j)) ∧ ∃ j, j < k ∧ m = h (f + j)
theorem IsMin.uniq {h : Nat → Int} {f k : Nat} {m m' : Int} (a : IsMin h f k m) (b : IsMin h f k m') : m = m' := by
  obtain ⟨a1, i, hi, ei⟩ := a
  obtain ⟨b1, j, hj, ej⟩ := b
  have := a1 j hj
  have := b1 i hi
  omega
structure LvOk (h w : Nat → Int) (f k : Nat) (vt vb n d : Int) : Prop where
  due : dueF h w n d f k * vb = vt * d
  low : ∀ m, IsMin h f k m → m * d ≤ n ∧ (vt = 0 → n = m * d)
/-- the level within one layer: x = s + (volume - held) / wide -/
theorem layer_ok {h w : Nat → Int} {f k : Nat} {vt vb s n d wide held m0 : Int} (hvb : 0 < vb) (hd : 0 < d) (hwd : wide = wLe h w s f k) (hhd : held = dueF h w s 1 f k) (wp : 0 < wide)
    (e : n * (vb * wide) = (vt - held * vb + s * (vb * wide)) * d) (h1 : held * vb ≤ vt) (h2 : ∀ j, j < k → s < h (f + j) → vt ≤ (held + wide * (h (f + j) - s)) * vb)
    (hm : IsMin h f k m0) (hs0 : m0 ≤ s) (h0 : vt = 0 → s = m0) : LvOk h w f k vt vb n d := by
  have pw : 0 < vb * wide := Int.mul_pos hvb wp
  have sd : s * d ≤ n := by
    refine Int.le_of_mul_le_mul_right (a := vb * wide) ?_ pw
    rw [e]
    have e1 : s * d * (vb * wide) = (s * (vb * wide)) * d := by rw [Int.mul_assoc, Int.mul_comm d, ← Int.mul_assoc]
    rw [e1]
    exact Int.mul_le_mul_of_nonneg_right (by omega) (by omega)
  have up : ∀ j, j < k → s < h (f + j) → n ≤ h (f + j) * d := fun j hj hs => by
    refine Int.le_of_mul_le_mul_right (a := vb * wide) ?_ pw
    rw [e]
    have e1 : h (f + j) * d * (vb * wide) = (h (f + j) * (vb * wide)) * d := by rw [Int.mul_assoc, Int.mul_comm d, ← Int.mul_assoc]
    rw [e1]
    refine Int.mul_le_mul_of_nonneg_right ?_ (by omega)
    have q := h2 j hj hs
    rw [Int.add_mul, Int.mul_sub, Int.sub_mul, Int.mul_comm wide, Int.mul_assoc, Int.mul_comm wide s, Int.mul_assoc, Int.mul_comm wide vb] at q
    omega
  have due := due_le (w := w) sd hd up
  have due1 := due_le (h := h) (w := w) (f := f) (k := k) (s := s) (n := s) (d := 1) (by omega) (by omega) (fun j hj hs => by omega)
  rw [← hwd] at due due1
  rw [← hhd] at due1
  refine ⟨?_, fun m hmm => ?_⟩
  · rw [due]
    generalize gLe h w s f k = g at *
    have e1 : wide * n * vb = n * (vb * wide) := by rw [Int.mul_comm wide n, Int.mul_assoc, Int.mul_comm wide vb]
    rw [Int.sub_mul, e1, e, due1]
    simp only [Int.add_mul, Int.sub_mul, Int.mul_one]
    have e2 : s * (vb * wide) * d = wide * s * vb * d := by
      rw [Int.mul_comm wide s, Int.mul_assoc s wide vb, Int.mul_comm wide vb]
    have e3 : g * vb * d = g * d * vb := by rw [Int.mul_assoc, Int.mul_comm vb d, ← Int.mul_assoc]
    omega
  · obtain rfl := hmm.uniq hm
    refine ⟨Int.le_trans (Int.mul_le_mul_of_nonneg_right hs0 (by omega)) sd, fun z => ?_⟩
    have es := h0 z
    subst z
    have held0 : held = 0 := by
      rw [hhd, es]
      exact due_min hm.1
    rw [held0, Int.zero_mul, Int.sub_zero, Int.zero_add, es] at e
    have e1 : m * (vb * wide) * d = m * d * (vb * wide) := by rw [Int.mul_assoc, Int.mul_comm (vb * wide) d, ← Int.mul_assoc]
    rw [e1] at e
    exact Int.eq_of_mul_eq_mul_right (by omega) e
theorem lv_three {n d n1 d1 n2 d2 vt vb held s wide : Int} (p1 : 0 < d1) (p2 : 0 < d2) (h1 : n1 * (vb * 1) = (vt * 1 - held * vb) * d1) (h2 : n2 * (d1 * wide) = (n1 * 1) * d2) (h3 : n * (d2 * 1) = (n2 * 1 + s * d2) * d) :
    n * (vb * wide) = (vt - held * vb + s * (vb * wide)) * d := by
  simp only [Int.mul_one] at h1 h2 h3
  have pp : d1 * d2 ≠ 0 := by
    have := Int.mul_pos p1 p2
    omega
  refine Int.eq_of_mul_eq_mul_right pp ?_
  calc n * (vb * wide) * (d1 * d2) = (n * d2) * (vb * (wide * d1)) := by ac_rfl
    _ = (n2 + s * d2) * d * (vb * (wide * d1)) := by rw [h3]
    _ = (n2 * (d1 * wide)) * (vb * d) + s * (vb * wide) * (d * (d1 * d2)) := by
      rw [Int.add_mul, Int.add_mul]
      congr 1 <;> ac_rfl
    _ = (n1 * vb) * (d2 * d) + s * (vb * wide) * (d * (d1 * d2)) := by
      rw [h2]
      congr 1
      ac_rfl
    _ = (vt - held * vb + s * (vb * wide)) * d * (d1 * d2) := by
      rw [h1, Int.add_mul, Int.add_mul]
      congr 1
      · ac_rfl
      · ac_rfl
theorem hN_get {S : List Int} {i : Nat} (h : i < S.length) : hN S i = S[i] := by
  unfold hN
  rw [List.getElem?_eq_getElem h]
  rfl
theorem sorted_lt {S : List Int} (hp : S.Pairwise (· < ·)) {i j : Nat} (hij : i < j) (hj : j < S.length) : hN S i < hN S j := by
  rw [hN_get hj, hN_get (by omega)]
  exact List.pairwise_iff_getElem.mp hp _ _ _ _ hij
theorem hN_of_mem {S : List Int} {z : Int} (h : z ∈ S) : ∃ j, j < S.length ∧ z = hN S j := by
  obtain ⟨j, hj, e⟩ := List.getElem_of_mem h
  exact ⟨j, hj, by rw [hN_get hj, e]⟩
theorem sorted_next {S : List Int} (hp : S.Pairwise (· < ·)) {i : Nat} {z : Int} (hi : i + 1 < S.length) (hz : z ∈ S) : z < hN S (i + 1) ↔ z ≤ hN S i := by
  obtain ⟨j, hj, rfl⟩ := hN_of_mem hz
  have a := sorted_lt hp (show i < i + 1 by omega) hi
  rcases Nat.lt_trichotomy j i with h | h | h
  · have := sorted_lt hp h (by omega)
    constructor <;> omega
  · subst h
    constructor <;> omega
  · by_cases e : j = i + 1
    · subst e
      constructor <;> omega
    · have := sorted_lt hp (show i + 1 < j by omega) hj
      constructor <;> omega
theorem sorted_min {S : List Int} (hp : S.Pairwise (· < ·)) {z : Int} (hz : z ∈ S) : hN S 0 ≤ z := by
  obtain ⟨j, hj, rfl⟩ := hN_of_mem hz
  by_cases e : j = 0
  · subst e
    omega
  · have := sorted_lt hp (show 0 < j by omega) hj
    omega
theorem sorted_max {S : List Int} (hp : S.Pairwise (· < ·)) {i : Nat} {z : Int} (hi : i + 1 = S.length) (hz : z ∈ S) : z ≤ hN S i := by
  obtain ⟨j, hj, rfl⟩ := hN_of_mem hz
  by_cases e : j = i
  · subst e
    omega
  · have := sorted_lt hp (show j < i by omega) (by omega)
    omega
def spGe : PySem.W.Frag → Addr → Sp := spCmp fun z => decide (0 ≤ z)
def spOver (K : PySem.W.Frag) (C : Addr) : Sp := fun vs H Q _ => ∃ a v t b n d, vs = [.ref a, v] ∧ RCls K C ∧ RatAt C H a t b ∧ Num C H v n d ∧ 0 < n ∧ Sz 3000 t ∧ Sz 3000 b ∧ Sz 3000 n ∧ Sz 3000 d ∧
  ∀ q H' x y, Same H H' → RatAt C H' q x y → Red (t * d) (b * n) x y → Q (.ref q) H'
def spIsAm (K : PySem.W.Frag) (C : Addr) : Sp := fun vs H Q _ => ∃ v n d, vs = [v] ∧ RCls K C ∧ Num C H v n d ∧ Sz 3000 n ∧ Sz 3000 d ∧ ∀ H', Same H H' → Q (.bl (decide (0 ≤ n * 1 - 0 * d))) H'
def spChkA (K : PySem.W.Frag) (C : Addr) : Sp := fun vs H Q _ => ∃ v n d, vs = [v] ∧ RCls K C ∧ Num C H v n d ∧ 0 ≤ n ∧ Sz 3000 n ∧ Sz 3000 d ∧ ∀ q H', Same H H' → RatAt C H' q n d → Q (.ref q) H'
def spLvA (K : PySem.W.Frag) (CP CR : Addr) : Sp := fun vs H Q _ => ∃ p hs ws, ∃ f l : Nat, ∃ q t b, vs = [.ref p, .int (f : Int), .int (l : Int), .ref q] ∧ PCls K CP ∧ RCls K CR ∧ ProfAt K CP H p hs ws ∧ PrOk hs ws ∧ f ≤ l ∧ l < hs.length ∧ RatAt CR H q t b ∧ 0 ≤ t ∧ Sz 2000 t ∧ Sz 1000 b ∧
  ∀ r H' n d, Same H H' → RatAt CR H' r n d → LvOk (hN hs) (hN ws) f (l + 1 - f) t b n d → Sz 2100 n → Sz 1200 d → Q (.ref r) H'
def spLvF (K : PySem.W.Frag) (CP CR : Addr) : Sp := fun vs H Q _ => ∃ p hs ws, ∃ f l : Nat, ∃ v t b, vs = [.ref p, .int (f : Int), .int (l : Int), v] ∧ PCls K CP ∧ RCls K CR ∧ ProfAt K CP H p hs ws ∧ PrOk hs ws ∧ f ≤ l ∧ l < hs.length ∧ Num CR H v t b ∧ 0 ≤ t ∧ Sz 2000 t ∧ Sz 1000 b ∧
  ∀ r H' n d, Same H H' → RatAt CR H' r n d → LvOk (hN hs) (hN ws) f (l + 1 - f) t b n d → Sz 2100 n → Sz 1200 d → Q (.ref r) H'
def t_Ratio___add__ (K : PySem.W.Frag) (C_Ratio : Addr) : TS :=
  (tSeq (tAsg (tCall (spAsR K C_Ratio) [] E0 (tCons (tVar 1) tNil)) (gName 2))
    (tSeq (tIfS (tTest (tOp oIsN (tVar 2) (tC .non))) tNever tNext)
    (tSeq (tAsg (tOp oAdd (tOp oMulW (tFld K (tVar 0) "reduced_top") (tFld K (tVar 2) "reduced_bottom")) (tOp oMulW (tFld K (tVar 2) "reduced_top") (tFld K (tVar 0) "reduced_bottom"))) (gName 3))
    (tRet (tMake C_Ratio (spRInit K C_Ratio) [] E0 (tCons (tVar 3) (tCons (tOp oMulW (tFld K (tVar 0) "reduced_bottom") (tFld K (tVar 2) "reduced_bottom")) tNil)))))))
def t_Ratio___le__ (K : PySem.W.Frag) (C_Ratio : Addr) : TS :=
  (tSeq (tAsg (tCall (spAsR K C_Ratio) [] E0 (tCons (tVar 1) tNil)) (gName 2))
    (tSeq (tIfS (tTest (tOp oIsN (tVar 2) (tC .non))) tNever tNext)
    (tRet (tOp oLe (tCall (spGap K C_Ratio) [] E0 (tCons (tVar 0) (tCons (tVar 2) tNil))) (tC (.int 0))))))
def t_Ratio___ge__ (K : PySem.W.Frag) (C_Ratio : Addr) : TS :=
  (tSeq (tAsg (tCall (spAsR K C_Ratio) [] E0 (tCons (tVar 1) tNil)) (gName 2))
    (tSeq (tIfS (tTest (tOp oIsN (tVar 2) (tC .non))) tNever tNext)
    (tRet (tOp oGe (tCall (spGap K C_Ratio) [] E0 (tCons (tVar 0) (tCons (tVar 2) tNil))) (tC (.int 0))))))
def t_Ratio_over (K : PySem.W.Frag) (C_Ratio : Addr) : TS :=
  (tSeq (tAsg (tCall (spAsR K C_Ratio) [] E0 (tCons (tVar 1) tNil)) (gName 2))
    (tSeq (tIfS (tOr (tTest (tOp oIsN (tVar 2) (tC .non))) (tTest (tOp rEq (tFld K (tVar 2) "reduced_top") (tC (.int 0))))) tNever tNext)
    (tRet (tMake C_Ratio (spRInit K C_Ratio) [] E0 (tCons (tOp oMulW (tFld K (tVar 0) "reduced_top") (tFld K (tVar 2) "reduced_bottom")) (tCons (tOp oMulW (tFld K (tVar 0) "reduced_bottom") (tFld K (tVar 2) "reduced_top")) tNil))))))
def t_is_amount (K : PySem.W.Frag) (C_Ratio : Addr) : TS :=
  (tSeq (tAsg (tCall (spAsR K C_Ratio) [] E0 (tCons (tVar 0) tNil)) (gName 1))
    (tRet (tAndV (tOp oNotN (tVar 1) (tC .non)) (tOp (rOwn C_Ratio (spGe K C_Ratio) E0) (tVar 1) (tC (.int 0))))))
def t_checked_amount (K : PySem.W.Frag) (C_Ratio : Addr) : TS :=
  (tSeq (tIfS (tNot (tB (tCall (spIsAm K C_Ratio) [] E0 (tCons (tVar 0) tNil)))) tNever tNext)
    (tRet (tCall (spChkN K C_Ratio) [] E0 (tCons (tVar 0) tNil))))
def t_level_above (K : PySem.W.Frag) (C_Profile : Addr) (C_Ratio : Addr) : TS :=
  (tSeq (tAsg (tSl (rSlA K) (tProp C_Profile (getSp C_Profile "column_heights") [] E0 (tVar 0)) (tPart (tVar 1)) (tPart (tOp oAdd (tVar 2) (tC (.int 1))))) (gName 4))
    (tSeq (tAsg (tSl (rSlA K) (tProp C_Profile (getSp C_Profile "column_widths") [] E0 (tVar 0)) (tPart (tVar 1)) (tPart (tOp oAdd (tVar 2) (tC (.int 1))))) (gName 5))
    (tSeq (tAsg (tSortSet K (tLc (iTup K (tVar 4)) (gName 12) tYes (tCB cInt (tCons (tVar 12) tNil)) [12])) (gName 6))
    (tSeq (tAsg (tC (.int 0)) (gName 7))
    (tSeq (tAsg (tC (.int 0)) (gName 8))
    (tSeq (tFor (iEnum K (tCons (tVar 6) tNil)) (gTup K 2 (gCons (gName 9) (gCons (gName 10) gNil))) (tSeq (tAsg (tOp oAdd (tVar 7) (tCB (rSum K) (tCons (tLc (RZ.iZipA K (tCons (tVar 4) (tCons (tVar 5) tNil))) (gTup K 2 (gCons (gName 12) (gCons (gName 13) gNil))) (tTest (tOp rEq (tVar 12) (tVar 10))) (tVar 13) [12, 13]) tNil))) (gName 7))
    (tSeq (tIfS (tTest (tOp rEq (tOp oAdd (tVar 9) (tC (.int 1))) (tCB (cLen K) (tCons (tVar 6) tNil)))) tBreak tNext)
    (tSeq (tAsg (tOp oMulW (tVar 7) (tOp oSub (tOp (rIxL K) (tVar 6) (tOp oAdd (tVar 9) (tC (.int 1)))) (tVar 10))) (gName 11))
    (tSeq (tIfS (tTest (tOp (rOwn C_Ratio (spLe K C_Ratio) E0) (tVar 3) (tOp oAdd (tVar 8) (tVar 11)))) tBreak tNext)
    (tAsg (tOp oAdd (tVar 8) (tVar 11)) (gName 8)))))))
    (tRet (tOp (rOwnI C_Ratio (spAdd K C_Ratio) E0) (tMeth C_Ratio "over" (spOver K C_Ratio) [] E0 (tOp (rOwnI C_Ratio (spSub K C_Ratio) E0) (tVar 3) (tVar 8)) (tCons (tVar 7) tNil)) (tVar 10)))))))))
def t_level_for (K : PySem.W.Frag) (C_Profile : Addr) (C_Ratio : Addr) : TS :=
  (tSeq (tDrop (tCall (spChkRun K C_Profile) [] E0 (tCons (tVar 0) (tCons (tVar 1) (tCons (tVar 2) tNil)))))
    (tRet (tCall (spLvA K C_Profile C_Ratio) [] E0 (tCons (tVar 0) (tCons (tVar 1) (tCons (tVar 2) (tCons (tCall (spChkA K C_Ratio) [] E0 (tCons (tVar 3) tNil)) tNil)))))))
local macro_rules | `(tactic| walk_at "rv st") => `(tactic| first
  | with_reducible refine iteT ?_ | with_reducible refine iteF ?_ | with_reducible refine w_nx ?_ | with_reducible refine w_yes ?_ | with_reducible refine w_rt ?_ | with_reducible refine iteNT ?_ | with_reducible refine iteNF ?_ | with_reducible refine iteNRf ?_ | with_reducible refine iteRf ?_ | with_reducible refine w_seqA ?_ | with_reducible refine w_seqD ?_ | with_reducible refine w_seqP ?_ | with_reducible refine w_asg ?_ | with_reducible refine w_ret ?_ | with_reducible refine w_drop ?_ | with_reducible refine w_ifs ?_ | with_reducible refine w_next ?_ | with_reducible refine w_par ?_
  | with_reducible refine w_op ?_ | with_reducible refine w_un ?_ | ((with_reducible show tVar _ _ _ _); refine' w_var ?hv ?_; (case hv => exact rfl)) | with_reducible refine w_c ?_ | with_reducible refine w_test ?_ | with_reducible refine w_tB ?_
  | with_reducible refine w_bl ?_ | with_reducible refine w_I0 ?_ | with_reducible refine w_U ?_ | with_reducible refine w_eqI ?_ | with_reducible refine w_neI ?_
  | with_reducible refine w_cons ?_ | with_reducible refine w_nil ?_ | with_reducible refine w_gn ?_ | with_reducible refine w_gsub ?_ | with_reducible refine w_and ?_ | with_reducible refine w_or ?_ | with_reducible refine w_not ?_
  | with_reducible refine w_andV ?_ | with_reducible refine w_orV ?_ | with_reducible refine w_notV ?_ | with_reducible refine w_if ?_ | with_reducible refine w_cb ?_ | with_reducible refine w_call ?_ | with_reducible refine w_lst ?_ | with_reducible refine w_tup ?_
  | with_reducible refine w_sl ?_ | with_reducible refine w_noPart ?_ | with_reducible refine w_part ?_ | with_reducible refine w_ex1 ?_ | with_reducible refine w_exb ?_ | with_reducible refine w_intB ?_ | with_reducible refine w_intI ?_ | with_reducible refine w_abs ?_)
local macro_rules | `(tactic| walk_at "rv ix") => `(tactic| ((with_reducible show rIxL _ _ _ _ _); refine' w_ixL (sq_lst ?ha) ?hb ?_; (case ha => first | exact upd_same | assumption); (case hb => first | exact rfl | assumption)))
local macro_rules | `(tactic| walk_at "rv ar") => `(tactic| first
  | (refine' w_I ?hc ?_; (case hc => first | (show (0 : Int) < _; first | assumption | decide | omega) | exact pow_c (by decide) (by decide) (by first | decide | omega) (by first | decide | omega) | exact mul_r (by first | decide | omega) (by first | decide | omega) | exact mul_l (by first | decide | omega) (by first | decide | omega) | exact divw (by first | assumption | decide | omega) (by first | assumption | decide | omega))))
local macro_rules | `(tactic| walk_at "rv go") => `(tactic| repeat first | walk_at "rv st" | walk_at "rv ix" | ((with_reducible show rI _ _ _ _ _ _); walk_at "rv ar"))
theorem p_add {K : PySem.W.Frag} {C : Addr} {vs : List V} {H : Hp} {Q : VK} {E : XK} (h : spAdd K C vs H Q E) : t_Ratio___add__ K C { nx := fun _ H' => Q .non H', rt := Q } (start ["self", "other", "right", "top"] vs) H := by
  obtain ⟨a, v, t, b, n, d, rfl, R, ha, hv, s1, s2, s3, s4, k⟩ := h
  unfold t_Ratio___add__
  walk_at "rv go"
  refine ⟨v, n, d, rfl, R, hv, fun q H1 e hq => ?_⟩
  have hd := hv.pos
  obtain ⟨l1, dx, ha⟩ := ha.same e
  obtain ⟨l2, dy, hq⟩ := hq
  walk_at "rv go"
  refine w_seq ?_
  walk_at "rv go"
  refine ⟨rfl, ?_⟩
  rw [decide_eq_false (show ¬ V.ref q = V.non from fun z => nomatch z)]
  walk_at "rv go"
  refine w_fld rfl ha R.cl R.nT (rfl2_t _ _) ?_
  refine w_fld rfl hq R.cl R.nB (rfl2_b _ _) ?_
  refine w_I (mulw s1 s4 (by decide) (by decide) (by decide)) ?_
  walk_at "rv go"
  refine w_fld rfl hq R.cl R.nT (rfl2_t _ _) ?_
  refine w_fld rfl ha R.cl R.nB (rfl2_b _ _) ?_
  refine w_I (mulw s3 s2 (by decide) (by decide) (by decide)) ?_
  walk_at "rv go"
  refine w_make ?_
  walk_at "rv go"
  refine w_fld rfl ha R.cl R.nB (rfl2_b _ _) ?_
  refine w_fld rfl hq R.cl R.nB (rfl2_b _ _) ?_
  refine w_I (mulw s2 s4 (by decide) (by decide) (by decide)) ?_
  walk_at "rv go"
  exact mk_rat (Q := fun x H' => Q (.ref x) H') rfl R (Int.mul_pos l1.1 hd) ((s2.mul s4).mono (by decide)) fun x H' y z e2 r hr => k x H' y z (e.trans e2) hr r
theorem p_le {K : PySem.W.Frag} {C : Addr} {vs : List V} {H : Hp} {Q : VK} {E : XK} (h : spLe K C vs H Q E) : t_Ratio___le__ K C { nx := fun _ H' => Q .non H', rt := Q } (start ["self", "other", "right"] vs) H := by
  obtain ⟨a, v, t, b, n, d, rfl, R, ha, hv, s1, s2, s3, s4, k⟩ := h
  unfold t_Ratio___le__
  walk_at "rv go"
  refine ⟨v, n, d, rfl, R, hv, fun q H1 e hq => ?_⟩
  walk_at "rv go"
  refine w_seq ?_
  walk_at "rv go"
  refine ⟨rfl, ?_⟩
  rw [decide_eq_false (show ¬ V.ref q = V.non from fun z => nomatch z)]
  walk_at "rv go"
  refine ⟨a, q, t, b, n, d, rfl, R, ha.same e, hq, s1.mono (by decide), s2.mono (by decide), s3.mono (by decide), s4.mono (by decide), ?_⟩
  walk_at "rv go"
  exact k H1 e
theorem p_ge {K : PySem.W.Frag} {C : Addr} {vs : List V} {H : Hp} {Q : VK} {E : XK} (h : spGe K C vs H Q E) : t_Ratio___ge__ K C { nx := fun _ H' => Q .non H', rt := Q } (start ["self", "other", "right"] vs) H := by
  obtain ⟨a, v, t, b, n, d, rfl, R, ha, hv, s1, s2, s3, s4, k⟩ := h
  unfold t_Ratio___ge__
  walk_at "rv go"
  refine ⟨v, n, d, rfl, R, hv, fun q H1 e hq => ?_⟩
  walk_at "rv go"
  refine w_seq ?_
  walk_at "rv go"
  refine ⟨rfl, ?_⟩
  rw [decide_eq_false (show ¬ V.ref q = V.non from fun z => nomatch z)]
  walk_at "rv go"
  refine ⟨a, q, t, b, n, d, rfl, R, ha.same e, hq, s1.mono (by decide), s2.mono (by decide), s3.mono (by decide), s4.mono (by decide), ?_⟩
  walk_at "rv go"
  exact k H1 e
theorem p_over {K : PySem.W.Frag} {C : Addr} {vs : List V} {H : Hp} {Q : VK} {E : XK} (h : spOver K C vs H Q E) : t_Ratio_over K C { nx := fun _ H' => Q .non H', rt := Q } (start ["self", "other", "right"] vs) H := by
  obtain ⟨a, v, t, b, n, d, rfl, R, ha, hv, hn, s1, s2, s3, s4, k⟩ := h
  unfold t_Ratio_over
  walk_at "rv go"
  refine ⟨v, n, d, rfl, R, hv, fun q H1 e hq => ?_⟩
  obtain ⟨l1, dx, ha⟩ := ha.same e
  obtain ⟨l2, dy, hq⟩ := hq
  walk_at "rv go"
  refine w_seq ?_
  walk_at "rv go"
  refine ⟨rfl, ?_⟩
  rw [decide_eq_false (show ¬ V.ref q = V.non from fun z => nomatch z)]
  walk_at "rv go"
  refine w_fld rfl hq R.cl R.nT (rfl2_t _ _) ?_
  walk_at "rv go"
  rw [decide_eq_false (show ¬ n = 0 by omega)]
  walk_at "rv go"
  refine w_make ?_
  walk_at "rv go"
  refine w_fld rfl ha R.cl R.nT (rfl2_t _ _) ?_
  refine w_fld rfl hq R.cl R.nB (rfl2_b _ _) ?_
  refine w_I (mulw s1 s4 (by decide) (by decide) (by decide)) ?_
  walk_at "rv go"
  refine w_fld rfl ha R.cl R.nB (rfl2_b _ _) ?_
  refine w_fld rfl hq R.cl R.nT (rfl2_t _ _) ?_
  refine w_I (mulw s2 s3 (by decide) (by decide) (by decide)) ?_
  walk_at "rv go"
  exact mk_rat (Q := fun x H' => Q (.ref x) H') rfl R (Int.mul_pos l1.1 hn) ((s2.mul s3).mono (by decide)) fun x H' y z e2 r hr => k x H' y z (e.trans e2) hr r
theorem p_isAm {K : PySem.W.Frag} {C : Addr} {vs : List V} {H : Hp} {Q : VK} {E : XK} (h : spIsAm K C vs H Q E) : t_is_amount K C { nx := fun _ H' => Q .non H', rt := Q } (start ["value", "found"] vs) H := by
  obtain ⟨v, n, d, rfl, R, hv, s1, s2, k⟩ := h
  unfold t_is_amount
  walk_at "rv go"
  refine ⟨v, n, d, rfl, R, hv, fun q H1 e hq => ?_⟩
  walk_at "rv go"
  refine ⟨rfl, ?_⟩
  rw [decide_eq_false (show ¬ V.ref q = V.non from fun z => nomatch z)]
  walk_at "rv go"
  obtain ⟨l2, dy, hq2⟩ := id hq
  refine w_ownI hq2 ?_
  exact ⟨q, _, n, d, 0, 1, rfl, R, hq, .inl ⟨rfl, rfl⟩, s1, s2, sz_lit (M := 0) (by decide), sz_one (by decide), fun H2 e2 => k H2 (e.trans e2)⟩
theorem p_chkA {K : PySem.W.Frag} {C : Addr} {vs : List V} {H : Hp} {Q : VK} {E : XK} (h : spChkA K C vs H Q E) : t_checked_amount K C { nx := fun _ H' => Q .non H', rt := Q } (start ["value"] vs) H := by
  obtain ⟨v, n, d, rfl, R, hv, hn, s1, s2, k⟩ := h
  unfold t_checked_amount
  refine w_seq ?_
  walk_at "rv go"
  refine ⟨v, n, d, rfl, R, hv, s1, s2, fun H1 e => ?_⟩
  rw [decide_eq_true (show 0 ≤ n * 1 - 0 * d by omega)]
  walk_at "rv go"
  exact ⟨v, n, d, rfl, R, hv.same e, fun q H' e2 hq => k q H' (e.trans e2) hq⟩
def sub (xs : List Int) (f l : Nat) : List Int := (xs.drop f).take (l + 1 - f)
theorem sub_len {xs : List Int} {f l : Nat} (h : l < xs.length) : (sub xs f l).length = l + 1 - f := by
  unfold sub
  rw [List.length_take, List.length_drop]
  omega
theorem sub_hN {xs : List Int} {f l j : Nat} (h : j < l + 1 - f) : hN (sub xs f l) j = hN xs (f + j) := by
  unfold hN sub
  rw [List.getElem?_take_of_lt h, List.getElem?_drop]
theorem slice_tup {K : PySem.W.Frag} {H : Hp} {Q : VK} {t : Addr} {xs : List Int} {f l : Nat} (hfl : f ≤ l) (hl : l < xs.length) (hT : SqT K H t (xs.map V.int)) (k : ∀ x H', Same H H' → SqT K H' x ((sub xs f l).map V.int) → Q (.ref x) H') :
    rSlA K (.ref t) (some (f : Int)) (some ((l : Int) + 1)) H Q := by
  have e1 : ((l : Int) + 1) = ((l + 1 : Nat) : Int) := by omega
  rw [e1]
  have ln : (xs.map V.int).length = xs.length := List.length_map ..
  have z1 : HT.sIx (xs.map V.int).length 0 (some (f : Int)) = f := by
    rw [HT.sIx_nat, ln]
    omega
  have z2 : HT.sIx (xs.map V.int).length (xs.map V.int).length (some ((l + 1 : Nat) : Int)) = l + 1 := by
    rw [HT.sIx_nat, ln]
    omega
  refine ⟨t, _, rfl, hT, ?_, ?_⟩
  · rw [z1, z2, ln]
    rintro ⟨rfl, h2⟩
    have e : sub xs 0 l = xs := by
      unfold sub
      rw [List.drop_zero]
      exact List.take_of_length_le (by omega)
    exact k t H (Same.refl H) (by rw [e]; exact hT)
  · intro _ p np
    refine k p _ (same_new (Same.refl H) np) (sq_tup ?_)
    rw [upd_same]
    unfold cutV sub
    rw [z1, z2, List.map_take, List.map_drop]
theorem sqt_same {K : PySem.W.Frag} {H H' : Hp} {a : Addr} {xs : List V} (h : SqT K H a xs) (e : Same H H') : SqT K H' a xs := by
  rcases h with (h | ⟨o, h⟩) | h
  · exact .inl (.inl (e _ _ h))
  · exact .inl (.inr ⟨o, e _ _ h⟩)
  · exact .inr h
section
variable {K : PySem.W.Frag} {σ : L2.St} {H : Hp} {Q : VK} {slot : Nat} {tl te : TE} {tt : TT} {tr : TA} {g : TG} {a b : Addr} {xs ys : List V} {vs : List Nat}
/-- [.. for x in t if ..], t a tuple -/
theorem w_lcT (ht : ∀ Q : VK, Q (.ref a) H → tl σ H Q) (hx : SqT K H a xs) (J : Addr → Nat → List V → Hp → Prop) (h0 : ∀ D, H D = none → J D 0 [] (upd H D (.lst []))) (hl : ∀ D i acc H1, J D i acc H1 → SqT K H1 a xs)
    (hs : ∀ D i acc x H1, xs[i]? = some x → J D i acc H1 → g x (wipe σ vs) H1 fun σ2 H2 => wipe σ2 vs = wipe σ vs ∧ tt σ2 H2 fun b H3 => if b = true then te σ2 H3 fun y H4 => ∃ bcc, H4 D = some (.lst bcc) ∧ bcc.length < sizeLine ∧ ∃ ccc, J D (i + 1) ccc (upd H4 D (.lst (bcc ++ [y]))) else ∃ ccc, J D (i + 1) ccc H3)
    (hd : ∀ D acc H1, J D xs.length acc H1 → Q (.ref D) H1) : tLc (iTup K tl) g tt te vs σ H Q := by
  refine ht _ ⟨a, rfl, ⟨xs, hx⟩, fun D nD => ?_⟩
  exact lc_tup (fun i H1 => ∃ acc, J D i acc H1) ⟨[], h0 D nD⟩ (fun i H1 _ ⟨acc, q⟩ => hl D i acc H1 q) (fun i x H1 hx ⟨acc, q⟩ => hs D i acc x H1 hx q) fun H1 ⟨acc, q⟩ => hd D acc H1 q
/-- [.. for x, y in zip(t, u) if ..], two tuples -/
theorem w_lcZT (ht : ∀ AQ : List V → Hp → Prop, AQ [.ref a, .ref b] H → tr σ H AQ) (hx : SqT K H a xs) (hy : SqT K H b ys) (he : xs.length = ys.length) (J : Addr → Nat → List V → Hp → Prop) (h0 : ∀ D, H D = none → J D 0 [] (upd H D (.lst [])))
    (hl : ∀ D i acc H1, J D i acc H1 → SqT K H1 a xs ∧ SqT K H1 b ys)
    (hs : ∀ D i acc x y T H1, xs[i]? = some x → ys[i]? = some y → J D i acc H1 → H1 T = none → g (.ref T) (wipe σ vs) (upd H1 T (.tup [x, y])) fun σ2 H2 => wipe σ2 vs = wipe σ vs ∧ tt σ2 H2 fun b H3 => if b = true then te σ2 H3 fun y H4 => ∃ bcc, H4 D = some (.lst bcc) ∧ bcc.length < sizeLine ∧ ∃ ccc, J D (i + 1) ccc (upd H4 D (.lst (bcc ++ [y]))) else ∃ ccc, J D (i + 1) ccc H3)
    (hd : ∀ D acc H1, J D xs.length acc H1 → Q (.ref D) H1) : tLc (RZ.iZipA K tr) g tt te vs σ H Q := by
  refine ht _ ⟨a, b, xs, ys, rfl, .inr ⟨hx, hy, fun D nD => ?_⟩⟩
  refine ⟨fun i m H2 => m = xs.length - i ∧ i ≤ xs.length ∧ ∃ acc, J D i acc H2, ⟨xs.length, by simp, Nat.zero_le _, [], h0 D nD⟩, ?_⟩
  rintro i m H2 ⟨rfl, hi, acc, q⟩
  obtain ⟨q1, q2⟩ := hl D i acc H2 q
  by_cases hlt : i < xs.length
  · have k2 : i < ys.length := by omega
    refine .inr ⟨⟨xs, ys, xs[i], ys[i], q1, q2, List.getElem?_eq_getElem hlt, List.getElem?_eq_getElem k2⟩, fun H' => ∃ ccc, J D (i + 1) ccc H', fun H' z => ⟨xs.length - (i + 1), by omega, rfl, hlt, z⟩, ?_⟩
    rintro z H' ⟨T, x, y, rfl, nT, rfl, hx, hy⟩
    exact hs D i acc x y T H2 (hx xs q1) (hy ys q2) q nT
  · have e : i = xs.length := by omega
    subst e
    exact .inl ⟨⟨xs, ys, q1, q2, .inl (Nat.le_refl _)⟩, hd D acc H2 q⟩
theorem w_meth {C : Addr} {m : Str} {sp : Sp} {E : XK} {ta : TE} (q : ta σ H fun x H1 => ∃ a dx fs, x = .ref a ∧ H1 a = some (.ins C dx fs) ∧ fs.lookup m = none ∧ tr σ H1 fun vs H2 => sp (x :: (vs ++ [])) H2 Q E) : tMeth C m sp [] E ta tr σ H Q := q
end
theorem rfl2_over (t b : Int) : (rfl2 t b).lookup ("over" : Str) = none := by
  unfold rfl2
  rw [lookup_putF, if_neg (by decide +kernel), lookup_putF, if_neg (by decide +kernel)]
  rfl
theorem due_nn {h w : Nat → Int} {t b : Int} {f : Nat} : ∀ {k : Nat}, (∀ j, j < k → 1 ≤ w (f + j)) → 0 ≤ dueF h w t b f k
  | 0, _ => by simp [dueF]
  | k + 1, a => by
    have h1 := due_nn (h := h) (t := t) (b := b) (k := k) fun j hj => a j (by omega)
    have h2 := a k (by omega)
    unfold dueF
    split
    · have := Int.mul_nonneg (show 0 ≤ w (f + k) by omega) (show 0 ≤ t - h (f + k) * b by omega)
      omega
    · omega
theorem sub_mem {xs : List Int} {f l : Nat} {z : Int} (hl : l < xs.length) : z ∈ sub xs f l ↔ ∃ j, j < l + 1 - f ∧ z = hN xs (f + j) := by
  constructor
  · intro h
    obtain ⟨j, hj, e⟩ := hN_of_mem h
    rw [sub_len hl] at hj
    exact ⟨j, hj, by rw [e, sub_hN hj]⟩
  · rintro ⟨j, hj, rfl⟩
    rw [← sub_hN hj]
    exact hN_mem (by rw [sub_len hl]; exact hj)
theorem run_bounds {hs ws : List Int} {f l : Nat} {s : Int} (ok : PrOk hs ws) (hfl : f ≤ l) (hl : l < hs.length) (hs1 : HOk1 s) :
    Sz 110 (wLe (hN hs) (hN ws) s f (l + 1 - f)) ∧ Sz 240 (dueF (hN hs) (hN ws) s 1 f (l + 1 - f)) := by
  have h60 := ok.le
  have hwl := ok.eq
  have hw : ∀ j, j < l + 1 - f → WOk1 (hN ws (f + j)) := fun j hj => ok.ww _ (hN_mem (by omega))
  have hh : ∀ j, j < l + 1 - f → HOk1 (hN hs (f + j)) := fun j hj => ok.hh _ (hN_mem (by omega))
  have k60 : l + 1 - f ≤ 60 := by omega
  have b1 : Sz 110 (wLe (hN hs) (hN ws) s f (l + 1 - f)) := by
    have b := sumF_bound (g := fun c => if hN hs c ≤ s then hN ws c else 0) (f := f) (k := l + 1 - f) (M := 1000000000000000000000000000000) fun j hj => by
      have := (hw j hj).1
      have := (hw j hj).2
      split <;> omega
    have e : wLe (hN hs) (hN ws) s f (l + 1 - f) = sumF (fun c => if hN hs c ≤ s then hN ws c else 0) f (l + 1 - f) := rfl
    rw [← e] at b
    exact sz_lit (M := 60000000000000000000000000000000) (by omega)
  have b2 : Sz 210 (gLe (hN hs) (hN ws) s f (l + 1 - f)) := by
    have b := sumF_bound (g := fun c => if hN hs c ≤ s then hN ws c * hN hs c else 0) (f := f) (k := l + 1 - f) (M := 1000000000000000000000000000000000000000000000000000000000000) fun j hj => by
      have q : (hN ws (f + j) * hN hs (f + j)).natAbs ≤ 1000000000000000000000000000000000000000000000000000000000000 := by
        rw [Int.natAbs_mul]
        exact Nat.le_trans (Nat.mul_le_mul (wok_sz (hw j hj)) (hok_sz (hh j hj))) (by decide)
      split <;> omega
    have e : gLe (hN hs) (hN ws) s f (l + 1 - f) = sumF (fun c => if hN hs c ≤ s then hN ws c * hN hs c else 0) f (l + 1 - f) := rfl
    rw [← e] at b
    exact sz_lit (M := 60000000000000000000000000000000000000000000000000000000000000) (by omega)
  refine ⟨b1, ?_⟩
  rw [due_le (s := s) (n := s) (d := 1) (by omega) (by omega) (fun j hj z => by omega), Int.mul_one]
  exact (Sz.sub (k := 215) ((b1.mul (sz_lit (k := 100) (hok_sz hs1))).mono (by decide)) (b2.mono (by decide))).mono (by decide)
theorem p_lvA {K : PySem.W.Frag} {CP CR : Addr} {vs : List V} {H : Hp} {Q : VK} {E : XK} (h : spLvA K CP CR vs H Q E) : t_level_above K CP CR { nx := fun _ H' => Q .non H', rt := Q } (start ["profile", "first", "last", "volume", "heights", "widths", "steps", "wide", "held", "at", "step", "layer", "height", "width"] vs) H := by
  obtain ⟨p, hs, ws, f, l, q, vt, vb, rfl, P, R, ⟨dx, t1, t2, hp, h1, h2⟩, ok, hfl, hl, hq, v0, st, sb, k⟩ := h
  have h60 := ok.le
  have hwl := ok.eq
  have hw1 : ∀ j, j < l + 1 - f → 1 ≤ hN ws (f + j) := fun j hj => (ok.ww _ (hN_mem (by omega))).1
  unfold t_level_above
  refine w_seqA ?_
  refine w_sl ?_
  refine w_prop rfl hp ?_
  refine ⟨p, dx, _, _, rfl, hp, pfl_h _ _, ?_⟩
  walk_at "rv go"
  refine slice_tup hfl hl (sq_tup h1) fun x1 H1 e1 hx1 => ?_
  walk_at "rv go"
  refine w_prop rfl (e1 _ _ hp) ?_
  refine ⟨p, dx, _, _, rfl, e1 _ _ hp, pfl_w _ _, ?_⟩
  walk_at "rv go"
  refine slice_tup hfl (by omega) (sq_tup (e1 _ _ h2)) fun x2 H2 e2 hx2 => ?_
  walk_at "rv go"
  have hx1' := sqt_same hx1 e2
  have lsub : (sub hs f l).length = l + 1 - f := sub_len hl
  have lsubw : (sub ws f l).length = l + 1 - f := sub_len (by omega)
  refine w_ss ?_
  refine w_lcT (a := x1) (xs := (sub hs f l).map V.int) (fun Q q => by walk_at "rv go"; exact q) hx1' (fun D i acc H' => Same H2 H' ∧ H2 D = none ∧ H' D = some (.lst acc) ∧ acc = ((sub hs f l).take i).map V.int ∧ acc.length ≤ i)
    (fun D nD => ⟨same_new (Same.refl H2) nD, nD, upd_same, by rw [List.take_zero]; rfl, Nat.le_refl _⟩) (fun D i acc H' ⟨e, _⟩ => sqt_same hx1' e) ?_ ?_
  · rintro D i acc x H' hxi ⟨e, nD, hD, hacc, hl2⟩
    rw [List.getElem?_map] at hxi
    obtain ⟨z, hz, rfl⟩ := Option.map_eq_some_iff.mp hxi
    have il : i < (sub hs f l).length := (List.getElem?_eq_some_iff.mp hz).1
    refine ⟨rfl, ?_⟩
    walk_at "rv go"
    refine ⟨acc, hD, Nat.lt_of_lt_of_le (by omega : acc.length < 100001) (by decide), acc ++ [.int z], ?_, nD, upd_same, ?_, ?_⟩
    · exact fun c o hc => by
        rw [upd_ne (ne_of_none hc nD)]
        exact e _ _ hc
    · rw [List.take_add_one, hz, hacc]
      simp
    · rw [List.length_append]
      show acc.length + 1 ≤ i + 1
      omega
  rintro D acc H3 ⟨e3, nD, hD, hacc, _⟩
  rw [List.length_map, List.take_length] at hacc
  refine ⟨D, sub hs f l, rfl, sq_lst (by rw [hD, hacc]), by omega, fun out nd hm => ?_, fun S px hS hm npx => ?_⟩
  · have := nodup_le nd fun x hx => (hm x).mp hx
    omega
  -- the steps S
  have hmS : ∀ j, j < l + 1 - f → hN hs (f + j) ∈ S := fun j hj => (hm _).mpr ((sub_mem hl).mpr ⟨j, hj, rfl⟩)
  have hSm : ∀ i, i < S.length → ∃ j, j < l + 1 - f ∧ hN S i = hN hs (f + j) := fun i hi => (sub_mem hl).mp ((hm _).mp (hN_mem hi))
  have S0 : 0 < S.length := List.length_pos_of_mem (hmS 0 (by omega))
  have S60 : S.length ≤ 60 := by
    have nd : S.Nodup := List.Pairwise.imp (fun h => Int.ne_of_lt h) hS
    have := nodup_le nd fun x hx => (hm x).mp hx
    omega
  have hokS : ∀ i, i < S.length → HOk1 (hN S i) := fun i hi => by
    obtain ⟨j, hj, e⟩ := hSm i hi
    rw [e]
    exact ok.hh _ (hN_mem (by omega))
  have hmin : IsMin (hN hs) f (l + 1 - f) (hN S 0) := ⟨fun j hj => sorted_min hS (hmS j hj), hSm 0 S0⟩
  have e4 : Same H (upd H3 px (.lst (S.map V.int))) := same_new ((e1.trans e2).trans e3) npx
  have hx1'' : SqT K (upd H3 px (.lst (S.map V.int))) x1 ((sub hs f l).map V.int) := sqt_same hx1' (same_new e3 npx)
  have hx2'' : SqT K (upd H3 px (.lst (S.map V.int))) x2 ((sub ws f l).map V.int) := sqt_same hx2 (same_new e3 npx)
  have hpx : upd H3 px (.lst (S.map V.int)) px = some (.lst (S.map V.int)) := upd_same
  generalize upd H3 px (.lst (S.map V.int)) = H4 at e4 hx1'' hx2'' hpx
  walk_at "rv go"
  -- what is returned once the layer is found
  have fin : ∀ (i : Nat) (H' : Hp) (o9 o11 o12 o13 : Option V), i < S.length → Same H4 H' → dueF (hN hs) (hN ws) (hN S i) 1 f (l + 1 - f) * vb ≤ vt → (0 < i → 0 < vt) →
      (i + 1 = S.length ∨ (i + 1 < S.length ∧ vt ≤ (dueF (hN hs) (hN ws) (hN S i) 1 f (l + 1 - f) + wLe (hN hs) (hN ws) (hN S i) f (l + 1 - f) * (hN S (i + 1) - hN S i)) * vb)) →
      (tRet (tOp (rOwnI CR (spAdd K CR) E0) (tMeth CR "over" (spOver K CR) [] E0 (tOp (rOwnI CR (spSub K CR) E0) (tVar 3) (tVar 8)) (tCons (tVar 7) tNil)) (tVar 10))) { nx := fun _ H' => Q .non H', rt := Q }
        [some (.ref p), some (.int (f : Int)), some (.int (l : Int)), some (.ref q), some (.ref x1), some (.ref x2), some (.ref px), some (.int (wLe (hN hs) (hN ws) (hN S i) f (l + 1 - f))), some (.int (dueF (hN hs) (hN ws) (hN S i) 1 f (l + 1 - f))), o9, some (.int (hN S i)), o11, o12, o13] H' := by
    intro i H' o9 o11 o12 o13 hi e' hheld hpos hnext
    have hb := run_bounds ok hfl hl (hokS i hi)
    have wp : 0 < wLe (hN hs) (hN ws) (hN S i) f (l + 1 - f) := wLe_pos hw1 (by
      obtain ⟨j, hj, e⟩ := hSm i hi
      exact ⟨j, hj, by omega⟩)
    have ss : Sz 100 (hN S i) := sz_lit (hok_sz (hokS i hi))
    obtain ⟨lw, dq, hq'⟩ := hq.same (e4.trans e')
    have hh2 : ∀ j, j < l + 1 - f → hN S i < hN hs (f + j) → vt ≤ (dueF (hN hs) (hN ws) (hN S i) 1 f (l + 1 - f) + wLe (hN hs) (hN ws) (hN S i) f (l + 1 - f) * (hN hs (f + j) - hN S i)) * vb := fun j hj hlt => by
      rcases hnext with h | ⟨h, hv⟩
      · have := sorted_max hS h (hmS j hj)
        omega
      · refine Int.le_trans hv (Int.mul_le_mul_of_nonneg_right ?_ (by have := lw.1; omega))
        have n1 : ¬ hN hs (f + j) < hN S (i + 1) := fun z => by
          have := (sorted_next hS h (hmS j hj)).mp z
          omega
        have := Int.mul_le_mul_of_nonneg_left (show hN S (i + 1) - hN S i ≤ hN hs (f + j) - hN S i by omega) (show 0 ≤ wLe (hN hs) (hN ws) (hN S i) f (l + 1 - f) by omega)
        omega
    have hs0 : hN S 0 ≤ hN S i := sorted_min hS (hN_mem hi)
    have h0 : vt = 0 → hN S i = hN S 0 := fun z => by
      by_cases e : i = 0
      · rw [e]
      · have := hpos (by omega)
        omega
    have lay := fun n d hd e => layer_ok (n := n) (d := d) lw.1 hd rfl rfl wp e hheld hh2 hmin hs0 h0
    generalize wLe (hN hs) (hN ws) (hN S i) f (l + 1 - f) = wide at *
    generalize dueF (hN hs) (hN ws) (hN S i) 1 f (l + 1 - f) = held at *
    walk_at "rv go"
    refine w_meth ?_
    walk_at "rv go"
    refine w_binI hq' ?_
    refine ⟨q, _, vt, vb, held, 1, rfl, R, ⟨lw, dq, hq'⟩, .inl ⟨rfl, rfl⟩, st.mono (by decide), sb.mono (by decide), hb.2.mono (by decide), sz_one (by decide), fun r H5 n1 d1 e5 hr red1 => ?_⟩
    have sd1 : Sz 1000 d1 := red1.szb (by rw [Int.mul_one]; exact sb)
    have sn1 : Sz 2001 n1 := red1.szt ((Sz.sub (k := 2000) (by rw [Int.mul_one]; exact st.mono (by decide)) ((hb.2.mul sb).mono (by decide))).mono (by decide))
    obtain ⟨lr, dr, hr'⟩ := id hr
    refine ⟨r, dr, _, rfl, hr', rfl2_over _ _, ?_⟩
    walk_at "rv go"
    refine ⟨r, _, n1, d1, wide, 1, rfl, R, hr, .inl ⟨rfl, rfl⟩, wp, sn1.mono (by decide), sd1.mono (by decide), hb.1.mono (by decide), sz_one (by decide), fun r2 H6 n2 d2 e6 hr2 red2 => ?_⟩
    have sd2 : Sz 1110 d2 := red2.szb (sd1.mul hb.1)
    have sn2 : Sz 2001 n2 := red2.szt (by rw [Int.mul_one]; exact sn1)
    obtain ⟨lr2, dr2, hr2'⟩ := id hr2
    walk_at "rv go"
    refine w_binI hr2' ?_
    refine ⟨r2, _, n2, d2, hN S i, 1, rfl, R, hr2, .inl ⟨rfl, rfl⟩, sn2.mono (by decide), sd2.mono (by decide), ss.mono (by decide), sz_one (by decide), fun r3 H7 n d e7 hr3 red3 => ?_⟩
    refine k r3 H7 n d ((((e4.trans e').trans e5).trans e6).trans e7) hr3 (lay n d red3.pos (lv_three lr.1 lr2.1 red1.eq red2.eq red3.eq)) ?_ ?_
    · exact (red3.szt (Sz.add (k := 2001) (by rw [Int.mul_one]; exact sn2) ((ss.mul sd2).mono (by decide)))).mono (by decide)
    · exact (red3.szb (by rw [Int.mul_one]; exact sd2)).mono (by decide)
  refine w_seq ?_
  refine w_forE (a := px) (xs := S.map V.int) (fun AQ q => by walk_at "rv go"; exact q) (sq_lst hpx)
    (fun i σ' H' => i < S.length ∧ Same H4 H' ∧ (∃ o9 o10 o11 o12 o13, σ' = [some (.ref p), some (.int (f : Int)), some (.int (l : Int)), some (.ref q), some (.ref x1), some (.ref x2), some (.ref px), some (.int (wLt (hN hs) (hN ws) (hN S i) f (l + 1 - f))), some (.int (dueF (hN hs) (hN ws) (hN S i) 1 f (l + 1 - f))), o9, o10, o11, o12, o13]) ∧
      dueF (hN hs) (hN ws) (hN S i) 1 f (l + 1 - f) * vb ≤ vt ∧ (0 < i → 0 < vt))
    ⟨S0, Same.refl _, ⟨none, none, none, none, none, by rw [wLt_min hmin.1, due_min hmin.1]; rfl⟩, by rw [due_min hmin.1]; omega, fun z => absurd z (Nat.lt_irrefl 0)⟩ (fun i σ' H' ⟨_, e, _⟩ => sq_lst (e _ _ hpx)) ?_ ?_
  · rintro i x T σ' H5 hxi ⟨hi, e5, ⟨o9, o10, o11, o12, o13, rfl⟩, hheld, hpos⟩ nT
    rw [List.getElem?_map] at hxi
    obtain ⟨z, hz, rfl⟩ := Option.map_eq_some_iff.mp hxi
    have ez : z = hN S i := by
      unfold hN
      rw [hz]
      rfl
    subst ez
    refine ⟨T, _, rfl, sq_tup upd_same, rfl, _, _, rfl, ?_⟩
    refine ⟨_, _, rfl, rfl, ?_⟩
    have e5' : Same H4 (upd H5 T (.tup [.int (i : Int), .int (hN S i)])) := same_new e5 nT
    generalize upd H5 T (.tup [.int (i : Int), .int (hN S i)]) = H6 at e5'
    walk_at "rv go"
    refine w_lcZT (a := x1) (b := x2) (xs := (sub hs f l).map V.int) (ys := (sub ws f l).map V.int) (fun AQ q => by walk_at "rv go"; exact q) (sqt_same hx1'' e5') (sqt_same hx2'' e5') (by rw [List.length_map, List.length_map, lsub, lsubw])
      (fun D j acc H' => Same H6 H' ∧ H6 D = none ∧ H' D = some (.lst acc) ∧ ∃ zs : List Int, acc = zs.map V.int ∧ zs.sum = wEq (hN hs) (hN ws) (hN S i) f j ∧ zs.length ≤ j)
      (fun D nD => ⟨same_new (Same.refl H6) nD, nD, upd_same, [], rfl, rfl, Nat.le_refl _⟩) (fun D j acc H' ⟨e, _⟩ => ⟨sqt_same (sqt_same hx1'' e5') e, sqt_same (sqt_same hx2'' e5') e⟩) ?_ ?_
    · rintro D j acc x y T2 H' hx hy ⟨e, nD, hD, zs, rfl, hzs, hzl⟩ nT2
      rw [List.getElem?_map] at hx hy
      obtain ⟨a1, ha1, rfl⟩ := Option.map_eq_some_iff.mp hx
      obtain ⟨b1, hb1, rfl⟩ := Option.map_eq_some_iff.mp hy
      have jl : j < l + 1 - f := by
        have := (List.getElem?_eq_some_iff.mp ha1).1
        omega
      have ea : a1 = hN hs (f + j) := by
        rw [← sub_hN jl]
        unfold hN
        rw [ha1]
        rfl
      have eb : b1 = hN ws (f + j) := by
        rw [← sub_hN jl]
        unfold hN
        rw [hb1]
        rfl
      subst ea eb
      have DT : D ≠ T2 := ne_of_none hD nT2
      have eq1 : wEq (hN hs) (hN ws) (hN S i) f (j + 1) = wEq (hN hs) (hN ws) (hN S i) f j + if hN hs (f + j) = hN S i then hN ws (f + j) else 0 := rfl
      refine ⟨T2, _, rfl, sq_tup upd_same, rfl, _, _, rfl, _, _, rfl, rfl, rfl, ?_⟩
      walk_at "rv go"
      refine w_both (fun z => ?_) (fun z => ?_)
      · walk_at "rv go"
        refine ⟨zs.map V.int, by rw [upd_ne DT]; exact hD, Nat.lt_of_lt_of_le (by rw [List.length_map]; omega : _ < 100001) (by decide), (zs ++ [hN ws (f + j)]).map V.int, ?_, nD, ?_, zs ++ [hN ws (f + j)], rfl, ?_, ?_⟩
        · exact fun c o hc => by
            rw [upd_ne (ne_of_none hc nD), upd_ne (ne_of_none (e _ _ hc) nT2)]
            exact e _ _ hc
        · rw [upd_same, map_app]
        · rw [eq1, if_pos z, List.sum_append, hzs]
          simp
        · rw [List.length_append]
          show zs.length + 1 ≤ j + 1
          omega
      · exact ⟨_, same_new e nT2, nD, by rw [upd_ne DT]; exact hD, zs, rfl, by rw [eq1, if_neg z, Int.add_zero]; exact hzs, by omega⟩
    rintro D acc H7 ⟨e7, nD, hD, zs, rfl, hzs, hzl⟩
    rw [List.length_map, lsub] at hzs
    walk_at "rv go"
    refine ⟨D, zs, rfl, sq_lst hD, ?_⟩
    rw [hzs]
    walk_at "rv go"
    rw [← wLe_eq]
    have e47 : Same H4 H7 := e5'.trans e7
    have hpx7 := e47 _ _ hpx
    refine w_seq ?_
    walk_at "rv go"
    refine w_lenL (sq_lst hpx7) ?_
    walk_at "rv go"
    rw [List.length_map]
    refine w_both (fun z => ?_) (fun z => ?_)
    · exact fin i H7 _ _ _ _ hi e47 hheld hpos (.inl (by omega))
    · have hi2 : i + 1 < S.length := by omega
      have hb := run_bounds ok hfl hl (hokS i hi)
      have sl : Sz 101 (hN S (i + 1) - hN S i) := Sz.sub (sz_lit (hok_sz (hokS _ hi2))) (sz_lit (hok_sz (hokS _ hi)))
      walk_at "rv go"
      refine w_ixL (sq_lst hpx7) (by rw [show (i : Int) + 1 = ((i + 1 : Nat) : Int) by omega]; exact at_hN hi2) ?_
      walk_at "rv go"
      refine w_I (mulw hb.1 sl (by decide) (by decide) (by decide)) ?_
      walk_at "rv go"
      refine w_seq ?_
      walk_at "rv go"
      obtain ⟨lw, dq, hq'⟩ := hq.same (e4.trans e47)
      have sh2 : Sz 250 (dueF (hN hs) (hN ws) (hN S i) 1 f (l + 1 - f) + wLe (hN hs) (hN ws) (hN S i) f (l + 1 - f) * (hN S (i + 1) - hN S i)) := (Sz.add (k := 240) hb.2 ((hb.1.mul sl).mono (by decide))).mono (by decide)
      refine w_ownI hq' ?_
      refine ⟨q, _, vt, vb, _, 1, rfl, R, ⟨lw, dq, hq'⟩, .inl ⟨rfl, rfl⟩, st.mono (by decide), sb.mono (by decide), sh2.mono (by decide), sz_one (by decide), fun H8 e8 => ?_⟩
      walk_at "rv go"
      refine w_both (fun y => ?_) (fun y => ?_)
      · exact fin i H8 _ _ _ _ hi (e47.trans e8) hheld hpos (.inr ⟨hi2, by omega⟩)
      · walk_at "rv go"
        have lt := sorted_lt hS (show i < i + 1 by omega) hi2
        have d1 := due_le (h := hN hs) (w := hN ws) (f := f) (k := l + 1 - f) (s := hN S i) (n := hN S i) (d := 1) (by omega) (by omega) (fun j hj z => by omega)
        have d2 := due_le (h := hN hs) (w := hN ws) (f := f) (k := l + 1 - f) (s := hN S i) (n := hN S (i + 1)) (d := 1) (by omega) (by omega) (fun j hj z => by
          have : ¬ hN hs (f + j) < hN S (i + 1) := fun y => by
            have := (sorted_next hS hi2 (hmS j hj)).mp y
            omega
          omega)
        have eh : dueF (hN hs) (hN ws) (hN S i) 1 f (l + 1 - f) + wLe (hN hs) (hN ws) (hN S i) f (l + 1 - f) * (hN S (i + 1) - hN S i) = dueF (hN hs) (hN ws) (hN S (i + 1)) 1 f (l + 1 - f) := by
          rw [d1, d2, Int.mul_sub]
          omega
        have ew : wLe (hN hs) (hN ws) (hN S i) f (l + 1 - f) = wLt (hN hs) (hN ws) (hN S (i + 1)) f (l + 1 - f) := (wLt_next fun j hj => sorted_next hS hi2 (hmS j hj)).symm
        rw [eh] at y ⊢
        rw [ew]
        refine ⟨hi2, e47.trans e8, ⟨_, _, _, _, _, rfl⟩, by omega, fun _ => ?_⟩
        have nn := due_nn (h := hN hs) (w := hN ws) (t := hN S (i + 1)) (b := 1) (f := f) (k := l + 1 - f) hw1
        have := Int.mul_nonneg nn (show 0 ≤ vb by have := lw.1; omega)
        omega
  · rintro σ' H' ⟨hi, _⟩
    rw [List.length_map] at hi
    exact absurd hi (Nat.lt_irrefl _)
theorem p_lvF {K : PySem.W.Frag} {CP CR : Addr} {vs : List V} {H : Hp} {Q : VK} {E : XK} (h : spLvF K CP CR vs H Q E) : t_level_for K CP CR { nx := fun _ H' => Q .non H', rt := Q } (start ["profile", "first", "last", "volume"] vs) H := by
  obtain ⟨p, hs, ws, f, l, v, t, b, rfl, P, R, hp, ok, hfl, hl, hv, ht, st, sb, k⟩ := h
  unfold t_level_for
  walk_at "rv go"
  refine ⟨p, hs, ws, f, l, rfl, P, hp, ok.le, hfl, hl, ?_⟩
  walk_at "rv go"
  refine ⟨v, t, b, rfl, R, hv, ht, st.mono (by decide), sb.mono (by decide), fun q H1 e hq => ?_⟩
  walk_at "rv go"
  exact ⟨p, hs, ws, f, l, q, t, b, rfl, P, R, hp.same e, ok, hfl, hl, hq, ht, st, sb, fun r H2 n d e2 => k r H2 n d (e.trans e2)⟩
end Rv
namespace Rv
open PySem PySem.Spec PyProof.Rows L2
theorem mk_profR {K : PySem.W.Frag} {C : Addr} {H : Hp} {Q : Addr → Hp → Prop} {E : XK} {a : Addr} {wv : V} {us dvs : List V} {hs ws : List Int} (hu : us ++ dvs = [.ref a, wv]) (P : PCls K C) (ha : RowAt K H a (hs.map V.int)) (h1 : 1 ≤ hs.length) (h60 : hs.length ≤ 60) (hok : ∀ z ∈ hs, HOk1 z)
    (hw : (wv = .non ∧ ws = List.replicate hs.length 1) ∨ ∃ b, wv = .ref b ∧ RowAt K H b (ws.map V.int) ∧ ws.length = hs.length ∧ ∀ z ∈ ws, WOk1 z) (k : ∀ x H', H x = none → Same H H' → ProfAt K C H' x hs ws → Q x H') :
    ∀ x dx, H x = none → H dx = none → dx ≠ x → spInit K C (.ref x :: (us ++ dvs)) (upd (upd H dx (.own x)) x (.ins C dx [])) (fun v H2 => v = .non ∧ Q x H2) E := by
  intro x dx nx ndx hne
  rw [hu]
  have s0 : Same H (upd (upd H dx (.own x)) x (.ins C dx [])) := fun b o hb => by
    rw [upd_ne (ne_of_none hb nx), upd_ne (ne_of_none hb ndx)]
    exact hb
  refine ⟨x, dx, a, wv, hs, ws, rfl, P, upd_same, ha.same s0, h1, h60, hok, ?_, fun H' hp hf => ⟨rfl, k x H' nx (fun b o hb => hf b o (ne_of_none hb nx) (s0 b o hb)) hp⟩⟩
  rcases hw with h | ⟨b, h1, h2, h3⟩
  · exact .inl h
  · exact .inr ⟨b, h1, h2.same s0, h3⟩
theorem mk_prof21 {K : PySem.W.Frag} {C : Addr} {H : Hp} {Q : Addr → Hp → Prop} {E : XK} {a : Addr} {wv : V} {us dvs : List V} {hs ws : List Int} (hu : us ++ dvs = [.ref a, wv]) (P : PCls K C) (ha : H a = some (.lst (hs.map V.int))) (h1 : 1 ≤ hs.length) (h60 : hs.length ≤ 60) (hok : ∀ z ∈ hs, HOk1 z)
    (hw : (wv = .non ∧ ws = List.replicate hs.length 1) ∨ ∃ b, wv = .ref b ∧ H b = some (.lst (ws.map V.int)) ∧ ws.length = hs.length ∧ ∀ z ∈ ws, WOk1 z) (k : ∀ x H', H x = none → Same H H' → ProfAt K C H' x hs ws → Q x H') :
    ∀ x dx, H x = none → H dx = none → dx ≠ x → spInit K C (.ref x :: (us ++ dvs)) (upd (upd H dx (.own x)) x (.ins C dx [])) (fun v H2 => v = .non ∧ Q x H2) E :=
  mk_profR hu P (.inl ha) h1 h60 hok (hw.elim .inl fun ⟨b, z1, z2, z3⟩ => .inr ⟨b, z1, .inl z2, z3⟩) k
def spLIs (K : PySem.W.Frag) (C : Addr) : Sp := fun vs H Q _ => ∃ q n d p b, vs = [.ref q, .int p, .int b] ∧ RCls K C ∧ RatAt C H q n d ∧ Sz 4000 n ∧ Sz 4000 d ∧ Sz 4000 p ∧ Sz 4000 b ∧ Q (.bl (decide (n * b = p * d))) H
def spLBelow (K : PySem.W.Frag) : Sp := fun vs H Q _ => ∃ a c hs ws, ∃ f l : Nat, ∃ p q, vs = [.ref a, .ref c, .int (f : Int), .int (l : Int), .int p, .int q] ∧ SqL K H a (hs.map V.int) ∧ SqL K H c (ws.map V.int) ∧ PrOk hs ws ∧ f ≤ l ∧ l < hs.length ∧ Sz 1000 p ∧ Sz 1000 q ∧ Q (.int (dueF (hN hs) (hN ws) p q f (l + 1 - f))) H
def spLRun (K : PySem.W.Frag) : Sp := fun vs H Q _ => ∃ d c, ∃ n : Int, vs = [.ref d, .int n] ∧ DrawsAt H d c ∧ 0 < n ∧ n ≤ 60 ∧ ∀ r H' (f l : Nat), f ≤ l → (l : Int) < n → But d H H' → DrawsAt H' d c → H' r = some (.tup [.int (f : Int), .int (l : Int)]) → Q (.ref r) H'
def spLNum2 (K : PySem.W.Frag) (C : Addr) : Sp := fun vs H Q _ => ∃ p q b, vs = [.int p, .int q, .bl b] ∧ RCls K C ∧ 0 < q ∧ q < 2 ^ 200 ∧ ∀ v H' t e, Same H H' → Num C H' v t e → t * q = p * e → t.natAbs ≤ p.natAbs → e ≤ q → Q v H'
def t__law_is (K : PySem.W.Frag) (C_Ratio : Addr) : TS :=
  (tSeq (tIfS (tNot (tB (tCB (rIsi K) (tCons (tVar 0) (tCons (tC (.ref C_Ratio)) tNil))))) (tRet (tC (.bl false))) tNext)
    (tRet (tOp rEq (tOp oMulW (tProp C_Ratio (getSp C_Ratio "reduced_top") [] E0 (tVar 0)) (tVar 2)) (tOp oMulW (tVar 1) (tProp C_Ratio (getSp C_Ratio "reduced_bottom") [] E0 (tVar 0))))))
def t__law_below (K : PySem.W.Frag) : TS :=
  (tSeq (tAsg (tC (.int 0)) (gName 6))
    (tSeq (tFor (iRng2 (tCons (tVar 2) (tCons (tOp oAdd (tVar 3) (tC (.int 1))) tNil))) (gName 7) (tIfS (tTest (tOp oGt (tVar 4) (tOp oMulW (tOp (rIxL K) (tVar 0) (tVar 7)) (tVar 5)))) (tAsg (tOp oAdd (tVar 6) (tOp oMulW (tOp (rIxL K) (tVar 1) (tVar 7)) (tOp oSub (tVar 4) (tOp oMulW (tOp (rIxL K) (tVar 0) (tVar 7)) (tVar 5))))) (gName 6)) tNext))
    (tRet (tVar 6))))
def t__law_run (K : PySem.W.Frag) : TS :=
  (tSeq (tAsg (tCall (spDraw K) [] E0 (tCons (tVar 0) (tCons (tVar 1) tNil))) (gName 2))
    (tRet (tTup (tCons (tVar 2) (tCons (tOp oAdd (tVar 2) (tCall (spDraw K) [] E0 (tCons (tVar 0) (tCons (tOp oSub (tVar 1) (tVar 2)) tNil)))) tNil)))))
def t__law_number (K : PySem.W.Frag) (C_Ratio : Addr) : TS :=
  (tSeq (tIfS (tAnd (tB (tVar 2)) (tTest (tOp rEq (tOp oMod (tVar 0) (tVar 1)) (tC (.int 0))))) (tRet (tOp oDiv (tVar 0) (tVar 1))) tNext)
    (tRet (tMake C_Ratio (spRInit K C_Ratio) [] E0 (tCons (tVar 0) (tCons (tVar 1) tNil)))))
local macro_rules | `(tactic| walk_at "rv st") => `(tactic| first
  | with_reducible refine iteT ?_ | with_reducible refine iteF ?_ | with_reducible refine w_nx ?_ | with_reducible refine w_yes ?_ | with_reducible refine w_rt ?_ | with_reducible refine iteNT ?_ | with_reducible refine iteNF ?_ | with_reducible refine iteNRf ?_ | with_reducible refine iteRf ?_ | with_reducible refine w_seqA ?_ | with_reducible refine w_seqD ?_ | with_reducible refine w_seqP ?_ | with_reducible refine w_asg ?_ | with_reducible refine w_ret ?_ | with_reducible refine w_drop ?_ | with_reducible refine w_ifs ?_ | with_reducible refine w_next ?_ | with_reducible refine w_par ?_
  | with_reducible refine w_op ?_ | with_reducible refine w_un ?_ | ((with_reducible show tVar _ _ _ _); refine' w_var ?hv ?_; (case hv => exact rfl)) | with_reducible refine w_c ?_ | with_reducible refine w_test ?_ | with_reducible refine w_tB ?_
  | with_reducible refine w_bl ?_ | with_reducible refine w_I0 ?_ | with_reducible refine w_U ?_ | with_reducible refine w_eqI ?_ | with_reducible refine w_neI ?_
  | with_reducible refine w_cons ?_ | with_reducible refine w_nil ?_ | with_reducible refine w_gn ?_ | with_reducible refine w_gsub ?_ | with_reducible refine w_and ?_ | with_reducible refine w_or ?_ | with_reducible refine w_not ?_
  | with_reducible refine w_andV ?_ | with_reducible refine w_orV ?_ | with_reducible refine w_notV ?_ | with_reducible refine w_if ?_ | with_reducible refine w_cb ?_ | with_reducible refine w_call ?_ | with_reducible refine w_lst ?_ | with_reducible refine w_tup ?_
  | with_reducible refine w_sl ?_ | with_reducible refine w_noPart ?_ | with_reducible refine w_part ?_ | with_reducible refine w_ex1 ?_ | with_reducible refine w_exb ?_ | with_reducible refine w_intB ?_ | with_reducible refine w_intI ?_ | with_reducible refine w_abs ?_)
local macro_rules | `(tactic| walk_at "rv ix") => `(tactic| ((with_reducible show rIxL _ _ _ _ _); refine' w_ixL (sq_lst ?ha) ?hb ?_; (case ha => first | exact upd_same | assumption); (case hb => first | exact rfl | assumption)))
local macro_rules | `(tactic| walk_at "rv ar") => `(tactic| first
  | (refine' w_I ?hc ?_; (case hc => first | (show (0 : Int) < _; first | assumption | decide | omega) | exact pow_c (by decide) (by decide) (by first | decide | omega) (by first | decide | omega) | exact mul_r (by first | decide | omega) (by first | decide | omega) | exact mul_l (by first | decide | omega) (by first | decide | omega) | exact divw (by first | assumption | decide | omega) (by first | assumption | decide | omega))))
local macro_rules | `(tactic| walk_at "rv go") => `(tactic| repeat first | walk_at "rv st" | walk_at "rv ix" | ((with_reducible show rI _ _ _ _ _ _); walk_at "rv ar"))
theorem p_lis {K : PySem.W.Frag} {C : Addr} {vs : List V} {H : Hp} {Q : VK} {E : XK} (h : spLIs K C vs H Q E) : t__law_is K C { nx := fun _ H' => Q .non H', rt := Q } (start ["_law_value", "_law_top", "_law_bottom"] vs) H := by
  obtain ⟨q, n, d, p, b, rfl, R, ⟨lw, dx, hq⟩, s1, s2, s3, s4, k⟩ := h
  unfold t__law_is
  refine w_seq ?_
  walk_at "rv go"
  refine isi_of (.own C) (.base (.ins hq R.cl R.cA R.cG R.cT R.cM)) kit_self ?_
  walk_at "rv go"
  refine w_prop rfl hq ?_
  refine ⟨q, dx, _, _, rfl, hq, rfl2_t _ _, ?_⟩
  walk_at "rv go"
  refine w_I (mulw s1 s4 (by decide) (by decide) (by decide)) ?_
  walk_at "rv go"
  refine w_prop rfl hq ?_
  refine ⟨q, dx, _, _, rfl, hq, rfl2_b _ _, ?_⟩
  refine w_I (mulw s3 s2 (by decide) (by decide) (by decide)) ?_
  walk_at "rv go"
  exact k
theorem p_lbelow {K : PySem.W.Frag} {vs : List V} {H : Hp} {Q : VK} {E : XK} (h : spLBelow K vs H Q E) : t__law_below K { nx := fun _ H' => Q .non H', rt := Q } (start ["_law_heights_here", "_law_widths_here", "_law_first", "_law_last", "_law_top", "_law_bottom", "_law_found", "_law_at"] vs) H := by
  obtain ⟨a, c, hs, ws, f, l, p, q, rfl, hH, hW, ok, hfl, hl, sp, sq, k⟩ := h
  have h60 := ok.le
  have hwl := ok.eq
  unfold t__law_below
  walk_at "rv go"
  refine w_seq ?_
  refine w_forT2 (lo := f) (m := l + 1 - f) (hi := (l : Int) + 1) (by omega) (by omega) ⟨by omega, by omega⟩ (fun AQ q => by walk_at "rv go"; exact q)
    (fun j σ' H' => H' = H ∧ f ≤ j ∧ ∃ o7, σ' = [some (.ref a), some (.ref c), some (.int (f : Int)), some (.int (l : Int)), some (.int p), some (.int q), some (.int (dueF (hN hs) (hN ws) p q f (j - f))), o7]) ⟨rfl, Nat.le_refl _, none, by rw [Nat.sub_self]; rfl⟩ ?_ ?_
  · rintro j σ' H' hj1 hj2 ⟨rfl, hj3, o7, rfl⟩
    have hjl : j < hs.length := by omega
    have sh : Sz 100 (hN hs j) := sz_lit (hok_sz (ok.hh _ (hN_mem hjl)))
    have sw : Sz 100 (hN ws j) := sz_lit (wok_sz (ok.ww _ (hN_mem (by omega))))
    have ed : dueF (hN hs) (hN ws) p q f (j + 1 - f) = dueF (hN hs) (hN ws) p q f (j - f) + if hN hs j * q < p then hN ws j * (p - hN hs j * q) else 0 := by
      rw [show j + 1 - f = (j - f) + 1 by omega]
      show dueF (hN hs) (hN ws) p q f (j - f) + _ = _
      rw [show f + (j - f) = j by omega]
    refine w_ifs ?_
    walk_at "rv go"
    refine w_ixL hH (at_hN hjl) ?_
    walk_at "rv go"
    refine w_I (mulw sh sq (by decide) (by decide) (by decide)) ?_
    walk_at "rv go"
    refine w_both (fun z => ?_) (fun z => ?_)
    · rw [if_pos z] at ed
      walk_at "rv go"
      refine w_ixL hW (at_hN (by omega)) ?_
      walk_at "rv go"
      refine w_ixL hH (at_hN hjl) ?_
      walk_at "rv go"
      refine w_I (mulw sh sq (by decide) (by decide) (by decide)) ?_
      walk_at "rv go"
      refine w_I (mulw (k := 1101) sw ((sp.mono (by decide)).sub (sh.mul sq)) (by decide) (by decide) (by decide)) ?_
      walk_at "rv go"
      exact ⟨rfl, by omega, _, by rw [ed]; rfl⟩
    · rw [if_neg z, Int.add_zero] at ed
      walk_at "rv go"
      exact ⟨rfl, by omega, _, by rw [ed]; rfl⟩
  · rintro σ' H' ⟨rfl, hj3, o7, rfl⟩
    walk_at "rv go"
    rw [show f + (l + 1 - f) - f = l + 1 - f by omega]
    exact k
theorem p_lrun {K : PySem.W.Frag} {vs : List V} {H : Hp} {Q : VK} {E : XK} (h : spLRun K vs H Q E) : t__law_run K { nx := fun _ H' => Q .non H', rt := Q } (start ["_law_draws_here", "_law_many", "_law_first"] vs) H := by
  obtain ⟨d, c, n, rfl, hD, n0, n60, k⟩ := h
  unfold t__law_run
  walk_at "rv go"
  refine draw_call hD n0 (Int.lt_of_le_of_lt n60 (by decide)) fun r1 H1 r1a r1b e1 D1 => ?_
  walk_at "rv go"
  refine draw_call D1 (by omega) (Int.lt_of_le_of_lt (b := 60) (by omega) (by decide)) fun r2 H2 r2a r2b e2 D2 => ?_
  walk_at "rv go"
  refine ⟨szl (by show 2 ≤ 100000; decide), fun r nr => ?_⟩
  obtain ⟨f, rfl⟩ : ∃ f : Nat, r1 = (f : Int) := ⟨r1.toNat, by omega⟩
  obtain ⟨g, rfl⟩ : ∃ g : Nat, r2 = (g : Int) := ⟨r2.toNat, by omega⟩
  refine k r _ f (f + g) (by omega) (by omega) ((e1.trans e2).new nr) (D2.new (same_new (Same.refl H2) nr)) ?_
  rw [upd_same, Int.natCast_add]
theorem abs_div {p q t : Int} (hq : 0 < q) (e : t * q = p) : t.natAbs ≤ p.natAbs := by
  rw [← e, Int.natAbs_mul]
  have : t.natAbs * 1 ≤ t.natAbs * q.natAbs := Nat.mul_le_mul_left _ (by omega)
  omega
theorem p_lnum2 {K : PySem.W.Frag} {C : Addr} {vs : List V} {H : Hp} {Q : VK} {E : XK} (h : spLNum2 K C vs H Q E) : t__law_number K C { nx := fun _ H' => Q .non H', rt := Q } (start ["_law_top", "_law_bottom", "_law_plain"] vs) H := by
  obtain ⟨p, q, b, rfl, R, hq, hq2, k⟩ := h
  have sq : Sz 201 q := by
    have e : (2 : Int) ^ 200 = ((2 ^ 200 : Nat) : Int) := rfl
    have e2 : (2 ^ 200 : Nat) < 2 ^ 201 := by decide
    unfold Sz
    omega
  have fin : ∀ N : L2.St → Hp → Prop, (tRet (tMake C (spRInit K C) [] E0 (tCons (tVar 0) (tCons (tVar 1) tNil)))) { nx := fun _ H' => Q .non H', rt := Q } [some (.int p), some (.int q), some (.bl b)] H := fun N => by
    walk_at "rv go"
    refine w_make ?_
    walk_at "rv go"
    exact mk_rat (Q := fun x H' => Q (.ref x) H') rfl R hq (sq.mono (by decide)) fun x H' t e s r hr => k _ H' t e s (.inr ⟨x, rfl, hr⟩) r.eq r.lt r.le
  unfold t__law_number
  refine w_seq ?_
  walk_at "rv go"
  refine w_bool (fun z => ?_) (fun z => ?_)
  · walk_at "rv go"
    refine w_both (fun z2 => ?_) (fun z2 => ?_)
    · walk_at "rv go"
      have e : p / q * q = p := Int.ediv_mul_cancel_of_emod_eq_zero z2
      exact k _ H (p / q) 1 (Same.refl H) (.inl ⟨rfl, rfl⟩) (by rw [Int.mul_one]; exact e) (abs_div hq e) (by omega)
    · walk_at "rv go"
      exact fin fun _ _ => True
  · walk_at "rv go"
    exact fin fun _ _ => True
end Rv
/-! Volumes and levels of runs: sums, uniqueness, runs of one ground. -/
namespace Rv
open PySem PySem.Spec PyProof.Rows L2
theorem due_zero {h w : Nat → Int} {t b : Int} {f : Nat} : ∀ {k : Nat}, (∀ j, j < k → t ≤ h (f + j) * b) → dueF h w t b f k = 0
  | 0, _ => rfl
  | k + 1, a => by
    unfold dueF
    rw [due_zero fun j hj => a j (by omega), if_neg (by have := a k (by omega); omega)]
    rfl
theorem due_split {h w : Nat → Int} {t b : Int} {f k1 : Nat} : ∀ {k2 : Nat}, dueF h w t b f (k1 + k2) = dueF h w t b f k1 + dueF h w t b (f + k1) k2
  | 0 => by simp [dueF]
  | k2 + 1 => by
    show dueF h w t b f (k1 + k2) + (if h (f + (k1 + k2)) * b < t then w (f + (k1 + k2)) * (t - h (f + (k1 + k2)) * b) else 0) = dueF h w t b f k1 + (dueF h w t b (f + k1) k2 + (if h (f + k1 + k2) * b < t then w (f + k1 + k2) * (t - h (f + k1 + k2) * b) else 0))
    rw [due_split (k2 := k2), Nat.add_assoc f k1 k2, Int.add_assoc]
theorem term_le {n d t b h w : Int} (hd : 0 < d) (hb : 0 < b) (hw : 0 ≤ w) (hx : n * b ≤ t * d) : (if h * d < n then w * (n - h * d) else 0) * b ≤ (if h * b < t then w * (t - h * b) else 0) * d := by
  have r0 : 0 ≤ (if h * b < t then w * (t - h * b) else 0) := by
    split
    · exact Int.mul_nonneg hw (by omega)
    · omega
  by_cases c : h * d < n
  · rw [if_pos c]
    have c2 : h * b < t := by
      have q := Int.mul_lt_mul_of_pos_right c hb
      have e : h * d * b = h * b * d := by rw [Int.mul_assoc, Int.mul_comm d b, Int.mul_assoc]
      rw [e] at q
      exact Int.lt_of_mul_lt_mul_right (Int.lt_of_lt_of_le q hx) (by omega)
    rw [if_pos c2, Int.mul_assoc, Int.mul_assoc]
    refine Int.mul_le_mul_of_nonneg_left ?_ hw
    rw [Int.sub_mul, Int.sub_mul, Int.mul_assoc h d b, Int.mul_assoc h b d, Int.mul_comm d b]
    omega
  · rw [if_neg c, Int.zero_mul]
    exact Int.mul_nonneg r0 (by omega)
theorem due_mono {h w : Nat → Int} {n d t b : Int} {f : Nat} (hd : 0 < d) (hb : 0 < b) (hx : n * b ≤ t * d) : ∀ {k : Nat}, (∀ j, j < k → 1 ≤ w (f + j)) → dueF h w n d f k * b ≤ dueF h w t b f k * d
  | 0, _ => by simp [dueF]
  | k + 1, a => by
    have h1 := due_mono (h := h) hd hb hx (k := k) fun j hj => a j (by omega)
    have h2 := term_le (h := h (f + k)) hd hb (show 0 ≤ w (f + k) by have := a k (by omega); omega) hx
    unfold dueF
    rw [Int.add_mul, Int.add_mul]
    omega
theorem due_strict {h w : Nat → Int} {n d t b : Int} {f : Nat} (hd : 0 < d) (hb : 0 < b) (hx : n * b < t * d) : ∀ {k : Nat}, (∀ j, j < k → 1 ≤ w (f + j)) → (∃ j, j < k ∧ h (f + j) * d ≤ n) → dueF h w n d f k * b < dueF h w t b f k * d
  | 0, _, ⟨j, hj, _⟩ => by omega
  | k + 1, a, ⟨j, hj, hh⟩ => by
    have hw := a k (by omega)
    have h2 := term_le (h := h (f + k)) (w := w (f + k)) hd hb (by omega) (Int.le_of_lt hx)
    unfold dueF
    rw [Int.add_mul, Int.add_mul]
    by_cases e : j = k
    · subst e
      have h1 := due_mono (h := h) hd hb (Int.le_of_lt hx) (k := j) fun i hi => a i (by omega)
      have c2 : h (f + j) * b < t := by
        have q := Int.mul_le_mul_of_nonneg_right hh (show 0 ≤ b by omega)
        have e : h (f + j) * d * b = h (f + j) * b * d := by rw [Int.mul_assoc, Int.mul_comm d b, Int.mul_assoc]
        rw [e] at q
        exact Int.lt_of_mul_lt_mul_right (Int.lt_of_le_of_lt q hx) (by omega)
      have s : (if h (f + j) * d < n then w (f + j) * (n - h (f + j) * d) else 0) * b < (if h (f + j) * b < t then w (f + j) * (t - h (f + j) * b) else 0) * d := by
        rw [if_pos c2]
        have e1 : (if h (f + j) * d < n then w (f + j) * (n - h (f + j) * d) else 0) = w (f + j) * (n - h (f + j) * d) := by
          split
          · rfl
          · rw [show n - h (f + j) * d = 0 by omega, Int.mul_zero]
        rw [e1, Int.mul_assoc, Int.mul_assoc]
        refine Int.mul_lt_mul_of_pos_left ?_ (by omega)
        rw [Int.sub_mul, Int.sub_mul, Int.mul_assoc (h (f + j)) d b, Int.mul_assoc (h (f + j)) b d, Int.mul_comm d b]
        omega
      omega
    · have := due_strict (h := h) hd hb hx (k := k) (fun i hi => a i (by omega)) ⟨j, by omega, hh⟩
      omega
theorem due_inj {h w : Nat → Int} {n d t b m : Int} {f k : Nat} (hd : 0 < d) (hb : 0 < b) (hw : ∀ j, j < k → 1 ≤ w (f + j)) (hm : ∃ j, j < k ∧ m = h (f + j)) (h1 : m * d ≤ n) (h2 : m * b ≤ t) (e : dueF h w n d f k * b = dueF h w t b f k * d) : n * b = t * d := by
  obtain ⟨j, hj, rfl⟩ := hm
  rcases Int.lt_trichotomy (n * b) (t * d) with c | c | c
  · have := due_strict hd hb c hw ⟨j, hj, h1⟩
    omega
  · exact c
  · have := due_strict hb hd c hw ⟨j, hj, h2⟩
    omega
theorem same_lvl {n d t b q top : Int} (hb : 0 < b) (h1 : n * b = t * d) (h2 : t * q = top * b) : n * q = top * d := by
  refine Int.eq_of_mul_eq_mul_right (a := b) (by omega) ?_
  calc n * q * b = (n * b) * q := by ac_rfl
    _ = (t * q) * d := by rw [h1]; ac_rfl
    _ = top * d * b := by rw [h2]; ac_rfl
theorem cross_vol {x y vt vb b n d : Int} (hvb : 0 < vb) (h1 : x * vb = vt * d) (h2 : vt * b = y * vb) : x * b = y * d := by
  refine Int.eq_of_mul_eq_mul_right (a := vb) (by omega) ?_
  calc x * b * vb = (x * vb) * b := by ac_rfl
    _ = (vt * b) * d := by rw [h1]; ac_rfl
    _ = y * d * vb := by rw [h2]; ac_rfl
theorem add_parts {n d n1 d1 n2 d2 b x y z : Int} (hb : 0 < b) (h : n * b = x * d) (h1 : n1 * b = y * d1) (h2 : n2 * b = z * d2) (e : x = y + z) : n * (d1 * d2) = (n1 * d2 + n2 * d1) * d := by
  refine Int.eq_of_mul_eq_mul_right (a := b) (by omega) ?_
  calc n * (d1 * d2) * b = (n * b) * (d1 * d2) := by ac_rfl
    _ = (y * d1) * d2 * d + (z * d2) * d1 * d := by
      rw [h, e, Int.add_mul, Int.add_mul]
      congr 1 <;> ac_rfl
    _ = (n1 * d2 + n2 * d1) * d * b := by
      rw [← h1, ← h2, Int.add_mul, Int.add_mul]
      congr 1 <;> ac_rfl
theorem gain_eq {nm dm nl dl q x y : Int} (h1 : nm * q = x * dm) (h2 : nl * q = y * dl) : (nm * dl - nl * dm) * q = (x - y) * dm * dl := by
  calc (nm * dl - nl * dm) * q = (nm * q) * dl - (nl * q) * dm := by
        rw [Int.sub_mul]
        congr 1 <;> ac_rfl
    _ = (x - y) * dm * dl := by
      rw [h1, h2, Int.sub_mul, Int.sub_mul]
      congr 1
      ac_rfl
theorem ProfAt.but {K : PySem.W.Frag} {C : Addr} {H H' : Hp} {p d c : Addr} {hs ws : List Int} (h : ProfAt K C H p hs ws) (D : DrawsAt H d c) (b : But d H H') : ProfAt K C H' p hs ws := by
  obtain ⟨dx, t1, t2, g0, g1, g2⟩ := h
  obtain ⟨ns', pos', num', seed', hd', _⟩ := D
  have ne1 : p ≠ d := fun z => by
    rw [z, hd'] at g0
    cases g0
  have ne2 : t1 ≠ d := fun z => by
    rw [z, hd'] at g1
    cases g1
  have ne3 : t2 ≠ d := fun z => by
    rw [z, hd'] at g2
    cases g2
  exact ⟨dx, t1, t2, b _ _ ne1 g0, b _ _ ne2 g1, b _ _ ne3 g2⟩
theorem sz_due2 {n q x d : Int} {j k : Nat} (h : n * q = x * d) (s : Sz j n) (s2 : Sz k q) (hd : 0 < d) : Sz (j + k) x := by
  have s1 := s.mul s2
  rw [h] at s1
  unfold Sz at *
  rw [Int.natAbs_mul] at s1
  have : x.natAbs * 1 ≤ x.natAbs * d.natAbs := Nat.mul_le_mul_left _ (by omega)
  omega
theorem due_sumF {h w : Nat → Int} {t b : Int} {f : Nat} : ∀ {k : Nat}, dueF h w t b f k = sumF (fun c => if h c * b < t then w c * (t - h c * b) else 0) f k
  | 0 => rfl
  | k + 1 => by
    unfold dueF sumF
    rw [due_sumF]
theorem sumF_head {g : Nat → Int} {f : Nat} : ∀ {k : Nat}, sumF g f (k + 1) = g f + sumF g (f + 1) k
  | 0 => by simp [sumF]
  | k + 1 => by
    show sumF g f (k + 1) + g (f + (k + 1)) = g f + (sumF g (f + 1) k + g (f + 1 + k))
    rw [sumF_head (k := k), Int.add_assoc, show f + (k + 1) = f + 1 + k by omega]
theorem sumF_rev {g g' : Nat → Int} {f' : Nat} : ∀ {k f : Nat}, (∀ j, j < k → g' (f' + j) = g (f + (k - 1 - j))) → sumF g' f' k = sumF g f k
  | 0, _, _ => rfl
  | k + 1, f, a => by
    rw [sumF_head (g := g)]
    show sumF g' f' k + g' (f' + k) = _
    rw [sumF_rev (k := k) (f := f + 1) fun j hj => by
      rw [a j (by omega)]
      congr 1
      omega, a k (by omega), Int.add_comm]
    congr 2
    omega
theorem sumF_shift {g g' : Nat → Int} {f f' : Nat} : ∀ {k : Nat}, (∀ j, j < k → g' (f' + j) = g (f + j)) → sumF g' f' k = sumF g f k
  | 0, _ => rfl
  | k + 1, a => by
    show sumF g' f' k + g' (f' + k) = sumF g f k + g (f + k)
    rw [sumF_shift (k := k) fun j hj => a j (by omega), a k (by omega)]
theorem sumF_split {g : Nat → Int} {f k1 : Nat} : ∀ {k2 : Nat}, sumF g f (k1 + k2) = sumF g f k1 + sumF g (f + k1) k2
  | 0 => by simp [sumF]
  | k2 + 1 => by
    show sumF g f (k1 + k2) + g (f + (k1 + k2)) = sumF g f k1 + (sumF g (f + k1) k2 + g (f + k1 + k2))
    rw [sumF_split (k2 := k2), Nat.add_assoc f k1 k2, Int.add_assoc]
theorem min_ex {h : Nat → Int} {f : Nat} : ∀ {k : Nat}, 0 < k → ∃ m, IsMin h f k m
  | 0, z => absurd z (by decide)
  | 1, _ => ⟨h f, fun j hj => by
      have e : j = 0 := by omega
      subst e
      exact Int.le_refl _, 0, by decide, rfl⟩
  | k + 2, _ => by
    obtain ⟨m, a, j, hj, e⟩ := min_ex (h := h) (f := f) (k := k + 1) (by omega)
    by_cases c : m ≤ h (f + (k + 1))
    · refine ⟨m, fun i hi => ?_, j, by omega, e⟩
      by_cases z : i = k + 1
      · rw [z]
        exact c
      · exact a i (by omega)
    · refine ⟨h (f + (k + 1)), fun i hi => ?_, k + 1, by omega, rfl⟩
      by_cases z : i = k + 1
      · rw [z]
        exact Int.le_refl _
      · have := a i (by omega)
        omega
/-- two runs of one ground: the same volume below each level, the same least height -/
structure RunEq (h w : Nat → Int) (f k : Nat) (h' w' : Nat → Int) (f' k' : Nat) : Prop where
  due : ∀ t b, dueF h' w' t b f' k' = dueF h w t b f k
  min : ∀ m, IsMin h f k m → IsMin h' f' k' m
/-- one level for one volume -/
theorem lv_uniq {h w : Nat → Int} {f k : Nat} {vt vb n d vt' vb' n' d' : Int} (hk : 0 < k) (hw : ∀ j, j < k → 1 ≤ w (f + j)) (pd : 0 < d) (pd' : 0 < d') (pv : 0 < vb) (pv' : 0 < vb')
    (a : LvOk h w f k vt vb n d) (b : LvOk h w f k vt' vb' n' d') (e : vt * vb' = vt' * vb) : n * d' = n' * d := by
  obtain ⟨m, hm⟩ := min_ex (h := h) (f := f) hk
  refine due_inj pd pd' hw hm.2 (a.low m hm).1 (b.low m hm).1 ?_
  refine Int.eq_of_mul_eq_mul_right (a := vb * vb') (by have := Int.mul_pos pv pv'; omega) ?_
  calc dueF h w n d f k * d' * (vb * vb') = (dueF h w n d f k * vb) * (d' * vb') := by ac_rfl
    _ = (vt * vb') * d * d' := by rw [a.due]; ac_rfl
    _ = (vt' * d') * vb * d := by rw [e]; ac_rfl
    _ = dueF h w n' d' f k * d * (vb * vb') := by rw [← b.due]; ac_rfl
theorem lv_same {h w h' w' : Nat → Int} {f k f' k' : Nat} {vt vb n d vt' vb' n' d' : Int} (r : RunEq h w f k h' w' f' k') (hk : 0 < k) (hw : ∀ j, j < k → 1 ≤ w (f + j)) (pd : 0 < d) (pd' : 0 < d') (pv : 0 < vb) (pv' : 0 < vb')
    (a : LvOk h w f k vt vb n d) (b : LvOk h' w' f' k' vt' vb' n' d') (e : vt * vb' = vt' * vb) : n * d' = n' * d :=
  lv_uniq hk hw pd pd' pv pv' a ⟨by rw [← r.due]; exact b.due, fun m hm => b.low m (r.min m hm)⟩ e
/-- heights and widths multiplied -/
theorem due_times {h w h' w' : Nat → Int} {x y t b : Int} {f : Nat} (hx : 0 < x) : ∀ {k : Nat}, (∀ j, j < k → h' (f + j) = h (f + j) * x ∧ w' (f + j) = w (f + j) * y) → dueF h' w' (t * x) b f k = dueF h w t b f k * (x * y)
  | 0, _ => by simp [dueF]
  | k + 1, a => by
    obtain ⟨e1, e2⟩ := a k (by omega)
    unfold dueF
    rw [due_times hx (k := k) fun j hj => a j (by omega), e1, e2, Int.add_mul]
    congr 1
    have e3 : h (f + k) * x * b = h (f + k) * b * x := by ac_rfl
    rw [e3]
    by_cases c : h (f + k) * b < t
    · rw [if_pos c, if_pos (Int.mul_lt_mul_of_pos_right c hx), ← Int.sub_mul]
      ac_rfl
    · rw [if_neg c, if_neg (fun z => c (Int.lt_of_mul_lt_mul_right z (by omega))), Int.zero_mul]
theorem lv_times {h w h' w' : Nat → Int} {x y vt vb n d : Int} {f k : Nat} (hx : 0 < x) (hy : 0 < y) (a : ∀ j, j < k → h' (f + j) = h (f + j) * x ∧ w' (f + j) = w (f + j) * y) (p : 0 < d)
    (l : LvOk h w f k vt vb n d) : LvOk h' w' f k (vt * (x * y)) vb (n * x) d := by
  refine ⟨?_, fun m hm => ?_⟩
  · rw [due_times hx a]
    calc dueF h w n d f k * (x * y) * vb = dueF h w n d f k * vb * (x * y) := by ac_rfl
      _ = vt * (x * y) * d := by rw [l.due]; ac_rfl
  · obtain ⟨m1, j, hj, em⟩ := hm
    have hm0 : IsMin h f k (h (f + j)) := ⟨fun i hi => by
      have q := m1 i hi
      rw [em, (a i hi).1, (a j hj).1] at q
      exact Int.le_of_mul_le_mul_right q hx, j, hj, rfl⟩
    obtain ⟨l1, l2⟩ := l.low _ hm0
    rw [em, (a j hj).1]
    have e : h (f + j) * x * d = h (f + j) * d * x := by ac_rfl
    rw [e]
    refine ⟨Int.mul_le_mul_of_nonneg_right l1 (by omega), fun z => ?_⟩
    have pxy := Int.mul_pos hx hy
    have z2 : vt = 0 := by
      rcases Int.mul_eq_zero.mp z with q | q
      · exact q
      · omega
    rw [l2 z2]
/-- the run mirrored -/
theorem run_mirror {h w h' w' : Nat → Int} {f f' k : Nat} (a : ∀ j, j < k → h' (f' + j) = h (f + (k - 1 - j)) ∧ w' (f' + j) = w (f + (k - 1 - j))) : RunEq h w f k h' w' f' k := by
  refine ⟨fun t b => ?_, fun m ⟨m1, j, hj, e⟩ => ⟨fun i hi => ?_, k - 1 - j, by omega, ?_⟩⟩
  · rw [due_sumF, due_sumF]
    exact sumF_rev fun j hj => by rw [(a j hj).1, (a j hj).2]
  · rw [(a i hi).1]
    exact m1 _ (by omega)
  · rw [(a _ (by omega)).1, show k - 1 - (k - 1 - j) = j by omega]
    exact e
theorem run_shift {h w h' w' : Nat → Int} {f f' k : Nat} (a : ∀ j, j < k → h' (f' + j) = h (f + j) ∧ w' (f' + j) = w (f + j)) : RunEq h w f k h' w' f' k := by
  refine ⟨fun t b => ?_, fun m ⟨m1, j, hj, e⟩ => ⟨fun i hi => ?_, j, hj, ?_⟩⟩
  · rw [due_sumF, due_sumF]
    exact sumF_shift fun j hj => by rw [(a j hj).1, (a j hj).2]
  · rw [(a i hi).1]
    exact m1 _ hi
  · rw [(a _ hj).1]
    exact e
/-- a column of the run cut in two -/
theorem run_cut {h w h' w' : Nat → Int} {f k1 k2 : Nat} (a1 : ∀ j, j < k1 → h' (f + j) = h (f + j) ∧ w' (f + j) = w (f + j)) (b1 : h' (f + k1) = h (f + k1)) (b2 : h' (f + (k1 + 1)) = h (f + k1)) (b3 : w' (f + k1) + w' (f + (k1 + 1)) = w (f + k1))
    (a2 : ∀ j, j < k2 → h' (f + (k1 + 2) + j) = h (f + (k1 + 1) + j) ∧ w' (f + (k1 + 2) + j) = w (f + (k1 + 1) + j)) : RunEq h w f (k1 + 1 + k2) h' w' f (k1 + 2 + k2) := by
  refine ⟨fun t b => ?_, fun m ⟨m1, j, hj, e⟩ => ⟨fun i hi => ?_, ?_⟩⟩
  · rw [due_sumF, due_sumF, sumF_split (k1 := k1 + 2), sumF_split (k1 := k1 + 1)]
    have s2 := sumF_shift (g := fun c => if h c * b < t then w c * (t - h c * b) else 0) (g' := fun c => if h' c * b < t then w' c * (t - h' c * b) else 0) (f := f + (k1 + 1)) (f' := f + (k1 + 2)) (k := k2) fun j hj => by
      show (if _ then _ else _) = (if _ then _ else _)
      rw [(a2 j hj).1, (a2 j hj).2]
    rw [s2]
    congr 1
    show sumF _ f k1 + _ + _ = sumF _ f k1 + _
    have s1 := sumF_shift (g := fun c => if h c * b < t then w c * (t - h c * b) else 0) (g' := fun c => if h' c * b < t then w' c * (t - h' c * b) else 0) (f := f) (f' := f) (k := k1) fun j hj => by
      show (if _ then _ else _) = (if _ then _ else _)
      rw [(a1 j hj).1, (a1 j hj).2]
    rw [s1, Int.add_assoc]
    congr 1
    show (if h' (f + k1) * b < t then w' (f + k1) * (t - h' (f + k1) * b) else 0) + (if h' (f + (k1 + 1)) * b < t then w' (f + (k1 + 1)) * (t - h' (f + (k1 + 1)) * b) else 0) = (if h (f + k1) * b < t then w (f + k1) * (t - h (f + k1) * b) else 0)
    rw [b1, b2, ← b3]
    by_cases c : h (f + k1) * b < t
    · rw [if_pos c, if_pos c, if_pos c, Int.add_mul]
    · rw [if_neg c, if_neg c, if_neg c]
      rfl
  · by_cases c1 : i < k1
    · rw [(a1 i c1).1]
      exact m1 _ (by omega)
    · by_cases c2 : i = k1
      · rw [c2, b1]
        exact m1 _ (by omega)
      · by_cases c3 : i = k1 + 1
        · rw [c3, b2]
          exact m1 _ (by omega)
        · have q := m1 (k1 + 1 + (i - (k1 + 2))) (by omega)
          have e2 := (a2 (i - (k1 + 2)) (by omega)).1
          rw [show f + (k1 + 2) + (i - (k1 + 2)) = f + i by omega] at e2
          rw [e2, show f + (k1 + 1) + (i - (k1 + 2)) = f + (k1 + 1 + (i - (k1 + 2))) by omega]
          exact q
  · by_cases c1 : j < k1
    · exact ⟨j, by omega, by rw [(a1 j c1).1]; exact e⟩
    · by_cases c2 : j = k1
      · exact ⟨k1, by omega, by rw [b1, ← c2]; exact e⟩
      · refine ⟨j + 1, by omega, ?_⟩
        have e2 := (a2 (j - (k1 + 1)) (by omega)).1
        rw [show f + (k1 + 2) + (j - (k1 + 1)) = f + (j + 1) by omega, show f + (k1 + 1) + (j - (k1 + 1)) = f + j by omega] at e2
        rw [e2]
        exact e
/-- volumes that differ by a factor -/
theorem vol_alike {n1 d1 n2 d2 q D D2 x : Int} (hq : 0 < q) (h1 : n1 * q = D * d1) (h2 : n2 * q = D2 * d2) (e : D2 = D * x) : n2 * d1 = n1 * x * d2 := by
  refine Int.eq_of_mul_eq_mul_right (a := q) (by omega) ?_
  calc n2 * d1 * q = (n2 * q) * d1 := by ac_rfl
    _ = (D * d1) * x * d2 := by rw [h2, e]; ac_rfl
    _ = n1 * x * d2 * q := by rw [← h1]; ac_rfl
end Rv
/-! t[::-1] of a tuple. -/
namespace HT
open PySem PySem.Spec PyProof.Rows L2
section
variable {prog : Program} {w : World} {A : Around} {E : Value → Shared → Prop} {s : Shared}
theorem rv_adjust (n : Nat) : Builtin.Slice.sliceAdjust none none (-1) (n : Int) = ((n : Int) - 1, -1) := by
  unfold Builtin.Slice.sliceAdjust
  simp
theorem rv_places (n : Nat) : Builtin.Slice.slicePlaces ((n : Int) - 1) (-1) (-1) = n := by
  unfold Builtin.Slice.slicePlaces
  have h1 : ¬ ((-1 : Int) > 0) := by omega
  rw [if_neg h1]
  by_cases h : n = 0
  · subst h
    rfl
  · have h2 : (n : Int) - 1 > -1 := by omega
    rw [if_pos h2]
    have e : (n : Int) - 1 - -1 - 1 = (n : Int) - 1 := by omega
    rw [e]
    show (((n : Int) - 1) / 1 + 1).toNat = n
    rw [Int.ediv_one]
    omega
theorem rv_sliceRev {sl : Addr} {vl vu vs : Value} {n : Nat} {Q : Int × Int × Nat → Shared → Prop} (hs : s.heap.IsSliceOf sl vl vu vs) (pl : IsPart vl none) (pu : IsPart vu none) (ps : IsPart vs (some (-1)))
    (h : Q ((n : Int) - 1, -1, n) s) : wpAny (model prog w) A (Builtin.Slice.sliceApplied (.ref sl) (pure (n : Int))) Q E s := by
  obtain ⟨os, hos, hcs, hds⟩ := id hs
  unfold Builtin.Slice.sliceApplied Builtin.Slice.sliceFields
  refine wpAny_bind (wpAny_bind (wpAny_field hos hds (x := vl) rfl (wpAny_bind (wpAny_field hos hds (x := vu) rfl (wpAny_bind (wpAny_field hos hds (x := vs) rfl (wpAny_pure ?_)))))))
  refine wpAny_bind (slicePart_ ps ?_)
  show wpAny _ _ (if ((-1 : Int) == 0) = true then _ else _) _ _ s
  rw [if_neg (by decide)]
  refine wpAny_bind (slicePart_ pl (wpAny_bind (slicePart_ pu (wpAny_bind (wpAny_pure ?_)))))
  show wpAny _ _ (match Builtin.Slice.sliceAdjust none none (-1) (n : Int) with | (lo, hi) => pure (lo, (-1 : Int), Builtin.Slice.slicePlaces lo hi (-1))) _ _ s
  rw [rv_adjust n]
  show wpAny _ _ (pure ((n : Int) - 1, (-1 : Int), Builtin.Slice.slicePlaces ((n : Int) - 1) (-1) (-1))) _ _ s
  rw [rv_places]
  exact wpAny_pure h
theorem rv_pick (xs : Array Value) : ∀ k : Nat, k ≤ xs.size → (List.range k).filterMap (fun (m : Nat) => xs[((xs.size : Int) - 1 + (m : Int) * (-1)).toNat]?) = xs.toList.reverse.take k
  | 0, _ => by simp
  | k + 1, hk => by
    rw [List.range_succ, List.filterMap_append, rv_pick xs k (by omega), List.take_add_one]
    congr 1
    have e : ((xs.size : Int) - 1 + (k : Int) * (-1)).toNat = xs.size - 1 - k := by omega
    have e2 : xs.toList.reverse[k]? = xs[xs.size - 1 - k]? := by
      rw [List.getElem?_reverse (by simp; omega)]
      simp
    rw [e2]
    have e3 : xs[xs.size - 1 - k]? = some xs[xs.size - 1 - k] := Array.getElem?_eq_getElem (by omega)
    simp only [List.filterMap_cons, List.filterMap_nil, e, e3]
    rfl
theorem rv_getRev {t sl : Addr} {items : Array Value} {vl vu vs : Value} {Q : Value → Shared → Prop} (ht : IsTup s.heap t items) (hs : s.heap.IsSliceOf sl vl vu vs) (pl : IsPart vl none) (pu : IsPart vu none) (ps : IsPart vs (some (-1)))
    (h : Q (.ref s.heap.objs.size) { s with heap := s.heap.push { cls := .type "tuple", data := .seq items.toList.reverse.toArray } })
    (hsz : items.size ≤ sizeLine) : wpAny (model prog w) A (getItem (.ref t) (.ref sl)) Q E s := by
  have htake : sizeOk (.seq items.toList.reverse.toArray) := by
    show items.toList.reverse.toArray.size ≤ sizeLine
    rw [List.size_toArray, List.length_reverse, Array.length_toList]
    exact hsz
  obtain ⟨os, hos, hcs, hds⟩ := id hs
  have hTs : s.TypeIs (.ref sl) "slice" := ⟨os, hos, hcs⟩
  unfold getItem
  try with_reducible refine wpAny_holding ?_
  first | refine wpAny_bind (wpAny_pure ?_) | skip
  refine wpAny_bind (wpAny_sequenceKey ht.typeIs (by decide) ?_)
  refine wpAny_bind (wpAny_callSpecial?_slot (name := Str.ofString "__getitem__") ht.typeIs PyProof.Rows.slot_tuple_getitem
    (wpAny_call_entry PyProof.Rows.slot_tuple_getitem ht.typeIs entry_tuple_getitem ?_ (args_tuple_getitem _ _)))
  show wpAny _ _ (Builtin.Tuple.tupleItemsOf (.ref t) >>= _) _ _ s
  refine wpAny_bind (tupleItemsOf_ ht ?_)
  refine wpAny_bind (wpAny_typeOf hTs ?_)
  rw [if_pos (by decide)]
  refine wpAny_bind (rv_sliceRev hs pl pu ps ?_)
  have hno : ¬ (((items.size : Int) - 1 == 0 && (-1 : Int) == 1 && items.size == items.size) = true) := by
    intro q
    rw [Bool.and_eq_true, Bool.and_eq_true] at q
    have q1 := q.1.2
    revert q1
    decide
  show wpAny _ _ (if ((items.size : Int) - 1 == 0 && (-1 : Int) == 1 && items.size == items.size) = true then _ else _) _ _ s
  have ep : ((List.range items.size).filterMap (fun (m : Nat) => items[((items.size : Int) - 1 + (m : Int) * (-1)).toNat]?)).toArray = items.toList.reverse.toArray := by
    rw [rv_pick items items.size (Nat.le_refl _), List.take_of_length_le (by simp)]
  rw [if_neg hno, ep]
  first
    | exact wpAny_bind (m := Builtin.Tuple.tupleExact _) (wpAny_newObj_type (wpAny_pure ⟨_, rfl, wpAny_pure h⟩) htake)
    | exact wpAny_bind (m := Builtin.Tuple.tupleExact _) (wpAny_newObj_type (wpAny_bind (wpAny_pure (wpAny_pure ⟨_, rfl, wpAny_pure h⟩))) htake)
    | exact wpAny_bind (wpAny_bind (m := Builtin.Tuple.tupleExact _) (wpAny_newObj_type (wpAny_pure (wpAny_pure ⟨_, rfl, wpAny_pure h⟩)) htake))
    | exact wpAny_bind (wpAny_bind (m := Builtin.Tuple.tupleExact _) (wpAny_newObj_type (wpAny_pure ⟨_, rfl, wpAny_pure h⟩) htake))
end
end HT
namespace Rv
open PySem PySem.Spec PyProof.Rows L2
section
variable {X : Cx}
def tRevT (K : PySem.W.Frag) (te : TE) : TE := fun σ H Q => te σ H fun x H1 => ∃ a xs, x = .ref a ∧ SqT K H1 a xs ∧ ∀ p, H1 p = none → Q (.ref p) (upd H1 p (.tup xs.reverse))
theorem pe_revT {e : Expr} {te : TE} {k : Nat} {p1 p2 p3 pos : Pos} (he : PE X e te) : PE X (.Subscript e (.Slice none none (some (.UnaryOp .USub (.Constant (.int 1) k p1) p2)) p3) pos) (tRevT X.K te) := by
  refine ⟨fun pins s σ H Q I h => ?_⟩
  refine Subscript_ (thn (he.run pins s σ H _ I h) fun v s1 ⟨x, H1, I1, r1, q1⟩ => ?_)
  obtain ⟨a, xs, ex, hx, q⟩ := q1
  subst ex
  cases r1
  have hst : PO X (some (.UnaryOp .USub (.Constant (.int 1) k p1) p2)) (tPart (tUn (rU fun i => .int (-i)) (tC (.int 1)))) := po_some (pe_un un_neg pe_int)
  refine wpAny_Slice (thn (po_none.run pins s1 σ H1 (fun o H2 => o = none ∧ H2 = H1) I1 ⟨rfl, rfl⟩) fun vl s2 ⟨l, H2, I2, pl, el, e2⟩ => ?_)
  subst el e2
  refine thn (po_none.run pins s2 σ H2 (fun o H3 => o = none ∧ H3 = H2) I2 ⟨rfl, rfl⟩) fun vu s3 ⟨u, H3, I3, pu, eu, e3⟩ => ?_
  subst eu e3
  refine thn (hst.run pins s3 σ H3 (fun o H4 => o = some (-1) ∧ H4 = H3) I3 ⟨1, rfl, -1, rfl, rfl, rfl⟩) fun vs s4 ⟨o, H4, I4, ps, eo, e4⟩ => ?_
  subst eo e4
  have I5 : Inv X pins σ H4 { s4 with heap := s4.heap.push { cls := .type "slice", data := .fields #[vl, vu, vs] } } := I4.kept (t' := s4.toks) fun b ob q => Heap.get?_push_of_some _ q
  obtain ⟨its, r, ht, hz⟩ := I5.tuple hx
  have hlen := r.length
  show wpAny (model X.prog X.w) X.A (subscriptTail e (.Slice none none (some (.UnaryOp .USub (.Constant (.int 1) k p1) p2)) p3) (.ref a) (.ref s4.heap.objs.size)) (EP X pins σ Q) X.xe { s4 with heap := s4.heap.push { cls := .type "slice", data := .fields #[vl, vu, vs] } }
  refine tail_any (ops := [.ref a, .ref s4.heap.objs.size]) ht.typeIs (PyProof.Rows.slot_tuple_getitem.lookup) ?_ (by with_unfolding_all rfl)
  refine HT.rv_getRev ht (Heap.IsSliceOf.new _ vl vu vs) pl pu ps ?_ (by rw [List.size_toArray]; omega)
  refine ⟨.ref _, _, I5.laid (t' := s4.toks) (o := .tup xs.reverse) (fun b ob q => Heap.get?_push_of_some _ q) (Nat.le_refl _) ?_, rfl, q _ (I5.hok.fresh (Nat.le_refl _))⟩
  exact ⟨by rw [List.length_reverse]; exact hz, _, r.reverse, IsTup.new _ _⟩
end
end Rv
/-! zip of two rows, each a list or a tuple. -/
namespace Rv
open PySem PySem.Spec PyProof.Rows L2
/-- the class of the iterator: a tuple's or a list's -/
def itC : Bool → String
  | true => "tuple_iterator"
  | false => "list_iterator"
def ItS (t : Bool) (h : Heap) (it l : Addr) (i : Nat) : Prop := match t with
  | true => h.IsTupleIter it l i
  | false => h.IsListIter it l i
def SqS (t : Bool) (h : Heap) (l : Addr) (items : Array Value) : Prop := match t with
  | true => h.IsTuple l items
  | false => h.IsList l items
def RowS (K : PySem.W.Frag) (H : Hp) (t : Bool) (a : Addr) (xs : List V) : Prop := match t with
  | true => SqT K H a xs
  | false => SqL K H a xs
theorem ItS.obj {t : Bool} {h : Heap} {it l : Addr} {i : Nat} (s : ItS t h it l i) : ∃ o vs, h.get? it = some o ∧ o.data = .fields vs := by
  cases t
  · obtain ⟨o, e, _, d⟩ := s
    exact ⟨o, _, e, d⟩
  · obtain ⟨o, e, _, d⟩ := s
    exact ⟨o, _, e, d⟩
theorem ItS.at {t : Bool} {h h' : Heap} {it l : Addr} {i : Nat} (s : ItS t h it l i) (k : ∀ o, h.get? it = some o → h'.get? it = some o) : ItS t h' it l i := by
  cases t
  · exact Heap.IsListIter.at s k
  · exact Heap.IsTupleIter.at s k
theorem drawsS {prog : Program} {w : World} {A : Around} (hh : A.handled = none) (t : Bool) (it l : Addr) (hne : l ≠ it) (items : Array Value) :
    Draws prog w A it [it, l] items.size (fun i v => items[i]? = some v) (fun i h => ItS t h it l i ∧ SqS t h l items) := by
  cases t
  · exact Draws.list hh it l hne items
  · exact Draws.tuple hh it l hne items
theorem SqS.push {t : Bool} {h : Heap} {l : Addr} {items : Array Value} (s : SqS t h l items) (o : Obj) : SqS t (h.push o) l items := by
  cases t
  · exact Heap.IsList.push s _
  · exact Heap.IsTuple.push s _
theorem SqS.lt {t : Bool} {h : Heap} {l : Addr} {items : Array Value} (s : SqS t h l items) : l < h.objs.size := by
  cases t
  · obtain ⟨o, e, _⟩ := s
    exact Heap.lt_size e
  · obtain ⟨o, e, _⟩ := s
    exact Heap.lt_size e
abbrev zm1 (t1 : Bool) (h : Heap) (l1 : Addr) : Heap := h.push { cls := .type (itC t1), data := .fields #[.ref l1, .int 0 0] }
abbrev zm2 (t1 t2 : Bool) (h : Heap) (l1 l2 : Addr) : Heap := (zm1 t1 h l1).push { cls := .type (itC t2), data := .fields #[.ref l2, .int 0 0] }
abbrev zm3 (t1 t2 : Bool) (h : Heap) (l1 l2 : Addr) : Heap := (zm2 t1 t2 h l1 l2).push { cls := .type "tuple", data := .seq #[.ref h.objs.size, .ref (zm1 t1 h l1).objs.size] }
abbrev zm4 (t1 t2 : Bool) (h : Heap) (l1 l2 : Addr) : Heap := (zm3 t1 t2 h l1 l2).push { cls := .type "tuple", data := .seq #[.none, .none] }
abbrev zm5 (t1 t2 : Bool) (h : Heap) (l1 l2 : Addr) : Heap := (zm4 t1 t2 h l1 l2).push { cls := .type "zip", data := .fields #[.none, .bool false, .bool false, .ref (zm2 t1 t2 h l1 l2).objs.size, .ref (zm3 t1 t2 h l1 l2).objs.size] }
theorem zm_new (t1 t2 : Bool) (l1 l2 : Addr) (xs ys : Array Value) :
    Meets (Builtin.«zip.__new__» ⟨[.type "zip", .ref l1, .ref l2], []⟩) (fun _ R s => SqS t1 s.heap l1 xs ∧ SqS t2 s.heap l2 ys ∧
      R (.ok (.ret (.ref (zm4 t1 t2 s.heap l1 l2).objs.size))) { s with heap := zm5 t1 t2 s.heap l1 l2 }) :=
  .of_wp fun prog w A R s h => by
    obtain ⟨hp, g, d, tk, os⟩ := s
    obtain ⟨hl1, hl2, h⟩ := h
    have hsub := sub_zip
    cases t1 <;> cases t2
    · have hL1 : Heap.IsList (Shared.heap ⟨hp, g, d, tk, os⟩) l1 xs := hl1
      have hL2 : Heap.IsList (Shared.heap ⟨hp.push { cls := .type "list_iterator", data := .fields #[.ref l1, .int 0 0] }, g, d, tk, os⟩) l2 ys := Heap.IsList.push hl2 _
      wp_walk using wpAny_pyIter_list hL1, wpAny_pyIter_list hL2
      exact ⟨_, rfl, h⟩
    · have hL1 : Heap.IsList (Shared.heap ⟨hp, g, d, tk, os⟩) l1 xs := hl1
      have hL2 : Heap.IsTuple (Shared.heap ⟨hp.push { cls := .type "list_iterator", data := .fields #[.ref l1, .int 0 0] }, g, d, tk, os⟩) l2 ys := Heap.IsTuple.push hl2 _
      wp_walk using wpAny_pyIter_list hL1, wpAny_pyIter_tuple hL2
      exact ⟨_, rfl, h⟩
    · have hL1 : Heap.IsTuple (Shared.heap ⟨hp, g, d, tk, os⟩) l1 xs := hl1
      have hL2 : Heap.IsList (Shared.heap ⟨hp.push { cls := .type "tuple_iterator", data := .fields #[.ref l1, .int 0 0] }, g, d, tk, os⟩) l2 ys := Heap.IsList.push hl2 _
      wp_walk using wpAny_pyIter_tuple hL1, wpAny_pyIter_list hL2
      exact ⟨_, rfl, h⟩
    · have hL1 : Heap.IsTuple (Shared.heap ⟨hp, g, d, tk, os⟩) l1 xs := hl1
      have hL2 : Heap.IsTuple (Shared.heap ⟨hp.push { cls := .type "tuple_iterator", data := .fields #[.ref l1, .int 0 0] }, g, d, tk, os⟩) l2 ys := Heap.IsTuple.push hl2 _
      wp_walk using wpAny_pyIter_tuple hL1, wpAny_pyIter_tuple hL2
      exact ⟨_, rfl, h⟩
theorem its_new {t : Bool} {h : Heap} {it l : Addr} (e : h.get? it = some { cls := .type (itC t), data := .fields #[.ref l, .int 0 0] }) : ItS t h it l 0 := by
  cases t
  · exact ⟨_, e, rfl, rfl⟩
  · exact ⟨_, e, rfl, rfl⟩
section
variable {prog : Program} {w : World} {A : Around} {E : Value → Shared → Prop} {s : Shared}
theorem call_zipM {t1 t2 : Bool} {l1 l2 : Addr} {xs ys : Array Value} {Q : Value → Shared → Prop} (hl1 : SqS t1 s.heap l1 xs) (hl2 : SqS t2 s.heap l2 ys)
    (h : ∀ h', IsZip h' (s.heap.objs.size + 4) (s.heap.objs.size + 2) (s.heap.objs.size + 3) .none → IsPair h' (s.heap.objs.size + 2) (.ref s.heap.objs.size) (.ref (s.heap.objs.size + 1)) →
      IsPair h' (s.heap.objs.size + 3) .none .none → ItS t1 h' s.heap.objs.size l1 0 → ItS t2 h' (s.heap.objs.size + 1) l2 0 → h'.objs.size = s.heap.objs.size + 5 →
      (∀ c o, s.heap.get? c = some o → h'.get? c = some o) → Q (.ref (s.heap.objs.size + 4)) { s with heap := h' }) :
    wpAny (model prog w) A (call (.type "zip") [.ref l1, .ref l2]) Q E s := by
  refine callType_new F.called_zip (by decide) (F.typeCall_zip_2 _ _) (F.newCall_zip_2 _ _) (fun obj => F.args_object_init_3 obj _ _) F.entry_zip_new
    (zm_new t1 t2 l1 l2 xs ys) ⟨hl1, hl2, ?_⟩
  have z1 : (zm1 t1 s.heap l1).objs.size = s.heap.objs.size + 1 := Heap.size_push ..
  have z2 : (zm2 t1 t2 s.heap l1 l2).objs.size = s.heap.objs.size + 2 := by rw [Heap.size_push, z1]
  have z3 : (zm3 t1 t2 s.heap l1 l2).objs.size = s.heap.objs.size + 3 := by rw [Heap.size_push, z2]
  have z4 : (zm4 t1 t2 s.heap l1 l2).objs.size = s.heap.objs.size + 4 := by rw [Heap.size_push, z3]
  have z5 : (zm5 t1 t2 s.heap l1 l2).objs.size = s.heap.objs.size + 5 := by rw [Heap.size_push, z4]
  have g5 : (zm5 t1 t2 s.heap l1 l2).get? (zm4 t1 t2 s.heap l1 l2).objs.size = some _ := Heap.get?_push_size _ rfl
  have g4 : (zm5 t1 t2 s.heap l1 l2).get? (zm3 t1 t2 s.heap l1 l2).objs.size = some _ := Heap.get?_push_of_some _ (Heap.get?_push_size _ rfl)
  have g3 : (zm5 t1 t2 s.heap l1 l2).get? (zm2 t1 t2 s.heap l1 l2).objs.size = some _ := Heap.get?_push_of_some _ (Heap.get?_push_of_some _ (Heap.get?_push_size _ rfl))
  have g2 : (zm5 t1 t2 s.heap l1 l2).get? (zm1 t1 s.heap l1).objs.size = some _ := Heap.get?_push_of_some _ (Heap.get?_push_of_some _ (Heap.get?_push_of_some _ (Heap.get?_push_size _ rfl)))
  have g1 : (zm5 t1 t2 s.heap l1 l2).get? s.heap.objs.size = some _ := Heap.get?_push_of_some _ (Heap.get?_push_of_some _ (Heap.get?_push_of_some _ (Heap.get?_push_of_some _ (Heap.get?_push_size _ rfl))))
  show _ ∧ _
  rw [z2, z3, z4] at g5
  rw [z1, z2] at g3
  rw [z3] at g4
  rw [z1] at g2
  rw [z4]
  exact ⟨⟨_, g5, rfl⟩, h _ g5 g3 g4 (its_new g1) (its_new g2) z5 fun c o x =>
    Heap.get?_push_of_some _ (Heap.get?_push_of_some _ (Heap.get?_push_of_some _ (Heap.get?_push_of_some _ (Heap.get?_push_of_some _ x))))⟩
end
theorem RowS.get {X : Cx} {pins : List (Addr × Obj)} {σ : L2.St} {H : Hp} {s : Shared} {t : Bool} {a : Addr} {xs : List V} (I : Inv X pins σ H s) (h : RowS X.K H t a xs) : ∃ its : List Value, Vals xs its ∧ SqS t s.heap a its.toArray := by
  cases t
  · obtain ⟨its, r, p, _⟩ := I.list h
    exact ⟨its, r, p.isList⟩
  · obtain ⟨its, r, p, _⟩ := I.tuple h
    exact ⟨its, r, p⟩
theorem RowS.inj {X : Cx} {pins : List (Addr × Obj)} {σ : L2.St} {H : Hp} {s : Shared} {t : Bool} {a : Addr} {xs ys : List V} (I : Inv X pins σ H s) (h : RowS X.K H t a xs) (g : RowS X.K H t a ys) : xs = ys := by
  cases t
  · exact I.list_inj h g
  · exact I.tuple_inj h g
/-- the rows at a and b as they stand at each turn, the items in new pairs -/
def ItzM (K : PySem.W.Frag) (t1 t2 : Bool) (a b : Addr) : It :=
  ⟨fun i H => ∃ (xs ys : List V) (x y : V), RowS K H t1 a xs ∧ RowS K H t2 b ys ∧ xs[i]? = some x ∧ ys[i]? = some y,
    fun i H v H' => ∃ T x y, v = .ref T ∧ H T = none ∧ H' = upd H T (.tup [x, y]) ∧ (∀ xs, RowS K H t1 a xs → xs[i]? = some x) ∧ ∀ ys, RowS K H t2 b ys → ys[i]? = some y,
    fun i H => ∃ xs ys : List V, RowS K H t1 a xs ∧ RowS K H t2 b ys ∧ xs.length = ys.length ∧ xs.length = i⟩
theorem zsep {z TI TO i1 i2 a b : Addr} (D : ZipApart z TI TO i1 i2 a b) (ai2 : a ≠ i2) (bi1 : b ≠ i1) : ZipSep2 z TI TO i1 i2 [i1, a] [i2, b] where
  TIz := D.TIz
  TOz := D.TOz
  TITO := D.TITO
  TIi1 := D.TIi1
  mem1 := by simp
  zf1 := by simp [D.i1z.symm, D.l1z.symm]
  Tf1 := by simp [D.TOi1, D.l1TO.symm]
  TIi2 := D.TIi2
  mem2 := by simp
  zf2 := by simp [D.i2z.symm, D.l2z.symm]
  Tf2 := by simp [D.TOi2, D.l2TO.symm]
  sep1_2 := by simp [D.i12, bi1.symm]
  sep2_1 := by simp [D.i12.symm, ai2.symm]
theorem turn_zipM {P : Program} {w : World} {K : PySem.W.Frag} {elts : List Expr} {kk : Nat} {tpos : Pos} {t1 t2 : Bool} {a b z TI TO i1 i2 : Addr} (D : ZipApart z TI TO i1 i2 a b) :
    Turn P w K (.Tuple elts kk tpos) (ItzM K t1 t2 a b) [z, TI, TO, i1, i2] z (fun i h => IsZip h z TI TO .none ∧ IsPair h TI (.ref i1) (.ref i2) ∧ (∃ x y, IsPair h TO x y) ∧ ItS t1 h i1 a i ∧ ItS t2 h i2 b i) where
  mem := by simp
  obj := fun i h st c hc => by
    obtain ⟨hz, hTI, ⟨x, y, hTO⟩, h1, h2⟩ := st
    obtain ⟨o1, v1, e1, d1⟩ := h1.obj
    obtain ⟨o2, v2, e2, d2⟩ := h2.obj
    have e' : c = z ∨ c = TI ∨ c = TO ∨ c = i1 ∨ c = i2 := by simpa using hc
    rcases e' with q | q | q | q | q
    · rw [q]; exact ⟨_, hz, fun v q => nomatch q⟩
    · rw [q]; exact ⟨_, hTI, fun v q => nomatch q⟩
    · rw [q]; exact ⟨_, hTO, fun v q => nomatch q⟩
    · rw [q]; exact ⟨o1, e1, fun v q => by rw [d1] at q; cases q⟩
    · rw [q]; exact ⟨o2, e2, fun v q => by rw [d2] at q; cases q⟩
  keep := fun i h h' st k => by
    obtain ⟨hz, hTI, ⟨x, y, hTO⟩, h1, h2⟩ := st
    exact ⟨k z (by simp) _ hz, k TI (by simp) _ hTI, ⟨x, y, k TO (by simp) _ hTO⟩, h1.at fun o q => k i1 (by simp) o q, h2.at fun o q => k i2 (by simp) o q⟩
  item := by
    intro X hP hw hK hc i pins s σ H E I hf st hg
    subst hP hw hK
    obtain ⟨hz, hTI, ⟨x0, y0, hTO⟩, h1, h2⟩ := st
    obtain ⟨xs, ys, x, y, hqx, hqy, hx, hy⟩ := hg
    obtain ⟨its, rv, p⟩ := hqx.get I
    obtain ⟨its2, rv2, p2⟩ := hqy.get I
    obtain ⟨u, hu, ru⟩ := rv.get hx
    obtain ⟨u2, hu2, ru2⟩ := rv2.get hy
    have hzl : z < s.heap.objs.size := Heap.lt_size hz
    have il1 : i < its.toArray.size := by
      rw [List.size_toArray]
      exact (List.getElem?_eq_some_iff.mp hu).1
    have il2 : i < its2.toArray.size := by
      rw [List.size_toArray]
      exact (List.getElem?_eq_some_iff.mp hu2).1
    refine wpAny_pyNext_zipD2_item (zsep D D.l1i2 D.l2i1) (drawsS (A := X.A.in1) (I.ok.hd hc) t1 i1 a D.l1i1 its.toArray) (drawsS (A := X.A.in1) (I.ok.hd hc) t2 i2 b D.l2i2 its2.toArray) hz hTI hTO ⟨h1, p⟩ ⟨h2, p2⟩ il1 il2
      fun w1 w2 h' tk hw1 hw2 z' TO' s1' s2' hT hsz hk => ?_
    obtain ⟨h1', _⟩ := s1'
    obtain ⟨h2', _⟩ := s2'
    have e1 : w1 = u := by
      have q : its[i]? = some w1 := by simpa using hw1
      rw [hu] at q
      exact (Option.some.inj q).symm
    have e2 : w2 = u2 := by
      have q : its2[i]? = some w2 := by simpa using hw2
      rw [hu2] at q
      exact (Option.some.inj q).symm
    subst e1 e2
    refine ⟨_, rfl, wpAny_letOwnedTupleGo_zip (s := { s with heap := h', toks := tk }) z' fun h'' z'' sb => ?_⟩
    have hT2 : h''.get? s.heap.objs.size = some { cls := .type "tuple", data := .seq #[w1, w2] } := (sb.2 _ (Nat.ne_of_gt hzl)).trans hT
    have new : ObjOk X.prog X.w (upd H s.heap.objs.size (.tup [x, y])) h'' s.heap.objs.size (.tup [x, y]) :=
      ⟨by show 2 ≤ sizeLine; decide, [w1, w2], .cons ru (.cons ru2 .nil), ⟨_, hT2, rfl, _, rfl⟩⟩
    have I1 : Inv X pins σ (upd H s.heap.objs.size (.tup [x, y])) { s with heap := h'', toks := tk } :=
      I.turnedNew (t' := tk) (ch := [z, TI, TO, i1, i2]) (fun c o hb q => (sb.2 c (fun q' => hb (by simp [q']))).trans (hk c o (fun q' => hb (by simp [q'])) (fun q' => hb (by simp [q'])) (fun q' => hb (by simp [q'])) (fun q' => hb (by simp [q'])) q)) hf (Nat.le_refl _) new
    refine ⟨.ref s.heap.objs.size, _, I1, rfl, ⟨_, x, y, rfl, I.hok.fresh (Nat.le_refl _), rfl, fun l hl => by rw [hl.inj I hqx]; exact hx, fun l hl => by rw [hl.inj I hqy]; exact hy⟩, ⟨z'', ?_, ⟨w1, w2, ?_⟩, ?_, ?_⟩, fun c hcm => ?_⟩
    · exact (sb.2 _ D.TIz).trans (hk _ _ D.TIz D.TITO D.TIi1 D.TIi2 hTI)
    · exact (sb.2 _ D.TOz).trans TO'
    · exact h1'.at fun o q => (sb.2 _ D.i1z).trans q
    · exact h2'.at fun o q => (sb.2 _ D.i2z).trans q
    · have hlt : c < s.heap.objs.size := by
        obtain ⟨o1, v1, e1, d1⟩ := h1.obj
        obtain ⟨o2, v2, e2, d2⟩ := h2.obj
        have e' : c = z ∨ c = TI ∨ c = TO ∨ c = i1 ∨ c = i2 := by simpa using hcm
        rcases e' with q | q | q | q | q
        · rw [q]; exact hzl
        · rw [q]; exact Heap.lt_size hTI
        · rw [q]; exact Heap.lt_size hTO
        · rw [q]; exact Heap.lt_size e1
        · rw [q]; exact Heap.lt_size e2
      rw [upd_ne (Nat.ne_of_lt hlt)]
      exact (hf c hcm).1
  done := by
    intro X hP hw hK hc i pins s σ H E I hf st hg
    subst hP hw hK
    obtain ⟨hz, hTI, ⟨x0, y0, hTO⟩, h1, h2⟩ := st
    obtain ⟨xs, ys, hqx, hqy, hl, hend⟩ := hg
    obtain ⟨its, rv, p⟩ := hqx.get I
    obtain ⟨its2, rv2, p2⟩ := hqy.get I
    have l1 := rv.length
    have l2 := rv2.length
    refine wpAny_pyNext_zipD2_end (zsep D D.l1i2 D.l2i1) (drawsS (A := X.A.in1) (I.ok.hd hc) t1 i1 a D.l1i1 its.toArray) (drawsS (A := X.A.in1) (I.ok.hd hc) t2 i2 b D.l2i2 its2.toArray) hz hTI hTO ⟨h1, p⟩ ⟨h2, p2⟩ (by simp; omega) (by simp; omega) (.inl (by simp; omega))
      fun h' tk hk => ⟨rfl, I.turnedL (t' := tk) (ch := [z, TI, TO, i1, i2]) (fun c o hb q =>
      hk c o (fun q' => hb (by simp [q'])) (fun q' => hb (by simp [q'])) (fun q' => hb (by simp [q'])) (fun q' => hb (by simp [q'])) q) hf⟩
  self := fun A i s Q E st h => wpAny_pyIter_zip st.1 h
def iAtM (K : PySem.W.Frag) (t1 t2 : Bool) (a b : Addr) : TI := fun _ H R => (∃ xs ys, RowS K H t1 a xs ∧ RowS K H t2 b ys) ∧ R (ItzM K t1 t2 a b) H
def iZipM (K : PySem.W.Frag) (t1 t2 : Bool) (ta : TA) : TI := fun σ H R => ta σ H fun vs H1 => ∃ a b, vs = [.ref a, .ref b] ∧ (∃ xs ys, RowS K H1 t1 a xs ∧ RowS K H1 t2 b ys) ∧ R (ItzM K t1 t2 a b) H1
theorem pi_zipM {X : Cx} {t1 t2 : Bool} {e e2 : Expr} {ta : TA} {p pos tpos : Pos} {elts : List Expr} {kk : Nat} (hg : Gl X "zip") (hm : X.mg "zip" = none) (ha : PA X [e, e2] ta)
    (hs : starEach [e, e2] X.env = (false, eval e X.env) :: starEach [e2] X.env := by rfl) (hpl : (backTo pos (starEach [e2] X.env)).any (·.1) = false := by rfl) :
    PI X (.Tuple elts kk tpos) (.Call (.Name "zip" p) [e, e2] [] pos) (iZipM X.K t1 t2 ta) := by
  refine ⟨fun pins s σ H R I h => ?_⟩
  refine Call_ (ld_blt I hg hm PyProof.Rows.boot_zip (PyProof.Rows.callWith_type1 (thn (ha.run pos pins s σ H _ I h) fun us s1 ⟨vs, H1, I1, r1, q1⟩ => ?_) hs hpl))
  obtain ⟨a, b, ex, ⟨xs, ys, hqx, hqy⟩, q⟩ := q1
  subst ex
  cases r1 with
  | cons r rr =>
    cases rr with
    | cons r' rr =>
      cases rr
      cases r
      cases r'
      have fresh5 : ∀ c, c ∈ [s1.heap.objs.size + 4, s1.heap.objs.size + 2, s1.heap.objs.size + 3, s1.heap.objs.size, s1.heap.objs.size + 1] → FpOk X pins H1 c := fun c hcm => by
        have e' : c = s1.heap.objs.size + 4 ∨ c = s1.heap.objs.size + 2 ∨ c = s1.heap.objs.size + 3 ∨ c = s1.heap.objs.size ∨ c = s1.heap.objs.size + 1 := by simpa using hcm
        have hle : s1.heap.objs.size ≤ c := by
          rcases e' with z | z | z | z | z
          · rw [z]; exact Nat.le_add_right _ _
          · rw [z]; exact Nat.le_add_right _ _
          · rw [z]; exact Nat.le_add_right _ _
          · rw [z]; exact Nat.le_refl _
          · rw [z]; exact Nat.le_add_right _ _
        exact I1.fpOk hle (I1.hok.fresh hle)
      obtain ⟨its, rv, p1⟩ := hqx.get I1
      obtain ⟨its2, rv2, p2⟩ := hqy.get I1
      refine call_zipM p1 p2 fun h' hz hTI hTO h1 h2 hsz hk => wpAny_pyIter_zip hz ?_
      have I2 : Inv X pins σ H1 { s1 with heap := h' } := I1.kept (t' := s1.toks) hk
      exact ⟨s1.heap.objs.size + 4, [s1.heap.objs.size + 4, s1.heap.objs.size + 2, s1.heap.objs.size + 3, s1.heap.objs.size, s1.heap.objs.size + 1], _, _, H1, rfl, I2, turn_zipM (PySem.W.ktu_apart s1.heap.objs.size a b p1.lt p2.lt), ⟨hz, hTI, ⟨_, _, hTO⟩, h1, h2⟩, fresh5, q⟩
section
variable {K : PySem.W.Frag} {σ : L2.St} {H : Hp} {Q : VK} {te : TE} {tt : TT} {tr : TA} {g : TG} {a b : Addr} {xs ys : List V} {vs : List Nat} {t1 t2 : Bool}
/-- [.. for x, y in zip(t, u) if ..] -/
theorem w_lczm (q : tr σ H fun ws H1 => ∃ a b, ws = [.ref a, .ref b] ∧ tLc (iAtM K t1 t2 a b) g tt te vs σ H1 Q) : tLc (iZipM K t1 t2 tr) g tt te vs σ H Q := q
theorem w_lcZM (hx : RowS K H t1 a xs) (hy : RowS K H t2 b ys) (he : xs.length = ys.length) (J : Addr → Nat → List V → Hp → Prop) (h0 : ∀ D, H D = none → J D 0 [] (upd H D (.lst [])))
    (hl : ∀ D i acc H1, J D i acc H1 → RowS K H1 t1 a xs ∧ RowS K H1 t2 b ys)
    (hs : ∀ D i acc x y T H1, xs[i]? = some x → ys[i]? = some y → J D i acc H1 → H1 T = none → g (.ref T) (wipe σ vs) (upd H1 T (.tup [x, y])) fun σ2 H2 => wipe σ2 vs = wipe σ vs ∧ tt σ2 H2 fun b H3 => if b = true then te σ2 H3 fun y H4 => ∃ bcc, H4 D = some (.lst bcc) ∧ bcc.length < sizeLine ∧ ∃ ccc, J D (i + 1) ccc (upd H4 D (.lst (bcc ++ [y]))) else ∃ ccc, J D (i + 1) ccc H3)
    (hd : ∀ D acc H1, J D xs.length acc H1 → Q (.ref D) H1) : tLc (iAtM K t1 t2 a b) g tt te vs σ H Q := by
  refine ⟨⟨xs, ys, hx, hy⟩, fun D nD => ?_⟩
  refine ⟨fun i m H2 => m = xs.length - i ∧ i ≤ xs.length ∧ ∃ acc, J D i acc H2, ⟨xs.length, by simp, Nat.zero_le _, [], h0 D nD⟩, ?_⟩
  rintro i m H2 ⟨rfl, hi, acc, q⟩
  obtain ⟨q1, q2⟩ := hl D i acc H2 q
  by_cases hlt : i < xs.length
  · have k2 : i < ys.length := by omega
    refine .inr ⟨⟨xs, ys, xs[i], ys[i], q1, q2, List.getElem?_eq_getElem hlt, List.getElem?_eq_getElem k2⟩, fun H' => ∃ ccc, J D (i + 1) ccc H', fun H' z => ⟨xs.length - (i + 1), by omega, rfl, hlt, z⟩, ?_⟩
    rintro z H' ⟨T, x, y, rfl, nT, rfl, hx, hy⟩
    exact hs D i acc x y T H2 (hx xs q1) (hy ys q2) q nT
  · have e : i = xs.length := by omega
    subst e
    exact .inl ⟨⟨xs, ys, q1, q2, he, rfl⟩, hd D acc H2 q⟩
end
end Rv
/-! Comparisons of an int with an instance of an own class: the int declines, the class's own def answers; own comparisons with values of any kind. -/
namespace Rv
open PySem PySem.Spec PyProof.Rows L2
/-- the int's own comparison under the name id does not answer to an instance -/
structure IntDec (op : CmpOp) (id : String) (B : Builtin) : Prop where
  hop : ∀ a b, compareOp op a b = richCompare op a b
  slot : Slot "int" (cmpInfo op).2.1 id
  entry : entryFor table id = some B
  args : ∀ a b : Value, argsOk id ⟨[a, b], []⟩
  no : ∀ (i : Int) (t : Tok) (x C dx : Addr), Meets (B ⟨[.int i t, .ref x], []⟩) (fun _ R s => s.heap.get? x = some (PySem.W.instObj C dx) ∧ R (.ok (.ret .notImplemented)) s)
theorem dec_lt : IntDec .Lt "int.__lt__" Builtin.«int.__lt__» := by
  refine ⟨fun _ _ => rfl, PySem.F.slot_int_lt, PySem.F.entry_int_lt, fun a b => PySem.F.args_int_lt_2 a b, fun i t x C dx => .of_wp fun prog w A R s h => ?_⟩
  obtain ⟨hp, g, d, tk, os⟩ := s
  obtain ⟨hl, h⟩ := h
  wp_walk using AutoSeq1.wpAny_loadPart' hl
  exact ⟨_, rfl, h⟩
theorem dec_le : IntDec .LtE "int.__le__" Builtin.«int.__le__» := by
  refine ⟨fun _ _ => rfl, PySem.F.slot_int_le, PySem.F.entry_int_le, fun a b => PySem.F.args_int_le_2 a b, fun i t x C dx => .of_wp fun prog w A R s h => ?_⟩
  obtain ⟨hp, g, d, tk, os⟩ := s
  obtain ⟨hl, h⟩ := h
  wp_walk using AutoSeq1.wpAny_loadPart' hl
  exact ⟨_, rfl, h⟩
theorem dec_gt : IntDec .Gt "int.__gt__" Builtin.«int.__gt__» := by
  refine ⟨fun _ _ => rfl, PySem.F.slot_int_gt, PySem.F.entry_int_gt, fun a b => PySem.F.args_int_gt_2 a b, fun i t x C dx => .of_wp fun prog w A R s h => ?_⟩
  obtain ⟨hp, g, d, tk, os⟩ := s
  obtain ⟨hl, h⟩ := h
  wp_walk using AutoSeq1.wpAny_loadPart' hl
  exact ⟨_, rfl, h⟩
theorem dec_ge : IntDec .GtE "int.__ge__" Builtin.«int.__ge__» := by
  refine ⟨fun _ _ => rfl, PySem.F.slot_int_ge, PySem.F.entry_int_ge, fun a b => PySem.F.args_int_ge_2 a b, fun i t x C dx => .of_wp fun prog w A R s h => ?_⟩
  obtain ⟨hp, g, d, tk, os⟩ := s
  obtain ⟨hl, h⟩ := h
  wp_walk using AutoSeq1.wpAny_loadPart' hl
  exact ⟨_, rfl, h⟩
theorem dec_eq : IntDec .Eq "int.__eq__" Builtin.«int.__eq__» := by
  refine ⟨fun _ _ => rfl, PySem.F.slot_int_eq, PySem.F.entry_int_eq, fun a b => PySem.F.args_int_eq_2 a b, fun i t x C dx => .of_wp fun prog w A R s h => ?_⟩
  obtain ⟨hp, g, d, tk, os⟩ := s
  obtain ⟨hl, h⟩ := h
  wp_walk using AutoSeq1.wpAny_loadPart' hl
  exact ⟨_, rfl, h⟩
theorem dec_ne : IntDec .NotEq "int.__ne__" Builtin.«int.__ne__» := by
  refine ⟨fun _ _ => rfl, PySem.F.slot_int_ne, PySem.F.entry_int_ne, fun a b => PySem.F.args_int_ne_2 a b, fun i t x C dx => .of_wp fun prog w A R s h => ?_⟩
  obtain ⟨hp, g, d, tk, os⟩ := s
  obtain ⟨hl, h⟩ := h
  wp_walk using AutoSeq1.wpAny_loadPart' hl
  exact ⟨_, rfl, h⟩
/-- i op o: the reflected def of o's class answers -/
def rRefl (C : Addr) (sp : Sp) (E : XK) : R2 := fun x y H Q => ∃ i a dx fs, x = .int i ∧ y = .ref a ∧ H a = some (.ins C dx fs) ∧ sp [.ref a, .int i] H Q E
section
variable {X : Cx} {CX : CXT} {k : Nat} {sp : Sp} {E : XK} {C : Addr}
theorem op_refl {op : CmpOp} {id : String} {B : Builtin} (D : IntDec op id B) (c : CalO X.prog X.w X.K X.mg X.base CX k C (cmpInfo op).2.2 sp) (hsub : PySem.W.subIn X.K (.ref C) (.type "int") = some false) (hr : Room k X.A) (hx : Passes CX X E) : OpR X (compareOp op) (rRefl C sp E) := by
  intro pins s σ H x y v u Q I rx ry h
  obtain ⟨i, a, dx, fs, rfl, rfl, ha, q⟩ := h
  cases (show u = Value.ref a from ry)
  obtain ⟨t, rfl⟩ := (show ∃ t, v = Value.int i t from rx)
  obtain ⟨f, fd, F, hs, hf, hb⟩ := c.ex
  have go := run2 (y := .int i) (u := .int i t) F hb hx hr I ⟨t, rfl⟩ q
  obtain ⟨mA, J, _⟩ := ins_get I.hok ha
  obtain ⟨od, J, _⟩ := J.look
  obtain ⟨m, hF⟩ := I.fr
  have hk := I.ok.mod.kin.keeps hF.keep
  obtain ⟨_, _, _, hget, _⟩ := (show ObjOk X.prog X.w H s.heap a (.ins C dx fs) from I.hok a _ ha)
  rw [D.hop]
  have one : wpAny (model X.prog X.w) X.A (tryCompare (.ref a) (cmpInfo op).2.2 (.int i t)) (fun r s' => ∃ v, r = some v ∧ EP X pins σ Q v s') X.xe s := by
    unfold tryCompare
    refine wpAny_bind (PySem.W.ifBound_K hk J hs hf (wpAny_mono go (fun v s' hv => ?_) fun _ _ e => e))
    cases v <;> first | exact hv.elim | exact wpAny_pure ⟨_, rfl, hv⟩
  unfold richCompare
  have h1 : oneThing? op (.int i t) (.ref a) = none := rfl
  simp only [h1]
  refine wpAny_holding (wpAny_bind (wpAny_cRoomFor hr.units0 ?_))
  refine wpAny_bind (wpAny_typeOf (typeIs_int s i t) (wpAny_bind (J.type.here ?_)))
  have hne : (Value.type "int" != Value.ref C) = true := rfl
  rw [if_pos hne]
  refine wpAny_bind ((PySem.W.looks_subIn hk hsub).here ?_)
  simp only [Bool.false_eq_true, if_false, Bool.not_false, if_true]
  refine wpAny_bind (m := tryCompare (.int i t) _ (.ref a)) (wpAny_tryCompare_declines (typeIs_int s i t) D.slot (call_meets D.slot (typeIs_int s i t) D.entry (D.args _ _) (D.no i t a C dx) ⟨hget, rfl, ?_⟩))
  refine wpAny_bind (m := tryCompare (.ref a) _ (.int i t)) (wpAny_mono one (fun r s' z => ?_) fun _ _ e => e)
  obtain ⟨v, rfl, hq⟩ := z
  exact wpAny_pure hq
end
end Rv
/-! Own comparisons with values of any kind, in both orders. -/
namespace Rv
open PySem PySem.Spec PyProof.Rows L2
/-- a value of another kind: its type is no subclass of C's -/
structure OddV (K : PySem.W.Frag) (C : Addr) (H : Hp) (v : V) (T : String) : Prop where
  tb : TyB K H v T
  tx : TyX K H v (.type T)
  ki : PySem.W.kitOne K (.type T) (.ref C) = some false
  nf : PySem.W.notFirst K C (.type T) = true
  wh : Whole K H v
  ni : isI v = false
def rOwnX (K : PySem.W.Frag) (C : Addr) (sp : Sp) (E : XK) : R2 := fun x y H Q => ∃ a dx fs, x = .ref a ∧ H a = some (.ins C dx fs) ∧ (Snd C H y ∨ ∃ T, OddV K C H y T) ∧ sp [x, y] H Q E
def rCmpB (K : PySem.W.Frag) (C : Addr) (sp sp' : Sp) (E : XK) : R2 := fun x y H Q => rOwnX K C sp E x y H Q ∨ rRefl C sp' E x y H Q
section
variable {X : Cx} {CX : CXT} {k : Nat} {sp sp' : Sp} {E : XK} {C : Addr} {pins : List (Addr × Obj)} {σ : L2.St} {H : Hp} {s : Shared}
theorem looks_tyB {x : V} {u : Value} {T : String} (I : Inv X pins σ H s) (rx : RelV x u) (t : TyB X.K H x T) : PySem.W.Looks (model X.prog X.w) s.heap (typeOf u) (.type T) := by
  have ty := TyB.is I rx t
  cases t with
  | non => cases (show u = Value.none from rx); exact PySem.W.Looks.of_pure rfl
  | bl b => cases (show u = Value.bool b from rx); exact PySem.W.Looks.of_pure rfl
  | int i => obtain ⟨t, rfl⟩ := (show ∃ t, u = Value.int i t from rx); exact PySem.W.Looks.of_pure rfl
  | str y => obtain ⟨t, rfl⟩ := (show ∃ t, u = Value.str y t from rx); exact PySem.W.Looks.of_pure rfl
  | byt b => exact fun A Q E s' kp q => wpAny_typeOf (T := "bytes") (by
      cases u with
      | ref a =>
        obtain ⟨o, ho, hc⟩ := ty
        exact ⟨o, kp _ _ ho, hc⟩
      | _ => exact ty) q
  | lst h =>
    cases (show u = Value.ref _ from rx)
    obtain ⟨o, ho, hc⟩ := ty
    exact fun A Q E s' kp q => wpAny_typeOf (T := "list") ⟨o, kp _ _ ho, hc⟩ q
  | tup h =>
    cases (show u = Value.ref _ from rx)
    obtain ⟨o, ho, hc⟩ := ty
    exact fun A Q E s' kp q => wpAny_typeOf (T := "tuple") ⟨o, kp _ _ ho, hc⟩ q
  | dK h =>
    cases (show u = Value.ref _ from rx)
    obtain ⟨o, ho, hc⟩ := ty
    exact fun A Q E s' kp q => wpAny_typeOf (T := "dict") ⟨o, kp _ _ ho, hc⟩ q
theorem op_ownX {op : CmpOp} (hop : ∀ a b, compareOp op a b = richCompare op a b) (c : CalO X.prog X.w X.K X.mg X.base CX k C (cmpInfo op).2.1 sp) (oc : OpC X.K C) (hr : Room k X.A) (hx : Passes CX X E) : OpR X (compareOp op) (rOwnX X.K C sp E) := by
  intro pins s σ H x y v u Q I rx ry h
  obtain ⟨a, dx, fs, rfl, ha, sy, q⟩ := h
  rcases sy with sy | ⟨T, o⟩
  · exact op_ownC hop c oc hr hx pins s σ H _ _ v u Q I rx ry ⟨a, dx, fs, rfl, ha, sy, q⟩
  · cases (show v = Value.ref a from rx)
    obtain ⟨f, fd, F, hs, hf, hb⟩ := c.ex
    obtain ⟨mA, J, _⟩ := ins_get I.hok ha
    obtain ⟨od, J, _⟩ := J.look
    obtain ⟨m, hF⟩ := I.fr
    rw [hop]
    have go := run2 (y := y) (u := u) F hb hx hr I ry q
    exact PySem.W.cmp_K (op := op) (tb := .type T) hr.units0 hF I.ok.mod.kin J (looks_tyB I ry o.tb) o.nf hs hf go
theorem op_both {op : CmpOp} {id : String} {B : Builtin} (D : IntDec op id B) (c : CalO X.prog X.w X.K X.mg X.base CX k C (cmpInfo op).2.1 sp) (c' : CalO X.prog X.w X.K X.mg X.base CX k C (cmpInfo op).2.2 sp') (oc : OpC X.K C)
    (hsub : PySem.W.subIn X.K (.ref C) (.type "int") = some false) (hr : Room k X.A) (hx : Passes CX X E) : OpR X (compareOp op) (rCmpB X.K C sp sp' E) := by
  intro pins s σ H x y v u Q I rx ry h
  rcases h with h | h
  · exact op_ownX D.hop c oc hr hx pins s σ H x y v u Q I rx ry h
  · exact op_refl D c' hsub hr hx pins s σ H x y v u Q I rx ry h
end
section
variable {K : PySem.W.Frag} {H : Hp} {Q : VK} {C a dx : Addr} {fs : List (Str × V)} {sp sp' : Sp} {E : XK} {y : V} {i : Int}
theorem w_cbN {n d t b : Int} (ha : RatAt C H a t b) (hy : Num C H y n d) (q : sp [.ref a, y] H Q E) : rCmpB K C sp sp' E (.ref a) y H Q := by
  obtain ⟨_, dx, ha⟩ := ha
  rcases hy with ⟨rfl, _⟩ | ⟨p, rfl, _, dy, hp⟩
  · exact .inl ⟨a, dx, _, rfl, ha, .inl (.int n), q⟩
  · exact .inl ⟨a, dx, _, rfl, ha, .inl (.own hp), q⟩
theorem w_cbO {t b : Int} {T : String} (ha : RatAt C H a t b) (o : OddV K C H y T) (q : sp [.ref a, y] H Q E) : rCmpB K C sp sp' E (.ref a) y H Q := by
  obtain ⟨_, dx, ha⟩ := ha
  exact .inl ⟨a, dx, _, rfl, ha, .inr ⟨T, o⟩, q⟩
/-- the same with the number first -/
theorem w_cbR {n d t b : Int} (ha : RatAt C H a t b) (hy : Num C H y n d) (q1 : y = .int n → d = 1 → sp' [.ref a, y] H Q E) (q2 : ∀ p, y = .ref p → RatAt C H p n d → sp [y, .ref a] H Q E) : rCmpB K C sp sp' E y (.ref a) H Q := by
  obtain ⟨_, dx, ha⟩ := ha
  rcases hy with ⟨rfl, hd⟩ | ⟨p, rfl, hp⟩
  · exact .inr ⟨n, a, dx, _, rfl, rfl, ha, q1 rfl hd⟩
  · obtain ⟨_, dy, hp'⟩ := id hp
    exact .inl ⟨p, dy, _, rfl, hp', .inl (.own ha), q2 p rfl hp⟩
end
/-! lowest terms -/
theorem red_uniq {t b n d : Int} (g1 : Int.gcd t b = 1) (g2 : Int.gcd n d = 1) (pb : 0 < b) (pd : 0 < d) (e : t * d = n * b) : t = n ∧ b = d := by
  have e1 : t.natAbs * d.natAbs = n.natAbs * b.natAbs := by rw [← Int.natAbs_mul, ← Int.natAbs_mul, e]
  have c1 : Nat.Coprime b.natAbs t.natAbs := by
    have : Nat.gcd t.natAbs b.natAbs = 1 := g1
    exact (Nat.gcd_comm _ _).trans this
  have c2 : Nat.Coprime d.natAbs n.natAbs := by
    have : Nat.gcd n.natAbs d.natAbs = 1 := g2
    exact (Nat.gcd_comm _ _).trans this
  have d1 : b.natAbs ∣ d.natAbs := Nat.Coprime.dvd_of_dvd_mul_left c1 ⟨n.natAbs, by rw [e1, Nat.mul_comm]⟩
  have d2 : d.natAbs ∣ b.natAbs := Nat.Coprime.dvd_of_dvd_mul_left c2 ⟨t.natAbs, by rw [← e1, Nat.mul_comm]⟩
  have eq := Nat.dvd_antisymm d1 d2
  have ebd : b = d := by omega
  subst ebd
  exact ⟨Int.eq_of_mul_eq_mul_right (by omega) e, rfl⟩
/-- the sign of the gap of two fractions in lowest terms is that of the cross products -/
theorem gap_sign {t b n e a q c d : Int} (h1 : t * q = a * b) (h2 : n * d = c * e) (pb : 0 < b) (pe : 0 < e) (pq : 0 < q) (pd : 0 < d) : (t * e < n * b ↔ a * d < c * q) ∧ (t * e = n * b ↔ a * d = c * q) := by
  have k1 : (t * e) * (q * d) = (a * d) * (b * e) := by
    calc (t * e) * (q * d) = (t * q) * (e * d) := by ac_rfl
      _ = (a * d) * (b * e) := by rw [h1]; ac_rfl
  have k2 : (n * b) * (q * d) = (c * q) * (b * e) := by
    calc (n * b) * (q * d) = (n * d) * (b * q) := by ac_rfl
      _ = (c * q) * (b * e) := by rw [h2]; ac_rfl
  have p1 := Int.mul_pos pq pd
  have p2 := Int.mul_pos pb pe
  generalize q * d = m1 at k1 k2 p1
  generalize b * e = m2 at k1 k2 p2
  constructor
  · constructor
    · intro h
      have := Int.mul_lt_mul_of_pos_right h p1
      rw [k1, k2] at this
      exact Int.lt_of_mul_lt_mul_right this (by omega)
    · intro h
      have := Int.mul_lt_mul_of_pos_right h p2
      rw [← k1, ← k2] at this
      exact Int.lt_of_mul_lt_mul_right this (by omega)
  · constructor
    · intro h
      rw [h] at k1
      exact Int.eq_of_mul_eq_mul_right (by omega) (k1.symm.trans k2)
    · intro h
      rw [h] at k1
      exact Int.eq_of_mul_eq_mul_right (by omega) (k1.trans k2.symm)
end Rv
/-! != of instances with an own == and no own !=; + of two own instances. -/
namespace PySem.W
open PySem PySem.Spec PyProof.Rows
section
variable {prog : Program} {w : World} {A : Around} {E : Value → Shared → Prop} {s : Shared} {K : Frag} {x C L f : Addr} {h₀ : Heap} {m : Str → Option Value} {ox : Obj} {od : Option Obj} {b tb : Value}
theorem rvn_entry {Q : Fin → Shared → Prop} (hu : A.units < cLine) (X : K.In s.heap) (I : InstAt s.heap x ox C od) (hs : findIn K (.ref C) "__eq__" = some (some (.ref f))) (hf : isFn K (.ref f) = true)
    (h : wpAny (model prog w) A (call (.ref f) [.ref x, b]) (fun v s' => ∃ c, v = .bool c ∧ Q (.done (.ret (.bool (!c)))) s') E s) : wpAny (model prog w) A (Builtin.«object.__ne__» ⟨[.ref x, b], []⟩) Q E s := by
  unfold Builtin.«object.__ne__»
  repeat (first | with_reducible refine wpAny_cRoomFor hu ?_ | with_reducible refine wpAny_bind (ifBound_K X I hs hf (wpAny_mono h (fun v s' hv => ?_) fun _ _ e => e)) | wp_step)
  obtain ⟨c, rfl, q⟩ := hv
  repeat (first | with_reducible refine wpAny_bind (wpAny_truthy_bool ?_) | wp_step)
  exact q
theorem rvn_call {Q : Value → Shared → Prop} (hu : A.in1.units < cLine) (X : K.In s.heap) (I : InstAt s.heap x ox C od) (hm : mroIn K C (.type "object") = some true) (hs : findIn K (.ref C) "__eq__" = some (some (.ref f))) (hf : isFn K (.ref f) = true)
    (h : wpAny (model prog w) A.in1 (call (.ref f) [.ref x, b]) (fun v s' => ∃ c, v = .bool c ∧ Q (.bool (!c)) s') E s) : wpAny (model prog w) A (call (.builtin "object.__ne__") [.ref x, b]) Q E s :=
  wpAny_call (codeAny_call_builtin F.cmp_object.ne.plain F.cmpEntry_ne (check_slot F.cmpKind_ne F.cmpSplit_ne (I.type.andThen (looks_mroIn X hm)) (F.cmpArgs_ne _ _) (rvn_entry hu X I hs hf h)))
theorem rvn_bound {M : Model} {args : List Value} {Q : Option Value → Shared → Prop} (X : K.In s.heap) (I : InstAt s.heap x ox C od) (hs : findIn K (.ref C) "__ne__" = some (some (.builtin "object.__ne__")))
    (h : wpAny M A (call (.builtin "object.__ne__") (.ref x :: args)) (fun v => Q (some v)) E s) : wpAny M A (callSpecialIfBound? (.ref x) "__ne__" args) Q E s := by
  simp only [callSpecialIfBound?, bindSpecialIfBound?]
  refine wpAny_holding (wpAny_bind (wpAny_bind (wpAny_bind (I.type.here ((looks_findIn X hs).here ?_)))))
  refine wpAny_bind (wpAny_askSetting (wpAny_ite ?_))
  have fin : wpAny M A (call (.builtin "object.__ne__") ([.ref x] ++ args) >>= fun v => pure (some v)) Q E s := wpAny_bind (wpAny_mono h (fun v s' h' => wpAny_pure h') fun _ _ h' => h')
  split
  · exact wpAny_bind (wpAny_of_eq (F.cmp_object.ne.bind _) (wpAny_pure (by exact fin)))
  · exact wpAny_tryCatch (wpAny_bind (wpAny_of_eq (F.cmp_object.ne.bind _) (wpAny_pure (by exact fin))))
theorem rvn_ne {Q : Value → Shared → Prop} (hu : A.in1.units < cLine) (hu0 : A.units < cLine) (F : Fr h₀ L s.heap m) (X₀ : K.In h₀) (I : InstAt s.heap x ox C od) (hb : Looks (model prog w) s.heap (typeOf b) tb) (hn : notFirst K C tb = true)
    (hs : findIn K (.ref C) "__eq__" = some (some (.ref f))) (hf : isFn K (.ref f) = true) (hne : findIn K (.ref C) "__ne__" = some (some (.builtin "object.__ne__"))) (hm : mroIn K C (.type "object") = some true)
    (h : wpAny (model prog w) A.in1 (call (.ref f) [.ref x, b]) (fun v s' => ∃ c, v = .bool c ∧ Q (.bool (!c)) s') E s) : wpAny (model prog w) A (richCompare .NotEq (.ref x) b) Q E s := by
  have X := X₀.keeps F.keep
  have one : wpAny (model prog w) A (tryCompare (.ref x) (cmpInfo .NotEq).2.1 b) (fun r s' => ∃ v, r = some v ∧ Q v s') E s := by
    unfold tryCompare
    refine wpAny_bind (rvn_bound X I hne (rvn_call hu X I hm hs hf (wpAny_mono h (fun v s' hv => ?_) fun _ _ e => e)))
    obtain ⟨c, rfl, q⟩ := hv
    exact ⟨c, rfl, wpAny_pure ⟨_, rfl, q⟩⟩
  unfold richCompare
  simp only [oneThing_ref]
  refine wpAny_holding (wpAny_bind (wpAny_cRoomFor hu0 ?_))
  refine wpAny_bind (I.type.here (wpAny_bind (hb.here ?_)))
  split
  · rename_i q
    have e : subIn K tb (.ref C) = some false := by
      rcases Bool.or_eq_true_iff.mp hn with e | e
      · rw [beq_iff_eq.mp e] at q; simp at q
      · exact beq_iff_eq.mp e
    refine wpAny_bind ((looks_subIn X e).here ?_)
    simp only [Bool.false_eq_true, if_false]
    refine wpAny_bind (wpAny_mono one (fun r s' z => ?_) fun _ _ e => e)
    obtain ⟨v, rfl, hq⟩ := z
    exact wpAny_pure hq
  · refine wpAny_bind (wpAny_pure ?_)
    simp only [Bool.false_eq_true, if_false]
    refine wpAny_bind (wpAny_mono one (fun r s' z => ?_) fun _ _ e => e)
    obtain ⟨v, rfl, hq⟩ := z
    exact wpAny_pure hq
end
end PySem.W
namespace Rv
open PySem PySem.Spec PyProof.Rows L2
/-- what != of the class at C asks -/
structure NeC (K : PySem.W.Frag) (C : Addr) : Prop where
  ne : PySem.W.findIn K (.ref C) "__ne__" = some (some (.builtin "object.__ne__"))
  mo : PySem.W.mroIn K C (.type "object") = some true
def rNeO (K : PySem.W.Frag) (C : Addr) (sp : Sp) (E : XK) : R2 := fun x y H Q => ∃ a dx fs, x = .ref a ∧ H a = some (.ins C dx fs) ∧ (Snd C H y ∨ ∃ T, OddV K C H y T) ∧ sp [x, y] H (fun z H' => ∃ c, z = .bl c ∧ Q (.bl (!c)) H') E
def rAddO (C : Addr) (sp : Sp) (E : XK) : R2 := fun x y H Q => ∃ a dx fs b dy gs, x = .ref a ∧ H a = some (.ins C dx fs) ∧ y = .ref b ∧ H b = some (.ins C dy gs) ∧ sp [x, y] H Q E
section
variable {X : Cx} {CX : CXT} {k : Nat} {sp : Sp} {E : XK} {C : Addr} {f : Addr} {fd : FuncData} {pins : List (Addr × Obj)} {σ : L2.St} {H : Hp} {s : Shared} {a : Addr} {y : V} {u : Value} {Q : VK}
theorem run2b (F : FnOk X.prog X.w X.K X.mg X.base CX k f fd ["self", "other"] sp) (hb : Binds X.K fd ["self", "other"] []) (hx : Passes CX X E) (hr : Room (k + 1) X.A) (I : Inv X pins σ H s) (ry : RelV y u)
    (q : sp [.ref a, y] H (fun z H' => ∃ c, z = .bl c ∧ Q (.bl (!c)) H') E) :
    wpAny (model X.prog X.w) X.A.in1 (call (.ref f) [.ref a, u]) (fun v s' => ∃ c, v = .bool c ∧ EP X pins σ Q (.bool (!c)) s') X.xe s := by
  have r2 : Vals [V.ref a, y] [Value.ref a, u] := .cons rfl (.cons ry .nil)
  have hl := F.len _ _ _ _ q
  refine wpAny_call (codeAny_mono (F.run X.A.in1 X.stack s H ⟨[.ref a, u], []⟩ [.ref a, u] [.ref a, y] _ E hr.in1 I.env0.in1 (by
    have := hb s [.ref a, u] I.kIn (by simpa using hl)
    simpa using this) r2 q) fun r s' hq => ?_)
  cases r with
  | error e => exact hx pins σ H s e s' I hq
  | ok fl =>
    cases fl with
    | ret w =>
      obtain ⟨z, H', I', rz, c, rfl, qz⟩ := I.after hq
      cases (show w = Value.bool c from rz)
      exact ⟨c, rfl, .bl (!c), H', I', rfl, qz⟩
    | next => exact False.elim hq
    | brk => exact False.elim hq
    | cont => exact False.elim hq
theorem op_neO (c : CalO X.prog X.w X.K X.mg X.base CX k C "__eq__" sp) (oc : OpC X.K C) (nc : NeC X.K C) (hr : Room (k + 1) X.A) (hx : Passes CX X E) : OpR X (compareOp .NotEq) (rNeO X.K C sp E) := by
  intro pins s σ H x y v u Q I rx ry h
  obtain ⟨a, dx, fs, rfl, ha, sy, q⟩ := h
  cases (show v = Value.ref a from rx)
  obtain ⟨f, fd, F, hs, hf, hb⟩ := c.ex
  obtain ⟨mA, J, _⟩ := ins_get I.hok ha
  obtain ⟨od, J, _⟩ := J.look
  obtain ⟨m, hF⟩ := I.fr
  show wpAny _ _ (richCompare .NotEq (.ref a) u) _ _ _
  have go := run2b (Q := Q) (y := y) (u := u) F hb hx hr I ry q
  rcases sy with sy | ⟨T, o⟩
  · cases sy with
    | int i =>
      obtain ⟨t, rfl⟩ := (show ∃ t, u = Value.int i t from ry)
      exact PySem.W.rvn_ne hr.in1.units0 hr.units0 hF I.ok.mod.kin J (PySem.W.Looks.of_pure rfl) oc.nf hs hf nc.ne nc.mo go
    | own hb' =>
      cases (show u = Value.ref _ from ry)
      obtain ⟨mB, J', _⟩ := ins_get I.hok hb'
      obtain ⟨od', J', _⟩ := J'.look
      exact PySem.W.rvn_ne (tb := .ref C) hr.in1.units0 hr.units0 hF I.ok.mod.kin J J'.type (by simp [PySem.W.notFirst]) hs hf nc.ne nc.mo go
  · exact PySem.W.rvn_ne (tb := .type T) hr.in1.units0 hr.units0 hF I.ok.mod.kin J (looks_tyB I ry o.tb) o.nf hs hf nc.ne nc.mo go
theorem op_addO (c : CalO X.prog X.w X.K X.mg X.base CX k C "__add__" sp) (oc : OpC X.K C) (hr : Room k X.A) (hx : Passes CX X E) : OpR X (binaryOp .Add) (rAddO C sp E) := by
  intro pins s σ H x y v u Q I rx ry h
  obtain ⟨a, dx, fs, b, dy, gs, rfl, ha, rfl, hb', q⟩ := h
  cases (show v = Value.ref a from rx)
  cases (show u = Value.ref b from ry)
  obtain ⟨f, fd, F, hs, hf, hb⟩ := c.ex
  obtain ⟨mA, J, _⟩ := ins_get I.hok ha
  obtain ⟨od, J, _⟩ := J.look
  obtain ⟨mB, J', _⟩ := ins_get I.hok hb'
  obtain ⟨od', J', _⟩ := J'.look
  obtain ⟨m, hF⟩ := I.fr
  have go := run2 (y := .ref b) (u := .ref b) F hb hx hr I rfl q
  exact PySem.W.binop_K (op := .Add) hF I.ok.mod.kin J J'.type oc.sf (by rw [show PySem.dunder (Operator.info .Add).2 = ("__add__" : Str) from by decide +kernel]; exact hs) hf go
end
end Rv
namespace Rv
open PySem PySem.Spec PyProof.Rows L2
theorem w_propE {σ : L2.St} {H : Hp} {Q : VK} {C : Addr} {sp : Sp} {E : XK} {ta : TE} (q : ta σ H fun x H1 => ∃ a dx fs, x = .ref a ∧ H1 a = some (.ins C dx fs) ∧ sp [.ref a] H1 Q E) : tProp C sp [] E ta σ H Q := q
theorem w_revT {K : PySem.W.Frag} {σ : L2.St} {H : Hp} {Q : VK} {te : TE} (q : te σ H fun x H1 => ∃ a xs, x = .ref a ∧ SqT K H1 a xs ∧ ∀ p, H1 p = none → Q (.ref p) (upd H1 p (.tup xs.reverse))) : tRevT K te σ H Q := q
theorem hN_rev {xs : List Int} {i : Nat} (h : i < xs.length) : hN xs.reverse i = hN xs (xs.length - 1 - i) := by
  unfold hN
  rw [List.getElem?_reverse h]
theorem hN_map {xs : List Int} {g : Int → Int} {i : Nat} (h : i < xs.length) : hN (xs.map g) i = g (hN xs i) := by
  unfold hN
  rw [List.getElem?_map, List.getElem?_eq_getElem h]
  rfl
theorem map_rev (xs : List Int) : (xs.map V.int).reverse = xs.reverse.map V.int := by rw [List.map_reverse]
def spGrown (K : PySem.W.Frag) (C : Addr) : Sp := fun vs H Q _ => ∃ a b hs ws, vs = [.ref a, .ref b] ∧ PCls K C ∧ RowAt K H a (hs.map V.int) ∧ RowAt K H b (ws.map V.int) ∧ PrOk hs ws ∧ ∀ p H', H p = none → Same H H' → ProfAt K C H' p hs ws → Q (.ref p) H'
def spMirr (K : PySem.W.Frag) (C : Addr) : Sp := fun vs H Q _ => ∃ p hs ws, vs = [.ref p] ∧ PCls K C ∧ ProfAt K C H p hs ws ∧ PrOk hs ws ∧ ∀ q H', H q = none → Same H H' → ProfAt K C H' q hs.reverse ws.reverse → Q (.ref q) H'
def t_grown_profile (K : PySem.W.Frag) (C_Profile : Addr) : TS :=
  (tSeq (tIfS (tTest (tOp oNotN (tCall (spOutside K) [] E0 (tCons (tVar 0) (tCons (tUn (rU fun i => .int (-i)) (tC (.int 1000000000000000000000000000000))) (tCons (tC (.int 1000000000000000000000000000000)) tNil)))) (tC .non))) tNever tNext)
    (tSeq (tIfS (tTest (tOp oNotN (tCall (spOutside K) [] E0 (tCons (tVar 1) (tCons (tC (.int 1)) (tCons (tC (.int 1000000000000000000000000000000)) tNil)))) (tC .non))) tNever tNext)
    (tRet (tMake C_Profile (spInit K C_Profile) [] E0 (tCons (tVar 0) (tCons (tVar 1) tNil))))))
def t_Profile_mirrored (K : PySem.W.Frag) (C_Profile : Addr) : TS :=
  (tRet (tMake C_Profile (spInit K C_Profile) [] E0 (tCons (tRevT K (tFld K (tVar 0) "column_heights")) (tCons (tRevT K (tFld K (tVar 0) "column_widths")) tNil))))
/-- a for over a tuple that is just made -/
def iTt (K : PySem.W.Frag) (a : Addr) : TI := fun _ H R => (∃ xs, SqT K H a xs) ∧ R (Itt K a) H
theorem w_forTn {K : PySem.W.Frag} {σ : L2.St} {H : Hp} {D : Ends} {tl : TE} {s1 : TS} {g : TG} (q : tl σ H fun x H1 => ∃ a, x = .ref a ∧ tFor (iTt K a) g s1 D σ H1) : tFor (iTup K tl) g s1 D σ H := q
theorem w_forTa {K : PySem.W.Frag} {σ : L2.St} {H : Hp} {D : Ends} {s1 : TS} {g : TG} {a : Addr} {xs : List V} (hx : SqT K H a xs) (Pv : Nat → L2.St → Hp → Prop) (h0 : Pv 0 σ H) (hl : ∀ i σ' H', i ≤ xs.length → Pv i σ' H' → SqT K H' a xs)
    (hs : ∀ i x σ' H', xs[i]? = some x → Pv i σ' H' → g x σ' H' fun σ2 H2 => s1 { D with nx := Pv (i + 1), ct := Pv (i + 1), bk := D.nx } σ2 H2) (hd : ∀ σ' H', Pv xs.length σ' H' → D.nx σ' H') : tFor (iTt K a) g s1 D σ H :=
  ⟨⟨xs, hx⟩, for_tup Pv h0 hl hs hd⟩
theorem pfl_none (t1 t2 : Addr) {m : Str} (h1 : ¬ (m = "column_widths")) (h2 : ¬ (m = "column_heights")) : (pfl t1 t2).lookup m = none := by
  unfold pfl
  rw [lookup_putF, if_neg h1, lookup_putF, if_neg h2]
  rfl
/-- [e for k in range(n)], each e a draw: what holds of each item -/
theorem w_lcDraw {σ : L2.St} {H : Hp} {Q : VK} {slot n : Nat} {tr : TA} {te : TE} {d c : Addr} {G : Int → Prop} (hD : DrawsAt H d c) (hn : n ≤ 60) (ha : ∀ AQ : List V → Hp → Prop, AQ [.int (n : Int)] H → tr σ H AQ)
    (hs : ∀ (j : Int) H1 (Q : VK), But d H H1 → DrawsAt H1 d c → (∀ y H2, G y → But d H1 H2 → DrawsAt H2 d c → Q (.int y) H2) → te ((σ.set slot none).set slot (some (.int j))) H1 Q)
    (k : ∀ D H1 (zs : List Int), zs.length = n → (∀ z ∈ zs, G z) → But d H H1 → DrawsAt H1 d c → H D = none → H1 D = some (.lst (zs.map V.int)) → Q (.ref D) H1) : tLc (iRng1 tr) (gName slot) tYes te [slot] σ H Q := by
  refine w_lcR (n := n) (by omega) ha (fun D acc H' => ∃ zs : List Int, acc = zs.map V.int ∧ (∀ z ∈ zs, G z) ∧ But d H H' ∧ DrawsAt H' d c ∧ H' D = some (.lst acc) ∧ D ≠ d ∧ D ≠ c ∧ H D = none) (fun D nD => ?_) ?_ ?_
  · exact ⟨[], rfl, (fun _ h => nomatch h), (But.refl d H).new nD, hD.new (same_new (Same.refl H) nD), upd_same, hD.nd nD, hD.nc nD, nD⟩
  · rintro D acc H' hl ⟨zs, rfl, hok, b, DD, hD', nDd, nDc, nD⟩
    refine hs _ H' _ b DD fun y H4 gy e4 D4 => ?_
    have b4 := b.trans e4
    refine w_app (J := fun D acc H' => ∃ zs : List Int, acc = zs.map V.int ∧ (∀ z ∈ zs, G z) ∧ But d H H' ∧ DrawsAt H' d c ∧ H' D = some (.lst acc) ∧ D ≠ d ∧ D ≠ c ∧ H D = none) (e4 _ _ nDd hD') (by rw [List.length_map] at hl ⊢; omega) ⟨zs ++ [y], (by rw [map_app]), ?_, ?_, D4.wr nDd nDc, upd_same, nDd, nDc, nD⟩
    · intro y' hy
      rcases List.mem_append.mp hy with h | h
      · exact hok y' h
      · rw [List.mem_singleton.mp h]
        exact gy
    · exact fun c o nc h => by
        have q := b4 c o nc h
        rw [upd_ne (ne_of_none h nD)]
        exact q
  · rintro D acc H' hl ⟨zs, rfl, hok, b, DD, hD', nDd, nDc, nD⟩
    rw [List.length_map] at hl
    exact k D H' zs (by omega) hok b DD nD hD'
theorem hN_app {A B : List Int} {c : Nat} : hN (A ++ B) c = if c < A.length then hN A c else hN B (c - A.length) := by
  unfold hN
  rw [List.getElem?_append]
  split <;> rfl
theorem hN_take {A : List Int} {n c : Nat} (h : c < n) : hN (A.take n) c = hN A c := by
  unfold hN
  rw [List.getElem?_take, if_pos h]
theorem hN_drop {A : List Int} {n c : Nat} : hN (A.drop n) c = hN A (n + c) := by
  unfold hN
  rw [List.getElem?_drop]
theorem cut_pre {xs : List Int} {n : Nat} (h : n ≤ xs.length) : cutV (xs.map V.int) none (some (n : Int)) = (xs.take n).map V.int := by
  have ln : (xs.map V.int).length = xs.length := List.length_map ..
  unfold cutV
  rw [show HT.sIx (xs.map V.int).length 0 none = 0 from rfl, HT.sIx_nat, ln, List.drop_zero, List.map_take]
  congr 1
  omega
theorem cut_suf {xs : List Int} {n : Nat} (h : n ≤ xs.length) : cutV (xs.map V.int) (some (n : Int)) none = (xs.drop n).map V.int := by
  have ln : (xs.map V.int).length = xs.length := List.length_map ..
  unfold cutV
  rw [show HT.sIx (xs.map V.int).length (xs.map V.int).length none = (xs.map V.int).length from rfl, HT.sIx_nat, ln, List.map_drop]
  rw [show min n xs.length = n by omega]
  exact List.take_of_length_le (by rw [List.length_drop, ln]; omega)
theorem prod_le {z x : Int} {A B M : Nat} (h : z.natAbs ≤ A) (g : x.natAbs ≤ B) (e : A * B ≤ M := by decide) : (z * x).natAbs ≤ M := by
  rw [Int.natAbs_mul]
  exact Nat.le_trans (Nat.mul_le_mul h g) e
theorem pick2 {a b s : Int} (h1 : 0 ≤ s) (h2 : s < 2) : atI [V.int a, V.int b] s = some (.int (if s = 0 then a else b)) := by
  have c : s = 0 ∨ s = 1 := by omega
  rcases c with rfl | rfl <;> rfl
theorem st_is {s : TS} {D : Ends} {σ : L2.St} (σ' : L2.St) {H : Hp} (e : σ = σ') (q : s D σ' H) : s D σ H := by
  rw [e]
  exact q
local macro_rules | `(tactic| walk_at "rv st") => `(tactic| first
  | with_reducible refine iteT ?_ | with_reducible refine iteF ?_ | with_reducible refine w_nx ?_ | with_reducible refine w_yes ?_ | with_reducible refine w_rt ?_ | with_reducible refine iteNT ?_ | with_reducible refine iteNF ?_ | with_reducible refine iteNRf ?_ | with_reducible refine iteRf ?_ | with_reducible refine w_seqA ?_ | with_reducible refine w_seqD ?_ | with_reducible refine w_seqP ?_ | with_reducible refine w_asg ?_ | with_reducible refine w_ret ?_ | with_reducible refine w_drop ?_ | with_reducible refine w_ifs ?_ | with_reducible refine w_next ?_ | with_reducible refine w_par ?_
  | with_reducible refine w_op ?_ | with_reducible refine w_un ?_ | ((with_reducible show tVar _ _ _ _); refine' w_var ?hv ?_; (case hv => exact rfl)) | with_reducible refine w_c ?_ | with_reducible refine w_test ?_ | with_reducible refine w_tB ?_
  | with_reducible refine w_bl ?_ | with_reducible refine w_I0 ?_ | with_reducible refine w_U ?_ | with_reducible refine w_eqI ?_ | with_reducible refine w_neI ?_
  | with_reducible refine w_cons ?_ | with_reducible refine w_nil ?_ | with_reducible refine w_gn ?_ | with_reducible refine w_gsub ?_ | with_reducible refine w_and ?_ | with_reducible refine w_or ?_ | with_reducible refine w_not ?_
  | with_reducible refine w_andV ?_ | with_reducible refine w_orV ?_ | with_reducible refine w_notV ?_ | with_reducible refine w_if ?_ | with_reducible refine w_cb ?_ | with_reducible refine w_call ?_ | with_reducible refine w_lst ?_ | with_reducible refine w_tup ?_
  | with_reducible refine w_sl ?_ | with_reducible refine w_noPart ?_ | with_reducible refine w_part ?_ | with_reducible refine w_ex1 ?_ | with_reducible refine w_exb ?_ | with_reducible refine w_intB ?_ | with_reducible refine w_intI ?_ | with_reducible refine w_abs ?_)
local macro_rules | `(tactic| walk_at "rv ix") => `(tactic| ((with_reducible show rIxL _ _ _ _ _); refine' w_ixL (sq_lst ?ha) ?hb ?_; (case ha => first | exact upd_same | assumption); (case hb => first | exact rfl | assumption)))
local macro_rules | `(tactic| walk_at "rv ar") => `(tactic| first
  | (refine' w_I ?hc ?_; (case hc => first | (show (0 : Int) < _; first | assumption | decide | omega) | exact pow_c (by decide) (by decide) (by first | decide | omega) (by first | decide | omega) | exact mul_r (by first | decide | omega) (by first | decide | omega) | exact mul_l (by first | decide | omega) (by first | decide | omega) | exact divw (by first | assumption | decide | omega) (by first | assumption | decide | omega))))
local macro_rules | `(tactic| walk_at "rv go") => `(tactic| repeat first | walk_at "rv st" | walk_at "rv ix" | ((with_reducible show rI _ _ _ _ _ _); walk_at "rv ar"))
theorem p_grown {K : PySem.W.Frag} {C : Addr} {vs : List V} {H : Hp} {Q : VK} {E : XK} (h : spGrown K C vs H Q E) : t_grown_profile K C { nx := fun _ H' => Q .non H', rt := Q } (start ["heights", "widths"] vs) H := by
  obtain ⟨a, b, hs, ws, rfl, P, ha, hb, ok, k⟩ := h
  unfold t_grown_profile
  refine w_seq ?_
  walk_at "rv go"
  refine outside_call ha (fun z hz => ok.hh z hz) fun H1 e1 => ?_
  refine ⟨rfl, _, rfl, ?_⟩
  walk_at "rv go"
  refine w_seq ?_
  walk_at "rv go"
  refine outside_call (hb.same e1) (fun z hz => ok.ww z hz) fun H2 e2 => ?_
  refine ⟨rfl, _, rfl, ?_⟩
  walk_at "rv go"
  refine w_make ?_
  walk_at "rv go"
  have e12 := e1.trans e2
  refine mk_profR (Q := fun x H' => Q (.ref x) H') (us := [.ref a, .ref b]) (dvs := []) rfl P (ha.same e12) ok.pos ok.le ok.hh (.inr ⟨b, rfl, hb.same e12, ok.eq, ok.ww⟩) fun p H3 np e3 hp => ?_
  refine k p H3 ?_ (e12.trans e3) hp
  cases q : H p with
  | none => rfl
  | some o =>
    rw [e12 _ _ q] at np
    cases np
theorem p_mirr {K : PySem.W.Frag} {C : Addr} {vs : List V} {H : Hp} {Q : VK} {E : XK} (h : spMirr K C vs H Q E) : t_Profile_mirrored K C { nx := fun _ H' => Q .non H', rt := Q } (start ["self"] vs) H := by
  obtain ⟨p, hs, ws, rfl, P, ⟨dx, t1, t2, hp, h1, h2⟩, ok, k⟩ := h
  unfold t_Profile_mirrored
  walk_at "rv go"
  refine w_make ?_
  refine w_cons ?_
  refine w_revT ?_
  refine w_fld rfl hp P.cl P.nH (pfl_h _ _) ?_
  refine ⟨t1, _, rfl, sq_tup h1, fun a na => ?_⟩
  have e1 : Same H (upd H a (.tup (hs.map V.int).reverse)) := same_new (Same.refl H) na
  refine w_cons ?_
  refine w_revT ?_
  refine w_fld rfl (e1 _ _ hp) P.cl P.nW (pfl_w _ _) ?_
  refine ⟨t2, _, rfl, sq_tup (e1 _ _ h2), fun b nb => ?_⟩
  have e2 := same_new (o := .tup (ws.map V.int).reverse) e1 nb
  have ab : a ≠ b := fun z => by
    rw [← z, upd_same] at nb
    cases nb
  refine w_nil ?_
  have ha : (upd (upd H a (.tup (hs.map V.int).reverse)) b (.tup (ws.map V.int).reverse)) a = some (.tup (hs.reverse.map V.int)) := by
    rw [upd_ne ab, upd_same, map_rev]
  have hb : (upd (upd H a (.tup (hs.map V.int).reverse)) b (.tup (ws.map V.int).reverse)) b = some (.tup (ws.reverse.map V.int)) := by
    rw [upd_same, map_rev]
  refine mk_profR (Q := fun x H' => Q (.ref x) H') (us := [.ref a, .ref b]) (dvs := []) rfl P (.inr ha) (by rw [List.length_reverse]; exact ok.pos) (by rw [List.length_reverse]; exact ok.le) (fun z hz => ok.hh z (List.mem_reverse.mp hz))
    (.inr ⟨b, rfl, .inr hb, by rw [List.length_reverse, List.length_reverse]; exact ok.eq, fun z hz => ok.ww z (List.mem_reverse.mp hz)⟩) fun q H3 nq e3 hq => ?_
  refine k q H3 ?_ (e2.trans e3) hq
  cases z : H q with
  | none => rfl
  | some o =>
    rw [e2 _ _ z] at nq
    cases nq
/-! comprehensions whose items are a function of the place -/
theorem rowS_same {K : PySem.W.Frag} {H H' : Hp} {t : Bool} {a : Addr} {xs : List V} (h : RowS K H t a xs) (e : Same H H') : RowS K H' t a xs := by
  cases t
  · rcases h with (h | ⟨o, h⟩) | h
    · exact .inl (.inl (e _ _ h))
    · exact .inl (.inr ⟨o, e _ _ h⟩)
    · exact .inr h
  · exact sqt_same h e
theorem map_range_succ {g : Nat → Int} {i : Nat} : ((List.range (i + 1)).map g).map V.int = ((List.range i).map g).map V.int ++ [.int (g i)] := by
  rw [List.range_succ, List.map_append, List.map_append]
  rfl
theorem app_lt {n i : Nat} {g : Nat → Int} (hn : n ≤ 1000) (hi : i < n) : (((List.range i).map g).map V.int).length ≤ 100000 := by
  simp
  omega
/-- [e for k in range(n)] -/
theorem w_lcF {σ : L2.St} {H : Hp} {Q : VK} {slot n : Nat} {tr : TA} {te : TE} {g : Nat → Int} (hn : n ≤ 1000) (ha : ∀ AQ : List V → Hp → Prop, AQ [.int (n : Int)] H → tr σ H AQ)
    (hs : ∀ j, j < n → ∀ H1 (Q : VK), Same H H1 → (∀ H2, Same H1 H2 → Q (.int (g j)) H2) → te ((σ.set slot none).set slot (some (.int (j : Int)))) H1 Q)
    (k : ∀ D H1, H D = none → Same H H1 → H1 D = some (.lst (((List.range n).map g).map V.int)) → Q (.ref D) H1) : tLc (iRng1 tr) (gName slot) tYes te [slot] σ H Q := by
  refine w_lcR (n := n) (by omega) ha (fun D acc H' => Same H H' ∧ H D = none ∧ acc.length ≤ n ∧ acc = ((List.range acc.length).map g).map V.int ∧ H' D = some (.lst acc)) (fun D nD => ?_) ?_ ?_
  · exact ⟨same_new (Same.refl H) nD, nD, Nat.zero_le _, rfl, upd_same⟩
  · rintro D acc H1 hl ⟨e, nD, _, hacc, hD⟩
    refine hs acc.length hl H1 _ e fun H2 e2 => ?_
    refine w_app (J := fun D acc H' => Same H H' ∧ H D = none ∧ acc.length ≤ n ∧ acc = ((List.range acc.length).map g).map V.int ∧ H' D = some (.lst acc)) (e2 _ _ hD) (by omega) ?_
    refine ⟨fun c o hc => ?_, nD, by rw [List.length_append]; show acc.length + 1 ≤ n; omega, ?_, upd_same⟩
    · rw [upd_ne (ne_of_none hc nD)]
      exact e2 _ _ (e _ _ hc)
    · rw [List.length_append]
      show acc ++ [V.int (g acc.length)] = ((List.range (acc.length + 1)).map g).map V.int
      rw [map_range_succ, ← hacc]
  · rintro D acc H1 hl ⟨e, nD, _, hacc, hD⟩
    rw [hl] at hacc
    exact k D H1 nD e (by rw [hD, hacc])
theorem w_lct {K : PySem.W.Frag} {σ : L2.St} {H : Hp} {Q : VK} {tl te : TE} {tt : TT} {g : TG} {vs : List Nat} (q : tl σ H fun x H1 => ∃ a, x = .ref a ∧ tLc (iTt K a) g tt te vs σ H1 Q) : tLc (iTup K tl) g tt te vs σ H Q := q
/-- [e for z in t], a tuple of ints at hand -/
theorem w_lcIT {K : PySem.W.Frag} {σ : L2.St} {H : Hp} {Q : VK} {slot : Nat} {te : TE} {g : Int → Int} {t : Addr} {zs : List Int} (hx : SqT K H t (zs.map V.int)) (hlen : zs.length ≤ 1000)
    (hs : ∀ z ∈ zs, ∀ H1 (Q : VK), Same H H1 → (∀ H2, Same H1 H2 → Q (.int (g z)) H2) → te ((σ.set slot none).set slot (some (.int z))) H1 Q)
    (k : ∀ D H1, H D = none → Same H H1 → H1 D = some (.lst ((zs.map g).map V.int)) → Q (.ref D) H1) : tLc (iTt K t) (gName slot) tYes te [slot] σ H Q := by
  refine ⟨⟨_, hx⟩, fun D nD => ?_⟩
  refine lc_tup (xs := zs.map V.int) (fun i H' => Same H H' ∧ H' D = some (.lst (((zs.take i).map g).map V.int))) ⟨same_new (Same.refl H) nD, by rw [List.take_zero]; exact upd_same⟩ (fun i H' _ ⟨e, _⟩ => sqt_same hx e) ?_ ?_
  · rintro i x H' hxi ⟨e, hD⟩
    rw [List.getElem?_map] at hxi
    obtain ⟨z, hz, rfl⟩ := Option.map_eq_some_iff.mp hxi
    have il : i < zs.length := (List.getElem?_eq_some_iff.mp hz).1
    refine ⟨?_, ?_⟩
    · show ((σ.set slot none).set slot _).set slot none = σ.set slot none
      rw [List.set_set, List.set_set]
    · refine w_yes ?_
      refine iteT ?_
      refine hs z (List.mem_of_getElem? hz) H' _ e fun H2 e2 => ?_
      refine ⟨_, e2 _ _ hD, Nat.lt_of_lt_of_le (show (((zs.take i).map g).map V.int).length < 100001 by simp; omega) (by decide), ?_, ?_⟩
      · exact fun c o hc => by
          rw [upd_ne (ne_of_none hc nD)]
          exact e2 _ _ (e _ _ hc)
      · rw [upd_same, List.take_add_one, hz]
        simp
  · rintro H3 ⟨e3, hD⟩
    rw [List.length_map, List.take_length] at hD
    exact k D H3 nD e3 hD
/-- [e for x, y in zip(t, u)], ints -/
theorem w_lcZF {K : PySem.W.Frag} {σ : L2.St} {H : Hp} {Q : VK} {s1 s2 : Nat} {te : TE} {t1 t2 : Bool} {a b : Addr} {xs ys : List Int} {g : Nat → Int} (hx : RowS K H t1 a (xs.map V.int)) (hy : RowS K H t2 b (ys.map V.int)) (he : xs.length = ys.length) (hlen : xs.length ≤ 1000) (hne : s1 ≠ s2)
    (hs : ∀ i, i < xs.length → ∀ H1 (Q : VK), Same H H1 → (∀ H2, Same H1 H2 → Q (.int (g i)) H2) → te (((wipe σ [s1, s2]).set s1 (some (.int (hN xs i)))).set s2 (some (.int (hN ys i)))) H1 Q)
    (k : ∀ D H1, H D = none → Same H H1 → H1 D = some (.lst (((List.range xs.length).map g).map V.int)) → Q (.ref D) H1) : tLc (iAtM K t1 t2 a b) (gTup K 2 (gCons (gName s1) (gCons (gName s2) gNil))) tYes te [s1, s2] σ H Q := by
  refine w_lcZM (J := fun D i acc H' => Same H H' ∧ H D = none ∧ acc = ((List.range i).map g).map V.int ∧ H' D = some (.lst acc)) hx hy (by rw [List.length_map, List.length_map, he]) (fun D nD => ⟨same_new (Same.refl H) nD, nD, rfl, upd_same⟩) (fun D i acc H1 ⟨e, _⟩ => ⟨rowS_same hx e, rowS_same hy e⟩) ?_ ?_
  · rintro D i acc x y T H1 hxi hyi ⟨e, nD, hacc, hD⟩ nT
    rw [List.getElem?_map] at hxi hyi
    obtain ⟨z, hz, rfl⟩ := Option.map_eq_some_iff.mp hxi
    obtain ⟨w', hw, rfl⟩ := Option.map_eq_some_iff.mp hyi
    have il : i < xs.length := (List.getElem?_eq_some_iff.mp hz).1
    have ez : hN xs i = z := by
      unfold hN
      rw [hz]
      rfl
    have ew : hN ys i = w' := by
      unfold hN
      rw [hw]
      rfl
    have e1 := same_new (o := .tup [.int z, .int w']) (Same.refl H1) nT
    refine ⟨T, [.int z, .int w'], rfl, sq_tup upd_same, rfl, _, _, rfl, ?_⟩
    refine ⟨_, _, rfl, rfl, ?_⟩
    refine ⟨?_, ?_⟩
    · show ((((σ.set s2 none).set s1 none).set s1 _).set s2 _ |>.set s2 none).set s1 none = (σ.set s2 none).set s1 none
      rw [List.set_set, List.set_set]
      rw [List.set_comm _ _ hne, List.set_set]
      rw [List.set_set]
    · refine w_yes ?_
      refine iteT ?_
      have q := hs i il (upd H1 T (.tup [.int z, .int w'])) (fun y H4 => ∃ bcc, H4 D = some (.lst bcc) ∧ bcc.length < sizeLine ∧ ∃ ccc, (Same H (upd H4 D (.lst (bcc ++ [y]))) ∧ H D = none ∧ ccc = ((List.range (i + 1)).map g).map V.int ∧ (upd H4 D (.lst (bcc ++ [y]))) D = some (.lst ccc))) (e.trans e1) fun H2 e2 => ?_
      · rw [ez, ew] at q
        exact q
      · refine ⟨acc, e2 _ _ (e1 _ _ hD), Nat.lt_of_lt_of_le (show acc.length < 100001 by rw [hacc]; simp; omega) (by decide), ((List.range (i + 1)).map g).map V.int, ?_, nD, rfl, ?_⟩
        · exact fun c o hc => by
            rw [upd_ne (ne_of_none hc nD)]
            exact e2 _ _ (e1 _ _ (e _ _ hc))
        · rw [upd_same, hacc, map_range_succ]
  · rintro D acc H1 ⟨e, nD, hacc, hD⟩
    rw [List.length_map] at hacc
    exact k D H1 nD e (by rw [hD, hacc])
theorem w_slA {K : PySem.W.Frag} {H : Hp} {Q : VK} {t : Addr} {xs : List V} {lo hi : Option Int} (hT : SqT K H t xs) (k : ∀ x H', Same H H' → SqT K H' x (cutV xs lo hi) → Q (.ref x) H') : rSlA K (.ref t) lo hi H Q := by
  refine ⟨t, _, rfl, hT, ?_, ?_⟩
  · rintro ⟨h1, h2⟩
    have e : cutV xs lo hi = xs := by
      unfold cutV
      rw [h1, h2, List.drop_zero]
      exact List.take_of_length_le (by omega)
    exact k t H (Same.refl H) (by rw [e]; exact hT)
  · exact fun _ p np => k p _ (same_new (Same.refl H) np) (sq_tup upd_same)
theorem op_subO {X : Cx} {CX : CXT} {k : Nat} {sp : Sp} {E : XK} {C : Addr} (c : CalO X.prog X.w X.K X.mg X.base CX k C "__sub__" sp) (oc : OpC X.K C) (hr : Room k X.A) (hx : Passes CX X E) : OpR X (binaryOp .Sub) (rAddO C sp E) := by
  intro pins s σ H x y v u Q I rx ry h
  obtain ⟨a, dx, fs, b, dy, gs, rfl, ha, rfl, hb', q⟩ := h
  cases (show v = Value.ref a from rx)
  cases (show u = Value.ref b from ry)
  obtain ⟨f, fd, F, hs, hf, hb⟩ := c.ex
  obtain ⟨mA, J, _⟩ := ins_get I.hok ha
  obtain ⟨od, J, _⟩ := J.look
  obtain ⟨mB, J', _⟩ := ins_get I.hok hb'
  obtain ⟨od', J', _⟩ := J'.look
  obtain ⟨m, hF⟩ := I.fr
  have go := run2 (y := .ref b) (u := .ref b) F hb hx hr I rfl q
  exact PySem.W.binop_K (op := .Sub) hF I.ok.mod.kin J J'.type oc.sf (by rw [show PySem.dunder (Operator.info .Sub).2 = ("__sub__" : Str) from by decide +kernel]; exact hs) hf go
end Rv
namespace Rv
open PySem PySem.Spec PyProof.Rows L2
/-! the greatest of a row, the surfaces, the volume in the end -/
def mxF (a : Int) : List Int → Int
  | [] => a
  | y :: r => mxF (if a < y then y else a) r
theorem mxF_ge : ∀ (xs : List Int) (a : Int), a ≤ mxF a xs ∧ ∀ y ∈ xs, y ≤ mxF a xs
  | [], a => ⟨Int.le_refl _, fun _ h => nomatch h⟩
  | y :: r, a => by
    obtain ⟨h1, h2⟩ := mxF_ge r (if a < y then y else a)
    unfold mxF
    refine ⟨?_, fun z hz => ?_⟩
    · split at h1 <;> rename_i c
      · rw [if_pos c]
        omega
      · rw [if_neg c]
        exact h1
    · rcases List.mem_cons.mp hz with rfl | hz
      · split at h1 <;> rename_i c
        · rw [if_pos c]
          exact h1
        · rw [if_neg c]
          omega
      · exact h2 z hz
theorem mxF_mem : ∀ (xs : List Int) (a : Int), mxF a xs = a ∨ mxF a xs ∈ xs
  | [], a => .inl rfl
  | y :: r, a => by
    unfold mxF
    rcases mxF_mem r (if a < y then y else a) with h | h
    · rw [h]
      split
      · exact .inr List.mem_cons_self
      · exact .inl rfl
    · exact .inr (List.mem_cons_of_mem _ h)
theorem mxF_app : ∀ (xs : List Int) (a z : Int), mxF a (xs ++ [z]) = if mxF a xs < z then z else mxF a xs
  | [], a, z => rfl
  | y :: r, a, z => by
    show mxF (if a < y then y else a) (r ++ [z]) = _
    rw [mxF_app r]
    rfl
def lfA (hs : List Int) (i : Nat) : Int := mxF (hN hs i) (hs.take i)
def rgA (hs : List Int) (i : Nat) : Int := mxF (hN hs i) (hs.drop i)
theorem mem_take1 {hs : List Int} {i : Nat} (h : i < hs.length) {y : Int} : y ∈ hs.take (i + 1) ↔ y ∈ hs.take i ∨ y = hN hs i := by
  rw [List.take_add_one, List.getElem?_eq_getElem h]
  have e : hN hs i = hs[i] := by
    unfold hN
    rw [List.getElem?_eq_getElem h]
    rfl
  rw [e]
  show y ∈ hs.take i ++ [hs[i]] ↔ _
  rw [List.mem_append, List.mem_singleton]
theorem hN_mem_drop {hs : List Int} {i : Nat} (h : i < hs.length) : hN hs i ∈ hs.drop i := by
  have e : hN hs i = hs[i] := by
    unfold hN
    rw [List.getElem?_eq_getElem h]
    rfl
  rw [e, List.drop_eq_getElem_cons h]
  exact List.mem_cons_self
theorem lfA_uniq {hs : List Int} {i : Nat} (h : i < hs.length) {m : Int} (h1 : m ∈ hs.take (i + 1)) (h2 : ∀ y ∈ hs.take (i + 1), y ≤ m) : m = lfA hs i := by
  obtain ⟨g1, g2⟩ := mxF_ge (hs.take i) (hN hs i)
  have a : m ≤ lfA hs i := by
    rcases (mem_take1 h).mp h1 with z | z
    · exact g2 m z
    · rw [z]
      exact g1
  have b : lfA hs i ≤ m := h2 _ ((mem_take1 h).mpr ((mxF_mem (hs.take i) (hN hs i)).symm))
  omega
theorem rgA_uniq {hs : List Int} {i : Nat} (h : i < hs.length) {m : Int} (h1 : m ∈ hs.drop i) (h2 : ∀ y ∈ hs.drop i, y ≤ m) : m = rgA hs i := by
  obtain ⟨g1, g2⟩ := mxF_ge (hs.drop i) (hN hs i)
  have a : m ≤ rgA hs i := g2 m h1
  have b : rgA hs i ≤ m := by
    rcases mxF_mem (hs.drop i) (hN hs i) with z | z
    · unfold rgA
      rw [z]
      exact h2 _ (hN_mem_drop h)
    · exact h2 _ z
  omega
theorem lfA_in {hs : List Int} {i : Nat} (h : i < hs.length) : lfA hs i ∈ hs ∧ hN hs i ≤ lfA hs i := by
  refine ⟨?_, (mxF_ge _ _).1⟩
  rcases mxF_mem (hs.take i) (hN hs i) with z | z
  · unfold lfA
    rw [z]
    exact hN_mem h
  · exact List.mem_of_mem_take z
theorem rgA_in {hs : List Int} {i : Nat} (h : i < hs.length) : rgA hs i ∈ hs ∧ hN hs i ≤ rgA hs i := by
  refine ⟨?_, (mxF_ge _ _).1⟩
  rcases mxF_mem (hs.drop i) (hN hs i) with z | z
  · unfold rgA
    rw [z]
    exact hN_mem h
  · exact List.mem_of_mem_drop z
def lvA (hs : List Int) (i : Nat) : Int := if rgA hs i < lfA hs i then rgA hs i else lfA hs i
theorem lvA_in {hs : List Int} {i : Nat} (h : i < hs.length) : lvA hs i ∈ hs ∧ hN hs i ≤ lvA hs i := by
  unfold lvA
  split
  · exact rgA_in h
  · exact lfA_in h
def sumN (f : Nat → Int) : Nat → Int
  | 0 => 0
  | n + 1 => sumN f n + f n
theorem sumN_congr {f g : Nat → Int} : ∀ {n : Nat}, (∀ i, i < n → f i = g i) → sumN f n = sumN g n
  | 0, _ => rfl
  | n + 1, h => by
    show sumN f n + f n = sumN g n + g n
    rw [sumN_congr fun i hi => h i (by omega), h n (by omega)]
theorem sumN_front (f : Nat → Int) : ∀ n, sumN f (n + 1) = f 0 + sumN (fun i => f (i + 1)) n
  | 0 => by show 0 + f 0 = f 0 + 0; omega
  | n + 1 => by
    show sumN f (n + 1) + f (n + 1) = f 0 + (sumN (fun i => f (i + 1)) n + f (n + 1))
    rw [sumN_front f n]
    omega
theorem sumN_rev (f : Nat → Int) : ∀ n, sumN (fun i => f (n - 1 - i)) n = sumN f n
  | 0 => rfl
  | n + 1 => by
    rw [sumN_front]
    show f (n + 1 - 1 - 0) + _ = sumN f n + f n
    rw [← sumN_rev f n]
    have e : sumN (fun i => f (n + 1 - 1 - (i + 1))) n = sumN (fun i => f (n - 1 - i)) n := sumN_congr fun i _ => by
      show f (n + 1 - 1 - (i + 1)) = f (n - 1 - i)
      congr 1
      omega
    rw [e]
    show f n + _ = _
    omega
theorem sumN_abs {f : Nat → Int} {M : Nat} : ∀ {n : Nat}, (∀ i, i < n → (f i).natAbs ≤ M) → (sumN f n).natAbs ≤ n * M
  | 0, _ => by simp [sumN]
  | n + 1, h => by
    have a := sumN_abs (n := n) fun i hi => h i (by omega)
    have b := h n (by omega)
    rw [Nat.succ_mul]
    show (sumN f n + f n).natAbs ≤ _
    omega
theorem sum_range (f : Nat → Int) : ∀ n, ((List.range n).map f).sum = sumN f n
  | 0 => rfl
  | n + 1 => by
    rw [List.range_succ, List.map_append, List.sum_append, sum_range f n]
    show _ + (f n + 0) = sumN f n + f n
    omega
def eF (hs ws : List Int) (i : Nat) : Int := hN ws i * (lvA hs i - hN hs i)
/-- the volume in the end -/
def eV (hs ws : List Int) : Int := sumN (eF hs ws) hs.length
theorem eF_abs {hs ws : List Int} (ok : PrOk hs ws) {i : Nat} (h : i < hs.length) : (eF hs ws i).natAbs ≤ 2000000000000000000000000000000000000000000000000000000000000 := by
  have a := hok_sz (ok.hh _ (lvA_in h).1)
  have b := hok_sz (ok.hh _ (hN_mem h))
  have c := wok_sz (ok.ww _ (hN_mem (hs := ws) (i := i) (by rw [ok.eq]; exact h)))
  exact prod_le (A := 1000000000000000000000000000000) (B := 2000000000000000000000000000000) c (by omega)
theorem eV_abs {hs ws : List Int} (ok : PrOk hs ws) : (eV hs ws).natAbs ≤ 120000000000000000000000000000000000000000000000000000000000000 := by
  refine Nat.le_trans (sumN_abs (f := eF hs ws) (n := hs.length) fun i hi => eF_abs ok hi) ?_
  exact Nat.le_trans (Nat.mul_le_mul_right _ ok.le) (by decide)
theorem take_rev {hs : List Int} {i : Nat} (h : i < hs.length) : hs.reverse.take (i + 1) = (hs.drop (hs.length - 1 - i)).reverse := by
  rw [List.take_reverse]
  congr 2
  omega
theorem drop_rev {hs : List Int} {i : Nat} (h : i < hs.length) : hs.reverse.drop i = (hs.take (hs.length - 1 - i + 1)).reverse := by
  rw [List.drop_reverse]
  congr 2
  omega
theorem lfA_rev {hs : List Int} {i : Nat} (h : i < hs.length) : lfA hs.reverse i = rgA hs (hs.length - 1 - i) := by
  have h' : i < hs.reverse.length := by rw [List.length_reverse]; exact h
  have k : hs.length - 1 - i < hs.length := by omega
  refine (lfA_uniq h' ?_ fun y hy => ?_).symm
  · rw [take_rev h, List.mem_reverse]
    rcases mxF_mem (hs.drop (hs.length - 1 - i)) (hN hs (hs.length - 1 - i)) with z | z
    · unfold rgA
      rw [z]
      exact hN_mem_drop k
    · exact z
  · rw [take_rev h, List.mem_reverse] at hy
    exact (mxF_ge _ _).2 y hy
theorem rgA_rev {hs : List Int} {i : Nat} (h : i < hs.length) : rgA hs.reverse i = lfA hs (hs.length - 1 - i) := by
  have h' : i < hs.reverse.length := by rw [List.length_reverse]; exact h
  have k : hs.length - 1 - i < hs.length := by omega
  refine (rgA_uniq h' ?_ fun y hy => ?_).symm
  · rw [drop_rev h, List.mem_reverse]
    exact (mem_take1 k).mpr ((mxF_mem (hs.take (hs.length - 1 - i)) (hN hs (hs.length - 1 - i))).symm)
  · rw [drop_rev h, List.mem_reverse] at hy
    rcases (mem_take1 k).mp hy with z | z
    · exact (mxF_ge _ _).2 y z
    · rw [z]
      exact (mxF_ge _ _).1
theorem lvA_rev {hs : List Int} {i : Nat} (h : i < hs.length) : lvA hs.reverse i = lvA hs (hs.length - 1 - i) := by
  unfold lvA
  rw [lfA_rev h, rgA_rev h]
  split <;> split <;> omega
theorem eV_rev {hs ws : List Int} (e : ws.length = hs.length) : eV hs.reverse ws.reverse = eV hs ws := by
  unfold eV
  rw [List.length_reverse, ← sumN_rev (eF hs ws)]
  refine sumN_congr fun i hi => ?_
  show hN ws.reverse i * (lvA hs.reverse i - hN hs.reverse i) = hN ws (hs.length - 1 - i) * (lvA hs (hs.length - 1 - i) - hN hs (hs.length - 1 - i))
  rw [lvA_rev hi, hN_rev hi, hN_rev (by omega), e]
/-- one column higher -/
def rsA (hs : List Int) (c : Nat) (r : Int) : List Int := hs.set c (hN hs c + r)
theorem rsA_len {hs : List Int} {c : Nat} {r : Int} : (rsA hs c r).length = hs.length := List.length_set
theorem rsA_at {hs : List Int} {c i : Nat} {r : Int} (h : c < hs.length) : hN (rsA hs c r) i = if i = c then hN hs c + r else hN hs i := by
  by_cases z : i = c
  · subst z
    rw [if_pos rfl]
    show ((hs.set i (hN hs i + r))[i]?).getD 0 = _
    rw [List.getElem?_set_self h]
    rfl
  · rw [if_neg z]
    show ((hs.set c (hN hs c + r))[i]?).getD 0 = (hs[i]?).getD 0
    rw [List.getElem?_set_ne (Ne.symm z)]
theorem rsA_rev {hs : List Int} {c : Nat} {r : Int} (h : c < hs.length) : rsA hs.reverse (hs.length - 1 - c) r = (rsA hs c r).reverse := by
  unfold rsA
  rw [hN_rev (by omega)]
  rw [show hs.length - 1 - (hs.length - 1 - c) = c by omega]
  refine List.ext_getElem? fun i => ?_
  by_cases hi : i < hs.length
  · rw [List.getElem?_reverse (by rw [List.length_set]; exact hi), List.length_set]
    by_cases z : i = hs.length - 1 - c
    · rw [z, List.getElem?_set_self (by rw [List.length_reverse]; omega), show hs.length - 1 - (hs.length - 1 - c) = c by omega, List.getElem?_set_self h]
    · rw [List.getElem?_set_ne (Ne.symm z), List.getElem?_set_ne (by omega), List.getElem?_reverse hi]
  · rw [List.getElem?_eq_none (by rw [List.length_set, List.length_reverse]; omega), List.getElem?_eq_none (by rw [List.length_reverse, List.length_set]; omega)]
theorem rsA_zero {hs : List Int} {c : Nat} (h : c < hs.length) : rsA hs c 0 = hs := by
  unfold rsA
  rw [Int.add_zero]
  refine List.ext_getElem? fun i => ?_
  by_cases z : c = i
  · subst z
    rw [List.getElem?_set_self h]
    unfold hN
    rw [List.getElem?_eq_getElem h]
    rfl
  · rw [List.getElem?_set_ne z]
theorem rsA_two {hs : List Int} {c : Nat} {r x : Int} (h : c < hs.length) : rsA (rsA hs c r) c x = rsA hs c (r + x) := by
  have e : hN (rsA hs c r) c = hN hs c + r := by rw [rsA_at h, if_pos rfl]
  show (rsA hs c r).set c (hN (rsA hs c r) c + x) = hs.set c (hN hs c + (r + x))
  rw [e]
  unfold rsA
  rw [List.set_set, Int.add_assoc]
theorem rsA_ok {hs ws : List Int} {c : Nat} {r : Int} (ok : PrOk hs ws) (h : c < hs.length) (k : HOk1 (hN hs c + r)) : PrOk (rsA hs c r) ws := by
  refine ⟨by rw [rsA_len]; exact ok.pos, by rw [rsA_len]; exact ok.le, by rw [rsA_len]; exact ok.eq, fun z hz => ?_, ok.ww⟩
  rcases List.mem_or_eq_of_mem_set hz with q | q
  · exact ok.hh z q
  · rw [q]
    exact k
end Rv
namespace Rv
open PySem PySem.Spec PyProof.Rows L2
def spRais (K : PySem.W.Frag) (C : Addr) : Sp := fun vs H Q _ => ∃ p hs ws, ∃ c : Nat, ∃ r : Int, vs = [.ref p, .int (c : Int), .int r] ∧ PCls K C ∧ ProfAt K C H p hs ws ∧ PrOk hs ws ∧ c < hs.length ∧ 0 ≤ r ∧ r ≤ 1000000000000000000000000000000 ∧ HOk1 (hN hs c + r) ∧ ∀ q H', H q = none → Same H H' → ProfAt K C H' q (rsA hs c r) ws → Q (.ref q) H'
def spEndS (K : PySem.W.Frag) (C : Addr) : Sp := fun vs H Q _ => ∃ p hs ws, vs = [.ref p] ∧ PCls K C ∧ ProfAt K C H p hs ws ∧ PrOk hs ws ∧ ∀ l H', Same H H' → H' l = some (.lst (((List.range hs.length).map (lvA hs)).map V.int)) → Q (.ref l) H'
def spEndV (K : PySem.W.Frag) (CP CR : Addr) : Sp := fun vs H Q _ => ∃ p hs ws, vs = [.ref p] ∧ PCls K CP ∧ RCls K CR ∧ ProfAt K CP H p hs ws ∧ PrOk hs ws ∧ ∀ q H', Same H H' → RatAt CR H' q (eV hs ws) 1 → Q (.ref q) H'
def spGain (K : PySem.W.Frag) (CP CR : Addr) : Sp := fun vs H Q _ => ∃ p hs ws, ∃ c : Nat, ∃ r : Int, vs = [.ref p, .int (c : Int), .int r] ∧ PCls K CP ∧ RCls K CR ∧ ProfAt K CP H p hs ws ∧ PrOk hs ws ∧ c < hs.length ∧ 0 ≤ r ∧ r ≤ 1000000000000000000000000000000 ∧ HOk1 (hN hs c + r) ∧ ∀ q H', Same H H' → RatAt CR H' q (eV (rsA hs c r) ws - eV hs ws) 1 → Q (.ref q) H'
def spHts66 (K : PySem.W.Frag) : Sp := fun vs H Q _ => ∃ d c, vs = [.ref d] ∧ DrawsAt H d c ∧
  ∀ p H' (hs : List Int), 1 ≤ hs.length → hs.length ≤ 60 → (∀ z ∈ hs, -100000000000000000000000000000 ≤ z ∧ z ≤ 100000000000000000000000000000) → But d H H' → DrawsAt H' d c → H p = none → H' p = some (.lst (hs.map V.int)) → Q (.ref p) H'
def spLEnd (K : PySem.W.Frag) : Sp := fun vs H Q _ => ∃ a b hs ws, vs = [.ref a, .ref b] ∧ H a = some (.lst (hs.map V.int)) ∧ H b = some (.lst (ws.map V.int)) ∧ PrOk hs ws ∧ ∀ H', Same H H' → Q (.int (eV hs ws)) H'
def spIs66 (K : PySem.W.Frag) (C : Addr) : Sp := fun vs H Q _ => ∃ q n t b, vs = [.ref q, .int n] ∧ RCls K C ∧ RatAt C H q t b ∧ Q (.bl (decide (b = 1) && decide (t = n))) H
def spLaw66 (K : PySem.W.Frag) (CP CR : Addr) : Sp := fun vs H Q _ => ∃ (a : Addr) (ns : List Int), vs = [.ref a] ∧ SqL K H a (ns.map V.int) ∧ PCls K CP ∧ RCls K CR ∧ ∀ H', Q (.bl true) H'
def t_Profile_raised (K : PySem.W.Frag) (C_Profile : Addr) : TS :=
  (tSeq (tIfS (tNot (tB (tCall (spWithin K) [] E0 (tCons (tVar 1) (tCons (tC (.int 0)) (tCons (tOp oSub (tCB (cLenO C_Profile (spPLen K C_Profile) E0) (tCons (tVar 0) tNil)) (tC (.int 1))) tNil)))))) tNever tNext)
    (tSeq (tIfS (tNot (tB (tCall (spWithin K) [] E0 (tCons (tVar 2) (tCons (tC (.int 0)) (tCons (tC (.int 1000000000000000000000000000000)) tNil)))))) tNever tNext)
    (tSeq (tAsg (tCB (cList K) (tCons (tFld K (tVar 0) "column_heights") tNil)) (gName 3))
    (tSeq (tAsg (tOp oAdd (tOp (rIxL K) (tVar 3) (tVar 1)) (tVar 2)) (gSub (tVar 3) (tVar 1) rSetL))
    (tRet (tCall (spGrown K C_Profile) [] E0 (tCons (tVar 3) (tCons (tFld K (tVar 0) "column_widths") tNil))))))))
def t_end_surfaces (K : PySem.W.Frag) (C_Profile : Addr) : TS :=
  (tSeq (tAsg (tProp C_Profile (getSp C_Profile "column_heights") [] E0 (tVar 0)) (gName 1))
    (tSeq (tAsg (tCB (cLen K) (tCons (tVar 1) tNil)) (gName 2))
    (tSeq (tAsg (tLc (iRng1 (tCons (tVar 2) tNil)) (gName 5) tYes (tCB (rMax K) (tCons (tLc (iTup K (tSl (rSlA K) (tVar 1) tNoPart (tPart (tOp oAdd (tVar 5) (tC (.int 1)))))) (gName 6) tYes (tCB cInt (tCons (tVar 6) tNil)) [6]) tNil)) [5]) (gName 3))
    (tSeq (tAsg (tLc (iRng1 (tCons (tVar 2) tNil)) (gName 5) tYes (tCB (rMax K) (tCons (tLc (iTup K (tSl (rSlA K) (tVar 1) (tPart (tVar 5)) tNoPart)) (gName 6) tYes (tCB cInt (tCons (tVar 6) tNil)) [6]) tNil)) [5]) (gName 4))
    (tRet (tLc (iZipM K false false (tCons (tVar 3) (tCons (tVar 4) tNil))) (gTup K 2 (gCons (gName 7) (gCons (gName 8) gNil))) tYes (tCB cMin2 (tCons (tCB cInt (tCons (tVar 7) tNil)) (tCons (tVar 8) tNil))) [7, 8]))))))
def t_end_volume (K : PySem.W.Frag) (C_Profile : Addr) (C_Ratio : Addr) : TS :=
  (tSeq (tAsg (tLc (iZipM K false true (tCons (tCall (spEndS K C_Profile) [] E0 (tCons (tVar 0) tNil)) (tCons (tProp C_Profile (getSp C_Profile "column_heights") [] E0 (tVar 0)) tNil))) (gTup K 2 (gCons (gName 2) (gCons (gName 3) gNil))) tYes (tOp oSub (tVar 2) (tVar 3)) [2, 3]) (gName 1))
    (tRet (tMake C_Ratio (spRInit K C_Ratio) [.int 1] E0 (tCons (tCB (rSum K) (tCons (tLc (iZipM K true false (tCons (tProp C_Profile (getSp C_Profile "column_widths") [] E0 (tVar 0)) (tCons (tVar 1) tNil))) (gTup K 2 (gCons (gName 4) (gCons (gName 5) gNil))) tYes (tOp oMulW (tVar 4) (tVar 5)) [4, 5]) tNil)) tNil))))
def t_dam_gain (K : PySem.W.Frag) (C_Profile : Addr) (C_Ratio : Addr) : TS :=
  (tSeq (tAsg (tMeth C_Profile "raised" (spRais K C_Profile) [] E0 (tVar 0) (tCons (tVar 1) (tCons (tVar 2) tNil))) (gName 3))
    (tRet (tOp (rAddO C_Ratio (spSub K C_Ratio) E0) (tCall (spEndV K C_Profile C_Ratio) [] E0 (tCons (tVar 3) tNil)) (tCall (spEndV K C_Profile C_Ratio) [] E0 (tCons (tVar 0) tNil)))))
def t__law_heights66 (K : PySem.W.Frag) : TS :=
  (tSeq (tAsg (tOp oAdd (tC (.int 1)) (tCall (spDraw K) [] E0 (tCons (tVar 0) (tCons (tOp (rIxL K) (tLst (tCons (tC (.int 9)) (tCons (tC (.int 60)) tNil))) (tCB cInt (tCons (tOp rEq (tCall (spDraw K) [] E0 (tCons (tVar 0) (tCons (tC (.int 4)) tNil))) (tC (.int 3))) tNil))) tNil)))) (gName 1))
    (tSeq (tAsg (tOp (rIxL K) (tLst (tCons (tC (.int 2)) (tCons (tC (.int 7)) (tCons (tOp oPow (tC (.int 10)) (tC (.int 6))) (tCons (tOp oPow (tC (.int 10)) (tC (.int 29))) tNil))))) (tCall (spDraw K) [] E0 (tCons (tVar 0) (tCons (tC (.int 4)) tNil)))) (gName 2))
    (tRet (tLc (iRng1 (tCons (tVar 1) tNil)) (gName 3) tYes (tOp oSub (tCall (spDraw K) [] E0 (tCons (tVar 0) (tCons (tOp oAdd (tOp oMul (tC (.int 2)) (tVar 2)) (tC (.int 1))) tNil))) (tVar 2)) [3]))))
def t__law_end (K : PySem.W.Frag) : TS :=
  (tSeq (tAsg (tC (.int 0)) (gName 2))
    (tSeq (tFor (iRng1 (tCons (tCB (cLen K) (tCons (tVar 0) tNil)) tNil)) (gName 3) (tSeq (tAsg (tOp (rIxL K) (tVar 0) (tVar 3)) (gName 4))
    (tSeq (tFor (iList K (tSl (rSlL K) (tVar 0) tNoPart (tPart (tVar 3)))) (gName 5) (tIfS (tTest (tOp oGt (tVar 5) (tVar 4))) (tAsg (tVar 5) (gName 4)) tNext))
    (tSeq (tAsg (tOp (rIxL K) (tVar 0) (tVar 3)) (gName 6))
    (tSeq (tFor (iList K (tSl (rSlL K) (tVar 0) (tPart (tVar 3)) tNoPart)) (gName 5) (tIfS (tTest (tOp oGt (tVar 5) (tVar 6))) (tAsg (tVar 5) (gName 6)) tNext))
    (tSeq (tIfS (tTest (tOp oLt (tVar 6) (tVar 4))) (tAsg (tVar 6) (gName 4)) tNext)
    (tAsg (tOp oAdd (tVar 2) (tOp oMulW (tOp (rIxL K) (tVar 1) (tVar 3)) (tOp oSub (tVar 4) (tOp (rIxL K) (tVar 0) (tVar 3))))) (gName 2))))))))
    (tRet (tVar 2))))
def t__law_is66 (K : PySem.W.Frag) (C_Ratio : Addr) : TS :=
  (tRet (tAndV (tCB (rIsi K) (tCons (tVar 0) (tCons (tC (.ref C_Ratio)) tNil))) (tAndV (tOp rEq (tProp C_Ratio (getSp C_Ratio "reduced_bottom") [] E0 (tVar 0)) (tC (.int 1))) (tOp rEq (tProp C_Ratio (getSp C_Ratio "reduced_top") [] E0 (tVar 0)) (tVar 1)))))
def t_law66b (K : PySem.W.Frag) (C_Profile : Addr) (C_Ratio : Addr) : TS :=
  (tSeq (tAsg (tCall (spDraw K) [] E0 (tCons (tVar 1) (tCons (tCB (cLen K) (tCons (tVar 2) tNil)) tNil))) (gName 7))
    (tSeq (tAsg (tCall (spDraw K) [] E0 (tCons (tVar 1) (tCons (tOp (rIxL K) (tLst (tCons (tC (.int 2)) (tCons (tC (.int 5)) (tCons (tOp oPow (tC (.int 10)) (tC (.int 6))) (tCons (tOp oPow (tC (.int 10)) (tC (.int 29))) tNil))))) (tCall (spDraw K) [] E0 (tCons (tVar 1) (tCons (tC (.int 4)) tNil)))) tNil))) (gName 8))
    (tSeq (tAsg (tCall (spDraw K) [] E0 (tCons (tVar 1) (tCons (tC (.int 10)) tNil))) (gName 9))
    (tSeq (tAsg (tCB (cList K) (tCons (tVar 2) tNil)) (gName 10))
    (tSeq (tAsg (tOp oAdd (tOp (rIxL K) (tVar 10) (tVar 7)) (tVar 8)) (gSub (tVar 10) (tVar 7) rSetL))
    (tSeq (tAsg (tCB (cList K) (tCons (tVar 10) tNil)) (gName 11))
    (tSeq (tAsg (tOp oAdd (tOp (rIxL K) (tVar 11) (tVar 7)) (tVar 9)) (gSub (tVar 11) (tVar 7) rSetL))
    (tSeq (tAsg (tOp oSub (tCall (spLEnd K) [] E0 (tCons (tVar 10) (tCons (tVar 3) tNil))) (tVar 5)) (gName 12))
    (tSeq (tIfS (tOr (tNot (tB (tCall (spIs66 K C_Ratio) [] E0 (tCons (tCall (spGain K C_Profile C_Ratio) [] E0 (tCons (tVar 4) (tCons (tVar 7) (tCons (tVar 8) tNil)))) (tCons (tVar 12) tNil))))) (tNot (tB (tCall (spIs66 K C_Ratio) [] E0 (tCons (tCall (spGain K C_Profile C_Ratio) [] E0 (tCons (tVar 4) (tCons (tVar 7) (tCons (tC (.int 0)) tNil)))) (tCons (tC (.int 0)) tNil)))))) (tRet (tC (.bl false))) tNext)
    (tSeq (tAsg (tOp oSub (tCall (spLEnd K) [] E0 (tCons (tVar 11) (tCons (tVar 3) tNil))) (tVar 5)) (gName 13))
    (tSeq (tIfS (tNot (tB (tCall (spIs66 K C_Ratio) [] E0 (tCons (tCall (spGain K C_Profile C_Ratio) [] E0 (tCons (tVar 4) (tCons (tVar 7) (tCons (tOp oAdd (tVar 8) (tVar 9)) tNil)))) (tCons (tVar 13) tNil))))) (tRet (tC (.bl false))) tNext)
    (tSeq (tIfS (tNot (tB (tCall (spIs66 K C_Ratio) [] E0 (tCons (tCall (spGain K C_Profile C_Ratio) [] E0 (tCons (tMeth C_Profile "raised" (spRais K C_Profile) [] E0 (tVar 4) (tCons (tVar 7) (tCons (tVar 8) tNil))) (tCons (tVar 7) (tCons (tVar 9) tNil)))) (tCons (tOp oSub (tVar 13) (tVar 12)) tNil))))) (tRet (tC (.bl false))) tNext)
    (tIfS (tNot (tB (tCall (spIs66 K C_Ratio) [] E0 (tCons (tCall (spGain K C_Profile C_Ratio) [] E0 (tCons (tMeth C_Profile "mirrored" (spMirr K C_Profile) [] E0 (tVar 4) tNil) (tCons (tOp oSub (tOp oSub (tCB (cLen K) (tCons (tVar 2) tNil)) (tC (.int 1))) (tVar 7)) (tCons (tVar 8) tNil)))) (tCons (tVar 12) tNil))))) (tRet (tC (.bl false))) tNext)))))))))))))
def t_law66 (K : PySem.W.Frag) (C_Profile : Addr) (C_Ratio : Addr) : TS :=
  (tSeq (tAsg (tCall (spDraws K) [] E0 (tCons (tVar 0) tNil)) (gName 1))
    (tSeq (tAsg (tCall (spHts66 K) [] E0 (tCons (tVar 1) tNil)) (gName 2))
    (tSeq (tAsg (tCall (spWidths K) [] E0 (tCons (tVar 1) (tCons (tCB (cLen K) (tCons (tVar 2) tNil)) tNil))) (gName 3))
    (tSeq (tAsg (tMake C_Profile (spInit K C_Profile) [] E0 (tCons (tVar 2) (tCons (tVar 3) tNil))) (gName 4))
    (tSeq (tAsg (tCall (spLEnd K) [] E0 (tCons (tVar 2) (tCons (tVar 3) tNil))) (gName 5))
    (tSeq (tFor (iRng1 (tCons (tOp oAdd (tC (.int 1)) (tCall (spDraw K) [] E0 (tCons (tVar 1) (tCons (tC (.int 4)) tNil)))) tNil)) (gName 6) (t_law66b K C_Profile C_Ratio))
    (tRet (tOp (rEqG (DIns C_Profile (PEq K C_Profile))) (tVar 4) (tMake C_Profile (spInit K C_Profile) [] E0 (tCons (tVar 2) (tCons (tVar 3) tNil)))))))))))
local macro_rules | `(tactic| walk_at "rv st") => `(tactic| first
  | with_reducible refine iteT ?_ | with_reducible refine iteF ?_ | with_reducible refine w_nx ?_ | with_reducible refine w_yes ?_ | with_reducible refine w_rt ?_ | with_reducible refine iteNT ?_ | with_reducible refine iteNF ?_ | with_reducible refine iteNRf ?_ | with_reducible refine iteRf ?_ | with_reducible refine w_seqA ?_ | with_reducible refine w_seqD ?_ | with_reducible refine w_seqP ?_ | with_reducible refine w_asg ?_ | with_reducible refine w_ret ?_ | with_reducible refine w_drop ?_ | with_reducible refine w_ifs ?_ | with_reducible refine w_next ?_ | with_reducible refine w_par ?_
  | with_reducible refine w_op ?_ | with_reducible refine w_un ?_ | ((with_reducible show tVar _ _ _ _); refine' w_var ?hv ?_; (case hv => exact rfl)) | with_reducible refine w_c ?_ | with_reducible refine w_test ?_ | with_reducible refine w_tB ?_
  | with_reducible refine w_bl ?_ | with_reducible refine w_I0 ?_ | with_reducible refine w_U ?_ | with_reducible refine w_eqI ?_ | with_reducible refine w_neI ?_
  | with_reducible refine w_cons ?_ | with_reducible refine w_nil ?_ | with_reducible refine w_gn ?_ | with_reducible refine w_gsub ?_ | with_reducible refine w_and ?_ | with_reducible refine w_or ?_ | with_reducible refine w_not ?_
  | with_reducible refine w_andV ?_ | with_reducible refine w_orV ?_ | with_reducible refine w_notV ?_ | with_reducible refine w_if ?_ | with_reducible refine w_cb ?_ | with_reducible refine w_call ?_ | with_reducible refine w_lst ?_ | with_reducible refine w_tup ?_
  | with_reducible refine w_sl ?_ | with_reducible refine w_noPart ?_ | with_reducible refine w_part ?_ | with_reducible refine w_ex1 ?_ | with_reducible refine w_exb ?_ | with_reducible refine w_intB ?_ | with_reducible refine w_intI ?_ | with_reducible refine w_abs ?_)
local macro_rules | `(tactic| walk_at "rv ix") => `(tactic| ((with_reducible show rIxL _ _ _ _ _); refine' w_ixL (sq_lst ?ha) ?hb ?_; (case ha => first | exact upd_same | assumption); (case hb => first | exact rfl | assumption)))
local macro_rules | `(tactic| walk_at "rv ar") => `(tactic| first
  | (refine' w_I ?hc ?_; (case hc => first | (show (0 : Int) < _; first | assumption | decide | omega) | exact pow_c (by decide) (by decide) (by first | decide | omega) (by first | decide | omega) | exact mul_r (by first | decide | omega) (by first | decide | omega) | exact mul_l (by first | decide | omega) (by first | decide | omega) | exact divw (by first | assumption | decide | omega) (by first | assumption | decide | omega))))
local macro_rules | `(tactic| walk_at "rv go") => `(tactic| repeat first | walk_at "rv st" | walk_at "rv ix" | ((with_reducible show rI _ _ _ _ _ _); walk_at "rv ar"))
theorem sq_either {K : PySem.W.Frag} {H : Hp} {a : Addr} {xs : List V} (h : RowAt K H a xs) : SqL K H a xs ∨ SqT K H a xs := h.elim (fun h => .inl (sq_lst h)) fun h => .inr (sq_tup h)
theorem list_callR {K : PySem.W.Frag} {H : Hp} {Q : VK} {a : Addr} {xs : List V} (h : RowAt K H a xs) (k : ∀ l, H l = none → Q (.ref l) (upd H l (.lst xs))) : cList K [.ref a] H Q := ⟨a, xs, rfl, sq_either h, k⟩
theorem map_set (xs : List Int) (c : Nat) (z : Int) : (xs.map V.int).set c (.int z) = (xs.set c z).map V.int := by rw [List.map_set]
theorem ixN_nat {n i : Nat} (h : i < n) : ixN n (i : Int) = some i := by
  unfold ixN
  rw [if_pos (by omega), if_pos (by omega), Int.toNat_natCast]
theorem p_rais {K : PySem.W.Frag} {C : Addr} {vs : List V} {H : Hp} {Q : VK} {E : XK} (h : spRais K C vs H Q E) : t_Profile_raised K C { nx := fun _ H' => Q .non H', rt := Q } (start ["self", "column", "height", "heights"] vs) H := by
  obtain ⟨p, hs, ws, c, r, rfl, P, hp, ok, hc, r0, r1, hk, k⟩ := h
  obtain ⟨dx, t1, t2, h0, h1, h2⟩ := id hp
  unfold t_Profile_raised
  have l60 := ok.le
  refine w_seq ?_
  walk_at "rv go"
  refine w_lenO h0 ?_
  refine ⟨p, hs, ws, rfl, P, hp, _, rfl, by omega, ?_⟩
  walk_at "rv go"
  refine ⟨.int c, 0, _, rfl, .int c, ?_⟩
  have e1 : inI 0 ((hs.length : Int) - 1) (.int (c : Int)) = true := by
    show (decide ((0 : Int) ≤ (c : Int)) && decide ((c : Int) ≤ (hs.length : Int) - 1)) = true
    rw [decide_eq_true (show (0 : Int) ≤ (c : Int) by omega), decide_eq_true (show (c : Int) ≤ (hs.length : Int) - 1 by omega)]
    rfl
  rw [e1]
  walk_at "rv go"
  refine w_seq ?_
  walk_at "rv go"
  refine ⟨.int r, 0, 1000000000000000000000000000000, rfl, .int r, ?_⟩
  have e2 : inI 0 1000000000000000000000000000000 (.int r) = true := by
    show (decide _ && decide _) = true
    rw [decide_eq_true r0, decide_eq_true r1]
    rfl
  rw [e2]
  walk_at "rv go"
  refine w_fld rfl h0 P.cl P.nH (pfl_h _ _) ?_
  walk_at "rv go"
  refine list_callR (.inr h1) fun l nl => ?_
  walk_at "rv go"
  refine w_ixL (sq_lst upd_same) (at_hN hc) ?_
  walk_at "rv go"
  refine w_setL (xs := hs.map V.int) (j := c) upd_same (by rw [List.length_map]; exact ixN_nat hc) ?_
  rw [map_set]
  have eS : Same H (upd (upd H l (.lst (hs.map V.int))) l (.lst ((hs.set c (hN hs c + r)).map V.int))) := fun b o hb => by
    have n : b ≠ l := ne_of_none hb nl
    rw [upd_ne n, upd_ne n]
    exact hb
  walk_at "rv go"
  refine w_fld rfl (eS _ _ h0) P.cl P.nW (pfl_w _ _) ?_
  walk_at "rv go"
  refine ⟨l, t2, rsA hs c r, ws, rfl, P, .inl upd_same, .inr (eS _ _ h2), rsA_ok ok hc hk, fun q H3 nq e3 hq => ?_⟩
  refine k q H3 ?_ (eS.trans e3) hq
  cases z : H q with
  | none => rfl
  | some o =>
    rw [eS _ _ z] at nq
    cases nq
theorem w_maxI {K : PySem.W.Frag} {H : Hp} {Q : VK} {a : Addr} {ns : List Int} {m : Int} (h : H a = some (.lst (ns.map V.int))) (hp : 0 < ns.length) (u : ∀ z, z ∈ ns → (∀ y ∈ ns, y ≤ z) → z = m) (q : Q (.int m) H) : rMax K [.ref a] H Q :=
  ⟨a, ns, rfl, sq_lst h, hp, fun z hz hy => by rw [u z hz hy]; exact q⟩
theorem cut_preN {xs : List Int} {n : Nat} (h : n + 1 ≤ xs.length) : cutV (xs.map V.int) none (some ((n : Int) + 1)) = (xs.take (n + 1)).map V.int := by
  rw [show (n : Int) + 1 = ((n + 1 : Nat) : Int) by omega]
  exact cut_pre h
theorem map_id' (zs : List Int) : zs.map (fun z => z) = zs := by simp
theorem p_endS {K : PySem.W.Frag} {C : Addr} {vs : List V} {H : Hp} {Q : VK} {E : XK} (h : spEndS K C vs H Q E) : t_end_surfaces K C { nx := fun _ H' => Q .non H', rt := Q } (start ["profile", "heights", "many", "left", "right", "column", "height", "one", "other"] vs) H := by
  obtain ⟨p, hs, ws, rfl, P, ⟨dx, t1, t2, h0, h1, h2⟩, ok, k⟩ := h
  unfold t_end_surfaces
  have l60 := ok.le
  have l1 := ok.pos
  walk_at "rv go"
  refine w_prop rfl h0 ?_
  refine ⟨p, dx, _, _, rfl, h0, pfl_h _ _, ?_⟩
  walk_at "rv go"
  refine w_lenT (sq_tup h1) ?_
  rw [List.length_map]
  walk_at "rv go"
  refine w_lcF (g := lfA hs) (n := hs.length) (by omega) (fun AQ q => by walk_at "rv go"; exact q) (fun j hj H1 Q1 e1 q => ?_) fun D1 H1 nD1 e1 hD1 => ?_
  · walk_at "rv go"
    refine w_lct ?_
    walk_at "rv go"
    refine w_slA (sq_tup (e1 _ _ h1)) fun x H2 e2 hx => ?_
    rw [cut_preN (by omega)] at hx
    refine ⟨x, rfl, ?_⟩
    refine w_lcIT (g := fun z => z) hx (by rw [List.length_take]; omega) (fun z hz H3 Q3 e3 q3 => ?_) fun D H3 nD e3 hD => ?_
    · walk_at "rv go"
      exact q3 H3 (Same.refl _)
    · rw [map_id'] at hD
      walk_at "rv go"
      refine w_maxI hD (by rw [List.length_take]; omega) (fun z hz hy => lfA_uniq hj hz hy) ?_
      exact q H3 (e2.trans e3)
  walk_at "rv go"
  refine w_lcF (g := rgA hs) (n := hs.length) (by omega) (fun AQ q => by walk_at "rv go"; exact q) (fun j hj H2 Q1 e2 q => ?_) fun D2 H2 nD2 e2 hD2 => ?_
  · walk_at "rv go"
    refine w_lct ?_
    walk_at "rv go"
    refine w_slA (sq_tup (e2 _ _ (e1 _ _ h1))) fun x H3 e3 hx => ?_
    rw [cut_suf (by omega)] at hx
    refine ⟨x, rfl, ?_⟩
    refine w_lcIT (g := fun z => z) hx (by rw [List.length_drop]; omega) (fun z hz H4 Q3 e4 q3 => ?_) fun D H4 nD e4 hD => ?_
    · walk_at "rv go"
      exact q3 H4 (Same.refl _)
    · rw [map_id'] at hD
      walk_at "rv go"
      refine w_maxI hD (by rw [List.length_drop]; omega) (fun z hz hy => rgA_uniq hj hz hy) ?_
      exact q H4 (e3.trans e4)
  walk_at "rv go"
  refine w_lczm ?_
  walk_at "rv go"
  refine ⟨D1, D2, rfl, ?_⟩
  refine w_lcZF (t1 := false) (t2 := false) (xs := (List.range hs.length).map (lfA hs)) (ys := (List.range hs.length).map (rgA hs)) (g := lvA hs) (sq_lst (e2 _ _ hD1)) (sq_lst hD2) (by simp) (by simp; omega) (by decide) (fun i hi H3 Q3 e3 q3 => ?_) fun D H3 nD e3 hD => ?_
  · rw [List.length_map, List.length_range] at hi
    have g1 : hN ((List.range hs.length).map (lfA hs)) i = lfA hs i := by
      unfold hN
      rw [List.getElem?_map, List.getElem?_range hi]
      rfl
    have g2 : hN ((List.range hs.length).map (rgA hs)) i = rgA hs i := by
      unfold hN
      rw [List.getElem?_map, List.getElem?_range hi]
      rfl
    rw [g1, g2]
    walk_at "rv go"
    exact ⟨_, _, rfl, q3 H3 (Same.refl _)⟩
  · rw [List.length_map, List.length_range] at hD
    exact k D H3 ((e1.trans e2).trans e3) hD
theorem hN_range {g : Nat → Int} {n i : Nat} (h : i < n) : hN ((List.range n).map g) i = g i := by
  unfold hN
  rw [List.getElem?_map, List.getElem?_range h]
  rfl
theorem p_endV {K : PySem.W.Frag} {CP CR : Addr} {vs : List V} {H : Hp} {Q : VK} {E : XK} (h : spEndV K CP CR vs H Q E) : t_end_volume K CP CR { nx := fun _ H' => Q .non H', rt := Q } (start ["profile", "depths", "surface", "height", "width", "depth"] vs) H := by
  obtain ⟨p, hs, ws, rfl, P, R, hp, ok, k⟩ := h
  obtain ⟨dx, t1, t2, h0, h1, h2⟩ := id hp
  unfold t_end_volume
  have l60 := ok.le
  have lw := ok.eq
  walk_at "rv go"
  refine w_lczm ?_
  walk_at "rv go"
  refine ⟨p, hs, ws, rfl, P, hp, ok, fun l H1 e1 hl => ?_⟩
  walk_at "rv go"
  refine w_prop rfl (e1 _ _ h0) ?_
  refine ⟨p, dx, _, _, rfl, e1 _ _ h0, pfl_h _ _, ?_⟩
  walk_at "rv go"
  refine ⟨l, t1, rfl, ?_⟩
  refine w_lcZF (t1 := false) (t2 := true) (xs := (List.range hs.length).map (lvA hs)) (ys := hs) (g := fun i => lvA hs i - hN hs i) (sq_lst hl) (sq_tup (e1 _ _ h1)) (by simp) (by simp; omega) (by decide) (fun i hi H3 Q3 e3 q3 => ?_) fun D H3 nD e3 hD => ?_
  · rw [List.length_map, List.length_range] at hi
    rw [hN_range hi]
    walk_at "rv go"
    exact q3 H3 (Same.refl _)
  rw [List.length_map, List.length_range] at hD
  have e13 := e1.trans e3
  walk_at "rv go"
  refine w_make ?_
  walk_at "rv go"
  refine w_lczm ?_
  walk_at "rv go"
  refine w_prop rfl (e13 _ _ h0) ?_
  refine ⟨p, dx, _, _, rfl, e13 _ _ h0, pfl_w _ _, ?_⟩
  walk_at "rv go"
  refine ⟨t2, D, rfl, ?_⟩
  refine w_lcZF (t1 := true) (t2 := false) (xs := ws) (ys := (List.range hs.length).map fun i => lvA hs i - hN hs i) (g := eF hs ws) (sq_tup (e13 _ _ h2)) (sq_lst hD) (by simp; omega) (by omega) (by decide) (fun i hi H4 Q4 e4 q4 => ?_) fun D2 H4 nD2 e4 hD2 => ?_
  · rw [hN_range (by omega)]
    have b1 := wok_sz (ok.ww _ (hN_mem hi))
    have b2 := hok_sz (ok.hh _ (lvA_in (hs := hs) (i := i) (by omega)).1)
    have b3 := hok_sz (ok.hh _ (hN_mem (hs := hs) (i := i) (by omega)))
    walk_at "rv go"
    refine w_I (mulw (sz_lit (k := 100) b1) (sz_lit (k := 102) (M := 2000000000000000000000000000000) (by omega)) (by decide) (by decide) (by decide)) ?_
    exact q4 H4 (Same.refl _)
  rw [lw] at hD2
  walk_at "rv go"
  refine ⟨D2, _, rfl, sq_lst hD2, ?_⟩
  rw [sum_range]
  walk_at "rv go"
  refine mk_rat (us := [.int (sumN (eF hs ws) hs.length)]) (dvs := [.int 1]) rfl R (by decide) ((sz_lit (k := 4) (M := 1) (by decide)).mono (by decide)) fun x H5 t b e5 rd hx => ?_
  obtain ⟨rfl, rfl⟩ := rd.one
  exact k x H5 ((e13.trans e4).trans e5) hx
theorem p_gain {K : PySem.W.Frag} {CP CR : Addr} {vs : List V} {H : Hp} {Q : VK} {E : XK} (h : spGain K CP CR vs H Q E) : t_dam_gain K CP CR { nx := fun _ H' => Q .non H', rt := Q } (start ["profile", "column", "height", "raised"] vs) H := by
  obtain ⟨p, hs, ws, c, r, rfl, P, R, hp, ok, hc, r0, r1, hk, k⟩ := h
  obtain ⟨dx, t1, t2, h0, h1, h2⟩ := id hp
  unfold t_dam_gain
  walk_at "rv go"
  refine w_meth ?_
  walk_at "rv go"
  refine ⟨p, dx, _, rfl, h0, pfl_none _ _ (by decide +kernel) (by decide +kernel), ?_⟩
  walk_at "rv go"
  refine ⟨p, hs, ws, c, r, rfl, P, hp, ok, hc, r0, r1, hk, fun q H1 nq e1 hq => ?_⟩
  walk_at "rv go"
  have okr := rsA_ok ok hc hk
  refine ⟨q, rsA hs c r, ws, rfl, P, R, hq, okr, fun x H2 e2 hx => ?_⟩
  walk_at "rv go"
  refine ⟨p, hs, ws, rfl, P, R, (hp.same e1).same e2, ok, fun y H3 e3 hy => ?_⟩
  have hx3 := hx.same e3
  obtain ⟨_, dx1, hx'⟩ := id hx3
  obtain ⟨_, dx2, hy'⟩ := id hy
  refine ⟨x, dx1, _, y, dx2, _, rfl, hx', rfl, hy', ?_⟩
  have s1 : Sz 300 (1 : Int) := sz_lit (M := 1) (by decide)
  have s2 : Sz 300 (eV (rsA hs c r) ws) := sz_lit (eV_abs okr)
  have s3 : Sz 300 (eV hs ws) := sz_lit (eV_abs ok)
  refine ⟨x, .ref y, _, 1, _, 1, rfl, R, hx3, .inr ⟨y, rfl, hy⟩, s2.mono (by decide), s1.mono (by decide), s3.mono (by decide), s1.mono (by decide), fun q4 H4 u v e4 hq4 rd => ?_⟩
  rw [Int.mul_one] at rd
  obtain ⟨rfl, rfl⟩ := rd.one
  have e5 : eV (rsA hs c r) ws * 1 - eV hs ws * 1 = eV (rsA hs c r) ws - eV hs ws := by omega
  replace hq4 : RatAt CR H4 q4 (eV (rsA hs c r) ws * 1 - eV hs ws * 1) 1 := hq4
  rw [e5] at hq4
  exact k q4 H4 (((e1.trans e2).trans e3).trans e4) hq4
theorem p_is66 {K : PySem.W.Frag} {C : Addr} {vs : List V} {H : Hp} {Q : VK} {E : XK} (h : spIs66 K C vs H Q E) : t__law_is66 K C { nx := fun _ H' => Q .non H', rt := Q } (start ["_law_value", "_law_number"] vs) H := by
  obtain ⟨q, n, t, b, rfl, R, hq, k⟩ := h
  obtain ⟨lw, dx, hq'⟩ := id hq
  unfold t__law_is66
  walk_at "rv go"
  refine isi_of (.own C) (.base (.ins hq' R.cl R.cA R.cG R.cT R.cM)) kit_self ?_
  walk_at "rv go"
  refine w_prop rfl hq' ?_
  refine ⟨q, dx, _, _, rfl, hq', rfl2_b _ _, ?_⟩
  walk_at "rv go"
  by_cases z : b = 1
  · rw [decide_eq_true z, Bool.true_and] at k
    rw [decide_eq_true z]
    walk_at "rv go"
    refine w_prop rfl hq' ?_
    refine ⟨q, dx, _, _, rfl, hq', rfl2_t _ _, ?_⟩
    walk_at "rv go"
    exact k
  · rw [decide_eq_false z, Bool.false_and] at k
    rw [decide_eq_false z]
    walk_at "rv go"
    exact k
theorem p_hts66 {K : PySem.W.Frag} {vs : List V} {H : Hp} {Q : VK} {E : XK} (h : spHts66 K vs H Q E) : t__law_heights66 K { nx := fun _ H' => Q .non H', rt := Q } (start ["_law_draws_here", "_law_many", "_law_size", "_law_k"] vs) H := by
  obtain ⟨d, c, rfl, hD, k⟩ := h
  unfold t__law_heights66
  walk_at "rv go"
  refine ⟨szl (by decide), fun p1 n1 => ?_⟩
  have n1d : p1 ≠ d := hD.nd n1
  walk_at "rv go"
  have b1 : But d H (upd H p1 (.lst [.int 9, .int 60])) := (But.refl d H).new n1
  refine draw_call (hD.new (same_new (Same.refl H) n1)) (by decide) (by decide) fun r1 H1 r1a r1b e1 D1 => ?_
  walk_at "rv go"
  have l1 : H1 p1 = some (.lst [.int 9, .int 60]) := e1 _ _ n1d upd_same
  have hm : ∃ m : Int, 0 < m ∧ m ≤ 60 ∧ atI [V.int 9, V.int 60] (if decide (r1 = 3) then 1 else 0) = some (.int m) := by
    by_cases z : r1 = 3
    · rw [decide_eq_true z]
      exact ⟨60, by decide, by decide, rfl⟩
    · rw [decide_eq_false z]
      exact ⟨9, by decide, by decide, rfl⟩
  obtain ⟨m, m0, m60, em⟩ := hm
  refine w_ixL (sq_lst l1) em ?_
  walk_at "rv go"
  refine draw_call D1 m0 (Int.lt_of_le_of_lt m60 (by decide)) fun r2 H2 r2a r2b e2 D2 => ?_
  walk_at "rv go"
  refine ⟨szl (by decide), fun p2 n2 => ?_⟩
  walk_at "rv go"
  have n2d : p2 ≠ d := D2.nd n2
  refine draw_call (D2.new (same_new (Same.refl H2) n2)) (by decide) (by decide) fun r3 H3 r3a r3b e3 D3 => ?_
  have l3 : H3 p2 = some (.lst [.int 2, .int 7, .int (10 ^ Int.toNat 6), .int (10 ^ Int.toNat 29)]) := e3 _ _ n2d upd_same
  have hz : ∃ z : Int, 0 < z ∧ z ≤ 100000000000000000000000000000 ∧ atI [V.int 2, V.int 7, V.int (10 ^ Int.toNat 6), V.int (10 ^ Int.toNat 29)] r3 = some (.int z) := by
    have c : r3 = 0 ∨ r3 = 1 ∨ r3 = 2 ∨ r3 = 3 := by omega
    rcases c with rfl | rfl | rfl | rfl
    · exact ⟨2, by decide, by decide, rfl⟩
    · exact ⟨7, by decide, by decide, rfl⟩
    · exact ⟨10 ^ Int.toNat 6, by decide, by decide, rfl⟩
    · exact ⟨10 ^ Int.toNat 29, by decide, by decide, rfl⟩
  obtain ⟨z, z0, z1, ez⟩ := hz
  refine w_ixL (sq_lst l3) ez ?_
  walk_at "rv go"
  have eN : (((1 + r2).toNat : Nat) : Int) = 1 + r2 := Int.toNat_of_nonneg (by omega)
  have b3 : But d H H3 := ((b1.trans e1).trans e2).trans (((But.refl d H2).new n2).trans e3)
  refine w_lcR (n := (1 + r2).toNat) (by omega) (fun AQ q => ?_) (fun D acc H' => ∃ hs : List Int, acc = hs.map V.int ∧ (∀ z ∈ hs, -100000000000000000000000000000 ≤ z ∧ z ≤ 100000000000000000000000000000) ∧ But d H H' ∧ DrawsAt H' d c ∧ H' D = some (.lst acc) ∧ D ≠ d ∧ D ≠ c ∧ H D = none) (fun D nD => ?_) ?_ ?_
  · rw [eN] at q
    walk_at "rv go"
    exact q
  · exact ⟨[], rfl, (fun _ h => nomatch h), b3.new nD, D3.new (same_new (Same.refl H3) nD), upd_same, D3.nd nD, D3.nc nD, b3.free (D3.nd nD) nD⟩
  · rintro D acc H' hl ⟨hs, rfl, hok, b, DD, hD', nDd, nDc, nD⟩
    walk_at "rv go"
    refine draw_call DD (by omega) (Int.lt_of_le_of_lt (b := 2000000000000000000000000000001) (by omega) (by decide)) fun r H4 ra rb e4 D4 => ?_
    walk_at "rv go"
    have b4 := b.trans e4
    refine w_app (J := fun D acc H' => ∃ hs : List Int, acc = hs.map V.int ∧ (∀ z ∈ hs, -100000000000000000000000000000 ≤ z ∧ z ≤ 100000000000000000000000000000) ∧ But d H H' ∧ DrawsAt H' d c ∧ H' D = some (.lst acc) ∧ D ≠ d ∧ D ≠ c ∧ H D = none) (e4 _ _ nDd hD') (by rw [List.length_map] at hl ⊢; omega) ⟨hs ++ [r - z], (by rw [map_app]), ?_, ?_, D4.wr nDd nDc, upd_same, nDd, nDc, nD⟩
    · intro y hy
      rcases List.mem_append.mp hy with h | h
      · exact hok y h
      · rw [List.mem_singleton.mp h]
        exact ⟨by omega, by omega⟩
    · exact fun c o nc h => by
        have q := b4 c o nc h
        rw [upd_ne (ne_of_none h nD)]
        exact q
  · rintro D acc H' hl ⟨hs, rfl, hok, b, DD, hD', nDd, nDc, nD⟩
    rw [List.length_map] at hl
    exact k D H' hs (by omega) (by omega) hok b DD nD hD'
theorem w_forln {K : PySem.W.Frag} {σ : L2.St} {H : Hp} {D : Ends} {tl : TE} {s1 : TS} {g : TG} (q : tl σ H fun x H1 => ∃ a, x = .ref a ∧ tFor (iAt K a) g s1 D σ H1) : tFor (iList K tl) g s1 D σ H := q
theorem w_forA {K : PySem.W.Frag} {σ : L2.St} {H : Hp} {D : Ends} {s1 : TS} {g : TG} {a : Addr} {xs : List V} (hx : SqL K H a xs) (Pv : Nat → L2.St → Hp → Prop) (h0 : Pv 0 σ H) (hl : ∀ i σ' H', i ≤ xs.length → Pv i σ' H' → SqL K H' a xs)
    (hs : ∀ i x σ' H', xs[i]? = some x → Pv i σ' H' → g x σ' H' fun σ2 H2 => s1 { D with nx := Pv (i + 1), ct := Pv (i + 1), bk := D.nx } σ2 H2) (hd : ∀ σ' H', Pv xs.length σ' H' → D.nx σ' H') : tFor (iAt K a) g s1 D σ H :=
  ⟨⟨xs, hx⟩, for_list Pv h0 hl hs hd⟩
theorem mxF_take {a z : Int} {zs : List Int} {j : Nat} (h : zs[j]? = some z) : mxF a (zs.take (j + 1)) = if mxF a (zs.take j) < z then z else mxF a (zs.take j) := by
  rw [List.take_add_one, h]
  exact mxF_app _ _ _
/-- the loop that looks for the greatest: slot m holds it, slot 5 the one -/
theorem cut_preV {xs : List Int} {n : Nat} (h : n ≤ xs.length) : cutV (xs.map V.int) none (some (n : Int)) = (xs.take n).map V.int := cut_pre h
theorem p_lend {K : PySem.W.Frag} {vs : List V} {H : Hp} {Q : VK} {E : XK} (h : spLEnd K vs H Q E) : t__law_end K { nx := fun _ H' => Q .non H', rt := Q } (start ["_law_heights_here", "_law_shares", "_law_found", "_law_at", "_law_left", "_law_one", "_law_right"] vs) H := by
  obtain ⟨a, b, hs, ws, rfl, ha, hb, ok, k⟩ := h
  unfold t__law_end
  have l60 := ok.le
  have lw := ok.eq
  walk_at "rv go"
  refine w_seq ?_
  refine w_forR (n := hs.length) (by omega) (fun AQ q => ?_) (fun i σ' H' => Same H H' ∧ ∃ o3 o4 o5 o6, σ' = [some (.ref a), some (.ref b), some (.int (sumN (eF hs ws) i)), o3, o4, o5, o6]) ⟨Same.refl H, none, none, none, none, rfl⟩ ?_ ?_
  · walk_at "rv go"
    refine w_lenL (sq_lst ha) ?_
    walk_at "rv go"
    rw [List.length_map]
    exact q
  · rintro i σ' H1 hi ⟨e1, o3, o4, o5, o6, rfl⟩
    have ha1 := e1 _ _ ha
    have hb1 := e1 _ _ hb
    refine st_is [some (.ref a), some (.ref b), some (.int (sumN (eF hs ws) i)), some (.int (i : Int)), o4, o5, o6] rfl ?_
    walk_at "rv go"
    refine w_ixL (sq_lst ha1) (at_hN hi) ?_
    walk_at "rv go"
    refine w_seq ?_
    refine w_forln ?_
    walk_at "rv go"
    refine w_slL (sq_lst ha1) fun l nl => ?_
    rw [cut_pre (by omega)]
    have e2 := same_new (o := .lst ((hs.take i).map V.int)) e1 nl
    have hl : (upd H1 l (.lst ((hs.take i).map V.int))) l = some (.lst ((hs.take i).map V.int)) := upd_same
    generalize upd H1 l (.lst ((hs.take i).map V.int)) = H2 at e2 hl ⊢
    refine ⟨l, rfl, ?_⟩
    refine w_forA (xs := (hs.take i).map V.int) (sq_lst hl) (fun j σ'' H'' => H'' = H2 ∧ ∃ o5, σ'' = [some (.ref a), some (.ref b), some (.int (sumN (eF hs ws) i)), some (.int (i : Int)), some (.int (mxF (hN hs i) ((hs.take i).take j))), o5, o6]) ⟨rfl, o5, rfl⟩ (fun j σ'' H'' _ ⟨e, _⟩ => by rw [e]; exact sq_lst hl) ?_ ?_
    · rintro j x σ'' H'' hx ⟨rfl, o5', rfl⟩
      rw [List.getElem?_map] at hx
      obtain ⟨z, hz, rfl⟩ := Option.map_eq_some_iff.mp hx
      have em := mxF_take (a := hN hs i) hz
      refine w_gn ?_
      refine st_is [some (.ref a), some (.ref b), some (.int (sumN (eF hs ws) i)), some (.int (i : Int)), some (.int (mxF (hN hs i) ((hs.take i).take j))), some (.int z), o6] rfl ?_
      walk_at "rv go"
      refine w_both (fun c => ?_) fun c => ?_
      · walk_at "rv go"
        refine ⟨rfl, some (.int z), ?_⟩
        rw [em, if_pos c]
        rfl
      · walk_at "rv go"
        refine ⟨rfl, some (.int z), ?_⟩
        rw [em, if_neg c]
    rintro σ'' H'' ⟨rfl, o5', rfl⟩
    rw [List.length_map, List.take_length]
    have ha2 := e2 _ _ ha
    have hb2 := e2 _ _ hb
    refine w_nx ?_
    refine st_is [some (.ref a), some (.ref b), some (.int (sumN (eF hs ws) i)), some (.int (i : Int)), some (.int (lfA hs i)), o5', o6] rfl ?_
    walk_at "rv go"
    refine w_ixL (sq_lst ha2) (at_hN hi) ?_
    walk_at "rv go"
    refine w_seq ?_
    refine w_forln ?_
    walk_at "rv go"
    refine w_slL (sq_lst ha2) fun l3 nl3 => ?_
    rw [cut_suf (by omega)]
    have e3 := same_new (o := .lst ((hs.drop i).map V.int)) e2 nl3
    have hl3 : (upd H'' l3 (.lst ((hs.drop i).map V.int))) l3 = some (.lst ((hs.drop i).map V.int)) := upd_same
    generalize upd H'' l3 (.lst ((hs.drop i).map V.int)) = H3 at e3 hl3 ⊢
    refine ⟨l3, rfl, ?_⟩
    refine w_forA (xs := (hs.drop i).map V.int) (sq_lst hl3) (fun j σ'' H' => H' = H3 ∧ ∃ o5, σ'' = [some (.ref a), some (.ref b), some (.int (sumN (eF hs ws) i)), some (.int (i : Int)), some (.int (lfA hs i)), o5, some (.int (mxF (hN hs i) ((hs.drop i).take j)))]) ⟨rfl, o5', rfl⟩ (fun j σ'' H' _ ⟨e, _⟩ => by rw [e]; exact sq_lst hl3) ?_ ?_
    · rintro j x σ'' H' hx ⟨rfl, o5'', rfl⟩
      rw [List.getElem?_map] at hx
      obtain ⟨z, hz, rfl⟩ := Option.map_eq_some_iff.mp hx
      have em := mxF_take (a := hN hs i) hz
      refine w_gn ?_
      refine st_is [some (.ref a), some (.ref b), some (.int (sumN (eF hs ws) i)), some (.int (i : Int)), some (.int (lfA hs i)), some (.int z), some (.int (mxF (hN hs i) ((hs.drop i).take j)))] rfl ?_
      walk_at "rv go"
      refine w_both (fun c => ?_) fun c => ?_
      · walk_at "rv go"
        refine ⟨rfl, some (.int z), ?_⟩
        rw [em, if_pos c]
        rfl
      · walk_at "rv go"
        refine ⟨rfl, some (.int z), ?_⟩
        rw [em, if_neg c]
    rintro σ'' H' ⟨rfl, o5'', rfl⟩
    rw [List.length_map, List.take_length]
    refine w_nx ?_
    refine st_is [some (.ref a), some (.ref b), some (.int (sumN (eF hs ws) i)), some (.int (i : Int)), some (.int (lfA hs i)), o5'', some (.int (rgA hs i))] rfl ?_
    refine w_cut (fun σ4 H4 => H4 = H' ∧ σ4 = [some (.ref a), some (.ref b), some (.int (sumN (eF hs ws) i)), some (.int (i : Int)), some (.int (lvA hs i)), o5'', some (.int (rgA hs i))]) (fun N hN' => ?_) ?_
    · walk_at "rv go"
      refine w_both (fun c => ?_) fun c => ?_
      · walk_at "rv go"
        refine hN' _ _ ⟨rfl, ?_⟩
        unfold lvA
        rw [if_pos c]
        rfl
      · walk_at "rv go"
        refine hN' _ _ ⟨rfl, ?_⟩
        unfold lvA
        rw [if_neg c]
    rintro σ4 H4 ⟨rfl, rfl⟩
    have b1 := wok_sz (ok.ww _ (hN_mem (hs := ws) (i := i) (by omega)))
    have b2 := hok_sz (ok.hh _ (lvA_in hi).1)
    have b3 := hok_sz (ok.hh _ (hN_mem hi))
    walk_at "rv go"
    refine w_ixL (sq_lst (e3 _ _ hb)) (at_hN (by omega)) ?_
    walk_at "rv go"
    refine w_ixL (sq_lst (e3 _ _ ha)) (at_hN hi) ?_
    walk_at "rv go"
    refine w_I (mulw (sz_lit (k := 100) b1) (sz_lit (k := 102) (M := 2000000000000000000000000000000) (by omega)) (by decide) (by decide) (by decide)) ?_
    walk_at "rv go"
    exact ⟨e3, _, _, _, _, rfl⟩
  · rintro σ' H1 ⟨e1, o3, o4, o5, o6, rfl⟩
    walk_at "rv go"
    exact k H1 e1
end Rv
namespace Rv
open PySem PySem.Spec PyProof.Rows L2
local macro_rules | `(tactic| walk_at "rv st") => `(tactic| first
  | with_reducible refine iteT ?_ | with_reducible refine iteF ?_ | with_reducible refine w_nx ?_ | with_reducible refine w_yes ?_ | with_reducible refine w_rt ?_ | with_reducible refine iteNT ?_ | with_reducible refine iteNF ?_ | with_reducible refine iteNRf ?_ | with_reducible refine iteRf ?_ | with_reducible refine w_seqA ?_ | with_reducible refine w_seqD ?_ | with_reducible refine w_seqP ?_ | with_reducible refine w_asg ?_ | with_reducible refine w_ret ?_ | with_reducible refine w_drop ?_ | with_reducible refine w_ifs ?_ | with_reducible refine w_next ?_ | with_reducible refine w_par ?_
  | with_reducible refine w_op ?_ | with_reducible refine w_un ?_ | ((with_reducible show tVar _ _ _ _); refine' w_var ?hv ?_; (case hv => exact rfl)) | with_reducible refine w_c ?_ | with_reducible refine w_test ?_ | with_reducible refine w_tB ?_
  | with_reducible refine w_bl ?_ | with_reducible refine w_I0 ?_ | with_reducible refine w_U ?_ | with_reducible refine w_eqI ?_ | with_reducible refine w_neI ?_
  | with_reducible refine w_cons ?_ | with_reducible refine w_nil ?_ | with_reducible refine w_gn ?_ | with_reducible refine w_gsub ?_ | with_reducible refine w_and ?_ | with_reducible refine w_or ?_ | with_reducible refine w_not ?_
  | with_reducible refine w_andV ?_ | with_reducible refine w_orV ?_ | with_reducible refine w_notV ?_ | with_reducible refine w_if ?_ | with_reducible refine w_cb ?_ | with_reducible refine w_call ?_ | with_reducible refine w_lst ?_ | with_reducible refine w_tup ?_
  | with_reducible refine w_sl ?_ | with_reducible refine w_noPart ?_ | with_reducible refine w_part ?_ | with_reducible refine w_ex1 ?_ | with_reducible refine w_exb ?_ | with_reducible refine w_intB ?_ | with_reducible refine w_intI ?_ | with_reducible refine w_abs ?_)
local macro_rules | `(tactic| walk_at "rv ix") => `(tactic| ((with_reducible show rIxL _ _ _ _ _); refine' w_ixL (sq_lst ?ha) ?hb ?_; (case ha => first | exact upd_same | assumption); (case hb => first | exact rfl | assumption)))
local macro_rules | `(tactic| walk_at "rv ar") => `(tactic| first
  | (refine' w_I ?hc ?_; (case hc => first | (show (0 : Int) < _; first | assumption | decide | omega) | exact pow_c (by decide) (by decide) (by first | decide | omega) (by first | decide | omega) | exact mul_r (by first | decide | omega) (by first | decide | omega) | exact mul_l (by first | decide | omega) (by first | decide | omega) | exact divw (by first | assumption | decide | omega) (by first | assumption | decide | omega))))
local macro_rules | `(tactic| walk_at "rv go") => `(tactic| repeat first | walk_at "rv st" | walk_at "rv ix" | ((with_reducible show rI _ _ _ _ _ _); walk_at "rv ar"))
/-- a for over what is walked by J -/
def tForI (J : It) (g : TG) (tb : TS) (D : Ends) (σ : L2.St) (H : Hp) : Prop := ∃ W : Nat → Nat → L2.St → Hp → Prop, (∃ m, W 0 m σ H) ∧ ∀ i m σ H, W i m σ H →
  (J.stop i H ∧ D.nx σ H) ∨ (J.go i H ∧ ∃ N : L2.St → Hp → Prop, (∀ σ' H', N σ' H' → ∃ m', m' < m ∧ W (i + 1) m' σ' H') ∧ ∀ x H', J.yld i H x H' → g x σ H' fun σ2 H2 => tb { D with nx := N, ct := N, bk := D.nx } σ2 H2)
theorem w_forRn {tr : TA} {g : TG} {s1 : TS} {D : Ends} {σ : L2.St} {H : Hp} (q : tr σ H fun vs H1 => ∃ j : Int, vs = [.int j] ∧ -(2 ^ 62) ≤ j ∧ j < 2 ^ 62 ∧ tForI (Itr 0 j.toNat) g s1 D σ H1) : tFor (iRng1 tr) g s1 D σ H := q
theorem w_forRi {slot n : Nat} {s1 : TS} {D : Ends} {σ : L2.St} {H : Hp} (Pv : Nat → L2.St → Hp → Prop) (h0 : Pv 0 σ H)
    (hs : ∀ i σ' H', i < n → Pv i σ' H' → s1 { D with nx := Pv (i + 1), ct := Pv (i + 1), bk := D.nx } (σ'.set slot (some (.int (i : Int)))) H') (hd : ∀ σ' H', Pv n σ' H' → D.nx σ' H') : tForI (Itr 0 n) (gName slot) s1 D σ H := by
  refine for_range Pv h0 (fun i σ' H' hi q => ?_) hd
  show s1 _ (σ'.set slot (some (.int (0 + (i : Int))))) H'
  rw [Int.zero_add]
  exact hs i σ' H' hi q
theorem prof_but {K : PySem.W.Frag} {C : Addr} {H H' : Hp} {p d c : Addr} {hs ws : List Int} (h : ProfAt K C H p hs ws) (D : DrawsAt H d c) (e : But d H H') : ProfAt K C H' p hs ws := by
  obtain ⟨dx, t1, t2, h1, h2, h3⟩ := h
  obtain ⟨ns, pos, num, seed, q, _⟩ := D
  exact ⟨dx, t1, t2, e _ _ (fun z => by rw [z, q] at h1; cases h1) h1, e _ _ (fun z => by rw [z, q] at h2; cases h2) h2, e _ _ (fun z => by rw [z, q] at h3; cases h3) h3⟩
section
variable {K : PySem.W.Frag} {CP CR : Addr} {H : Hp} {Q : VK} {E : XK} {p q : Addr} {hs ws : List Int} {c : Nat} {r t n : Int}
theorem is66_call (R : RCls K CR) (hq : RatAt CR H q t 1) (e : t = n) (k : Q (.bl true) H) : spIs66 K CR ([.ref q, .int n] ++ []) H Q E :=
  ⟨q, n, t, 1, rfl, R, hq, by rw [decide_eq_true rfl, decide_eq_true e]; exact k⟩
theorem gain_call (P : PCls K CP) (R : RCls K CR) (hp : ProfAt K CP H p hs ws) (ok : PrOk hs ws) (hc : c < hs.length) (r0 : 0 ≤ r) (r1 : r ≤ 1000000000000000000000000000000) (hk : HOk1 (hN hs c + r)) (k : ∀ q H', Same H H' → RatAt CR H' q (eV (rsA hs c r) ws - eV hs ws) 1 → Q (.ref q) H') :
    spGain K CP CR ([.ref p, .int (c : Int), .int r] ++ []) H Q E := ⟨p, hs, ws, c, r, rfl, P, R, hp, ok, hc, r0, r1, hk, k⟩
theorem lend_call {a b : Addr} (ha : H a = some (.lst (hs.map V.int))) (hb : H b = some (.lst (ws.map V.int))) (ok : PrOk hs ws) (k : ∀ H', Same H H' → Q (.int (eV hs ws)) H') : spLEnd K ([.ref a, .ref b] ++ []) H Q E := ⟨a, b, hs, ws, rfl, ha, hb, ok, k⟩
end
theorem pick4 {a b c e s : Int} (h1 : 0 ≤ s) (h2 : s < 4) : ∃ z, (z = a ∨ z = b ∨ z = c ∨ z = e) ∧ atI [V.int a, V.int b, V.int c, V.int e] s = some (.int z) := by
  have w : s = 0 ∨ s = 1 ∨ s = 2 ∨ s = 3 := by omega
  rcases w with rfl | rfl | rfl | rfl
  · exact ⟨a, .inl rfl, rfl⟩
  · exact ⟨b, .inr (.inl rfl), rfl⟩
  · exact ⟨c, .inr (.inr (.inl rfl)), rfl⟩
  · exact ⟨e, .inr (.inr (.inr rfl)), rfl⟩
theorem p_law66b {K : PySem.W.Frag} {CP CR : Addr} {D : Ends} {H : Hp} {a d c ha hw g : Addr} {hs ws : List Int} {o7 o8 o9 o10 o11 o12 o13 : Option V} {x6 : V} (P : PCls K CP) (R : RCls K CR) (hD : DrawsAt H d c) (hh : H ha = some (.lst (hs.map V.int))) (hww : H hw = some (.lst (ws.map V.int))) (had : ha ≠ d) (hwd : hw ≠ d) (hg : ProfAt K CP H g hs ws)
    (ok : PrOk hs ws) (hb : ∀ z ∈ hs, -100000000000000000000000000000 ≤ z ∧ z ≤ 100000000000000000000000000000)
    (k : ∀ H' o7 o8 o9 o10 o11 o12 o13, DrawsAt H' d c → H' ha = some (.lst (hs.map V.int)) → H' hw = some (.lst (ws.map V.int)) → ProfAt K CP H' g hs ws → D.nx [some (.ref a), some (.ref d), some (.ref ha), some (.ref hw), some (.ref g), some (.int (eV hs ws)), some x6, o7, o8, o9, o10, o11, o12, o13] H') :
    t_law66b K CP CR D [some (.ref a), some (.ref d), some (.ref ha), some (.ref hw), some (.ref g), some (.int (eV hs ws)), some x6, o7, o8, o9, o10, o11, o12, o13] H := by
  have l60 := ok.le
  have l1 := ok.pos
  unfold t_law66b
  walk_at "rv go"
  refine w_lenL (sq_lst hh) ?_
  rw [List.length_map]
  walk_at "rv go"
  refine draw_call hD (by omega) (Int.lt_of_le_of_lt (b := 60) (by omega) (by decide)) fun at0 H1 ata atb b1 D1 => ?_
  obtain ⟨at', rfl⟩ : ∃ at' : Nat, at0 = (at' : Int) := ⟨at0.toNat, by omega⟩
  have atl : at' < hs.length := by omega
  have hg1 := prof_but hg hD b1
  walk_at "rv go"
  refine ⟨szl (by decide), fun p2 n2 => ?_⟩
  have n2d : p2 ≠ d := D1.nd n2
  walk_at "rv go"
  refine draw_call (D1.new (same_new (Same.refl H1) n2)) (by decide) (by decide) fun s2 H2 s2a s2b b2 D2 => ?_
  obtain ⟨y, hy, ey⟩ := pick4 (a := 2) (b := 5) (c := 10 ^ Int.toNat 6) (e := 10 ^ Int.toNat 29) s2a s2b
  refine w_ixL (sq_lst (b2 _ _ n2d upd_same)) ey ?_
  have y0 : 0 < y ∧ y ≤ 100000000000000000000000000000 := by
    rcases hy with rfl | rfl | rfl | rfl <;> exact ⟨by decide, by decide⟩
  walk_at "rv go"
  refine draw_call D2 y0.1 (Int.lt_of_le_of_lt y0.2 (by decide)) fun r H3 ra rb b3 D3 => ?_
  walk_at "rv go"
  refine draw_call D3 (by decide) (by decide) fun m H4 ma mb b4 D4 => ?_
  have b14 : But d H1 H4 := ((((But.refl d H1).new n2).trans b2).trans b3).trans b4
  have b04 := b1.trans b14
  have hh4 := b04 _ _ had hh
  have hw4 := b04 _ _ hwd hww
  have hg4 := prof_but hg1 D1 b14
  have hat := hb _ (hN_mem atl)
  have kr : HOk1 (hN hs at' + r) := ⟨by omega, by omega⟩
  have krm : HOk1 (hN hs at' + (r + m)) := ⟨by omega, by omega⟩
  have ok1 := rsA_ok ok atl kr
  have ok2 := rsA_ok ok atl krm
  walk_at "rv go"
  refine list_callR (.inl hh4) fun l10 nl10 => ?_
  have l10d : l10 ≠ d := D4.nd nl10
  walk_at "rv go"
  refine w_ixL (sq_lst upd_same) (at_hN atl) ?_
  walk_at "rv go"
  refine w_setL (xs := hs.map V.int) (j := at') upd_same (by rw [List.length_map]; exact ixN_nat atl) ?_
  rw [map_set]
  have e5 : Same H4 (upd (upd H4 l10 (.lst (hs.map V.int))) l10 (.lst ((hs.set at' (hN hs at' + r)).map V.int))) := fun b o hb => by
    have n : b ≠ l10 := ne_of_none hb nl10
    rw [upd_ne n, upd_ne n]
    exact hb
  have k10 : (upd (upd H4 l10 (.lst (hs.map V.int))) l10 (.lst ((hs.set at' (hN hs at' + r)).map V.int))) l10 = some (.lst ((rsA hs at' r).map V.int)) := upd_same
  generalize (upd (upd H4 l10 (.lst (hs.map V.int))) l10 (.lst ((hs.set at' (hN hs at' + r)).map V.int))) = H5 at e5 k10 ⊢
  walk_at "rv go"
  refine list_callR (.inl k10) fun l11 nl11 => ?_
  walk_at "rv go"
  refine w_ixL (sq_lst upd_same) (at_hN (by rw [rsA_len]; exact atl)) ?_
  walk_at "rv go"
  refine w_setL (xs := (rsA hs at' r).map V.int) (j := at') upd_same (by rw [List.length_map, rsA_len]; exact ixN_nat atl) ?_
  rw [map_set]
  have e6 : Same H5 (upd (upd H5 l11 (.lst ((rsA hs at' r).map V.int))) l11 (.lst (((rsA hs at' r).set at' (hN (rsA hs at' r) at' + m)).map V.int))) := fun b o hb => by
    have n : b ≠ l11 := ne_of_none hb nl11
    rw [upd_ne n, upd_ne n]
    exact hb
  have k11 : (upd (upd H5 l11 (.lst ((rsA hs at' r).map V.int))) l11 (.lst (((rsA hs at' r).set at' (hN (rsA hs at' r) at' + m)).map V.int))) l11 = some (.lst ((rsA hs at' (r + m)).map V.int)) := by
    rw [upd_same, ← rsA_two atl]
    rfl
  generalize (upd (upd H5 l11 (.lst ((rsA hs at' r).map V.int))) l11 (.lst (((rsA hs at' r).set at' (hN (rsA hs at' r) at' + m)).map V.int))) = H6 at e6 k11 ⊢
  have e46 := e5.trans e6
  walk_at "rv go"
  refine lend_call (e6 _ _ k10) (e46 _ _ hw4) ok1 fun H7 e7 => ?_
  walk_at "rv go"
  have e47 := e46.trans e7
  refine w_seq ?_
  walk_at "rv go"
  refine gain_call P R (hg4.same e47) ok atl ra (by omega) kr fun q1 H8 e8 hq1 => ?_
  walk_at "rv go"
  refine is66_call R hq1 rfl ?_
  walk_at "rv go"
  have e48 := e47.trans e8
  refine gain_call (r := 0) P R (hg4.same e48) ok atl (by decide) (by decide) (by rw [Int.add_zero]; exact ok.hh _ (hN_mem atl)) fun q2 H9 e9 hq2 => ?_
  walk_at "rv go"
  refine is66_call R hq2 (by rw [rsA_zero atl]; omega) ?_
  walk_at "rv go"
  have e49 := e48.trans e9
  have e69 := (e7.trans e8).trans e9
  refine lend_call (e69 _ _ k11) (e49 _ _ hw4) ok2 fun HA eA => ?_
  walk_at "rv go"
  have e4A := e49.trans eA
  refine w_seq ?_
  walk_at "rv go"
  refine gain_call P R (hg4.same e4A) ok atl (by omega) (by omega) krm fun q3 HB eB hq3 => ?_
  walk_at "rv go"
  refine is66_call R hq3 rfl ?_
  walk_at "rv go"
  have e4B := e4A.trans eB
  have hgB := hg4.same e4B
  obtain ⟨dx, t1, t2, h0, h1, h2⟩ := id hgB
  refine w_seq ?_
  walk_at "rv go"
  refine w_meth ?_
  walk_at "rv go"
  refine ⟨g, dx, _, rfl, h0, pfl_none _ _ (by decide +kernel) (by decide +kernel), ?_⟩
  walk_at "rv go"
  refine ⟨g, hs, ws, at', r, rfl, P, hgB, ok, atl, ra, by omega, kr, fun g2 HC ng2 eC hg2 => ?_⟩
  walk_at "rv go"
  have kr2 : HOk1 (hN (rsA hs at' r) at' + m) := by
    rw [rsA_at atl, if_pos rfl]
    exact ⟨by omega, by omega⟩
  refine gain_call P R hg2 ok1 (by rw [rsA_len]; exact atl) ma (by omega) kr2 fun q4 HD eD hq4 => ?_
  walk_at "rv go"
  refine is66_call R hq4 (by rw [rsA_two atl]; omega) ?_
  walk_at "rv go"
  have e4D := (e4B.trans eC).trans eD
  have hgD := hg4.same e4D
  obtain ⟨dx', t1', t2', h0', h1', h2'⟩ := id hgD
  refine w_meth ?_
  walk_at "rv go"
  refine ⟨g, dx', _, rfl, h0', pfl_none _ _ (by decide +kernel) (by decide +kernel), ?_⟩
  walk_at "rv go"
  refine ⟨g, hs, ws, rfl, P, hgD, ok, fun g3 HE ng3 eE hg3 => ?_⟩
  walk_at "rv go"
  have e4E := e4D.trans eE
  refine w_lenL (sq_lst (e4E _ _ hh4)) ?_
  rw [List.length_map]
  walk_at "rv go"
  have okm : PrOk hs.reverse ws.reverse := ⟨by rw [List.length_reverse]; exact ok.pos, by rw [List.length_reverse]; exact ok.le, by rw [List.length_reverse, List.length_reverse]; exact ok.eq, fun z hz => ok.hh z (List.mem_reverse.mp hz), fun z hz => ok.ww z (List.mem_reverse.mp hz)⟩
  have ei : (hs.length : Int) - 1 - (at' : Int) = ((hs.length - 1 - at' : Nat) : Int) := by omega
  rw [ei]
  have em : hN hs.reverse (hs.length - 1 - at') = hN hs at' := by
    rw [hN_rev (by omega), show hs.length - 1 - (hs.length - 1 - at') = at' by omega]
  refine gain_call P R hg3 okm (by rw [List.length_reverse]; omega) ra (by omega) (by rw [em]; exact kr) fun q5 HF eF' hq5 => ?_
  walk_at "rv go"
  refine is66_call R hq5 ?_ ?_
  · have z1 : ws.length = (rsA hs at' r).length := by rw [rsA_len]; exact ok.eq
    have z2 := eV_rev z1
    have z3 := eV_rev ok.eq
    rw [rsA_rev atl, z2, z3]
  refine w_exb ?_
  refine iteNT ?_
  refine w_next ?_
  have e4F := e4E.trans eF'
  exact k _ _ _ _ _ _ _ _ (D4.new e4F) (e4F _ _ hh4) (e4F _ _ hw4) (hg4.same e4F)
theorem p_law66 {K : PySem.W.Frag} {CP CR : Addr} {vs : List V} {H : Hp} {Q : VK} {E : XK} (h : spLaw66 K CP CR vs H Q E) : t_law66 K CP CR { nx := fun _ H' => Q .non H', rt := Q } (start ["_law_script", "_law_draws_here", "_law_heights_here", "_law_shares", "_law_ground", "_law_base", "_law_turn", "_law_at", "_law_rise", "_law_more", "_law_raised", "_law_higher", "_law_due", "_law_last"] vs) H := by
  obtain ⟨a, ns, rfl, hS, P, R, k⟩ := h
  unfold t_law66
  walk_at "rv go"
  refine ⟨a, ns, rfl, hS, fun d c H1 nd nc e1 D1 => ?_⟩
  walk_at "rv go"
  refine ⟨d, c, rfl, D1, fun ha H2 hs l1 l60 hb b2 D2 nha hh => ?_⟩
  have had : ha ≠ d := D1.nd nha
  walk_at "rv go"
  refine w_lenL (sq_lst hh) ?_
  rw [List.length_map]
  walk_at "rv go"
  refine ⟨d, c, hs.length, rfl, l60, D2, fun hw H3 ws lw wok b3 D3 nhw hww => ?_⟩
  have hwd : hw ≠ d := D2.nd nhw
  have ok : PrOk hs ws := ⟨l1, l60, lw, fun z hz => by have := hb z hz; exact ⟨by omega, by omega⟩, wok⟩
  have hh3 := b3 _ _ had hh
  walk_at "rv go"
  refine w_make ?_
  walk_at "rv go"
  refine mk_prof21 (us := [.ref ha, .ref hw]) (dvs := []) rfl P hh3 ok.pos ok.le ok.hh (.inr ⟨hw, rfl, hww, ok.eq, ok.ww⟩) fun g H4 ng e4 hg => ?_
  walk_at "rv go"
  refine lend_call (e4 _ _ hh3) (e4 _ _ hww) ok fun H5 e5 => ?_
  have e45 := e4.trans e5
  have D5 := D3.new e45
  walk_at "rv go"
  refine w_seq ?_
  refine w_forRn ?_
  walk_at "rv go"
  refine draw_call D5 (by decide) (by decide) fun t H6 ta tb b6 D6 => ?_
  walk_at "rv go"
  refine ⟨1 + t, rfl, by omega, by omega, ?_⟩
  have hg6 := prof_but (hg.same e5) D5 b6
  have hh6 := b6 _ _ had (e45 _ _ hh3)
  have hw6 := b6 _ _ hwd (e45 _ _ hww)
  refine w_forRi (fun i σ' H' => DrawsAt H' d c ∧ H' ha = some (.lst (hs.map V.int)) ∧ H' hw = some (.lst (ws.map V.int)) ∧ ProfAt K CP H' g hs ws ∧ ∃ o6 o7 o8 o9 o10 o11 o12 o13, σ' = [some (.ref a), some (.ref d), some (.ref ha), some (.ref hw), some (.ref g), some (.int (eV hs ws)), o6, o7, o8, o9, o10, o11, o12, o13]) ⟨D6, hh6, hw6, hg6, none, none, none, none, none, none, none, none, rfl⟩ ?_ ?_
  · rintro i σ' H' hi ⟨D', hh', hw', hg', o6, o7, o8, o9, o10, o11, o12, o13, rfl⟩
    refine p_law66b P R D' hh' hw' had hwd hg' ok hb fun H2 o7 o8 o9 o10 o11 o12 o13 D2 hh2 hw2 hg2 => ?_
    exact ⟨D2, hh2, hw2, hg2, _, _, _, _, _, _, _, _, rfl⟩
  · rintro σ' H' ⟨D', hh', hw', hg', o6, o7, o8, o9, o10, o11, o12, o13, rfl⟩
    walk_at "rv go"
    refine w_make ?_
    walk_at "rv go"
    refine mk_prof21 (us := [.ref ha, .ref hw]) (dvs := []) rfl P hh' ok.pos ok.le ok.hh (.inr ⟨hw, rfl, hw', ok.eq, ok.ww⟩) fun g' H7 ng' e7 hg7 => ?_
    walk_at "rv go"
    have hgF := (hg'.same e7)
    obtain ⟨dx, t1, t2, h0, h1, h2⟩ := id hgF
    obtain ⟨dx', t1', t2', h0', h1', h2'⟩ := id hg7
    exact ⟨⟨g, g', dx, dx', _, _, rfl, rfl, h0, h0', P, hs, ws, hgF, hg7⟩, fun H8 _ => k H8⟩
end Rv
namespace Rv
open PySem PySem.Spec PyProof.Rows L2
/-! the best dam -/
def gnF (hs ws : List Int) (r : Int) (i : Nat) : Int := eV (rsA hs i r) ws - eV hs ws
def bst (hs ws : List Int) (r : Int) : Nat → Option (Nat × Int)
  | 0 => none
  | n + 1 => if hN hs n + r ≤ 1000000000000000000000000000000 then (match bst hs ws r n with
    | none => some (n, gnF hs ws r n)
    | some (c, g) => if g < gnF hs ws r n then some (n, gnF hs ws r n) else some (c, g)) else bst hs ws r n
theorem bst_skip {hs ws : List Int} {r : Int} {n : Nat} (h : ¬ hN hs n + r ≤ 1000000000000000000000000000000) : bst hs ws r (n + 1) = bst hs ws r n := by
  show (if _ then _ else _) = _
  rw [if_neg h]
theorem bst_new {hs ws : List Int} {r : Int} {n : Nat} (h : hN hs n + r ≤ 1000000000000000000000000000000) (e : bst hs ws r n = none) : bst hs ws r (n + 1) = some (n, gnF hs ws r n) := by
  show (if _ then _ else _) = _
  rw [if_pos h, e]
theorem bst_more {hs ws : List Int} {r : Int} {n c : Nat} {g : Int} (h : hN hs n + r ≤ 1000000000000000000000000000000) (e : bst hs ws r n = some (c, g)) : bst hs ws r (n + 1) = if g < gnF hs ws r n then some (n, gnF hs ws r n) else some (c, g) := by
  show (if _ then _ else _) = _
  rw [if_pos h, e]
/-- what the best is -/
theorem bst_is (hs ws : List Int) (r : Int) : ∀ n, (bst hs ws r n = none ∧ ∀ i, i < n → ¬ hN hs i + r ≤ 1000000000000000000000000000000) ∨
    ∃ c g, bst hs ws r n = some (c, g) ∧ c < n ∧ hN hs c + r ≤ 1000000000000000000000000000000 ∧ g = gnF hs ws r c ∧ ∀ i, i < n → hN hs i + r ≤ 1000000000000000000000000000000 → gnF hs ws r i ≤ g
  | 0 => .inl ⟨rfl, fun i h => absurd h (Nat.not_lt_zero i)⟩
  | n + 1 => by
    by_cases h : hN hs n + r ≤ 1000000000000000000000000000000
    · rcases bst_is hs ws r n with ⟨e, a⟩ | ⟨c, g, e, hc, ok, eg, m⟩
      · refine .inr ⟨n, gnF hs ws r n, bst_new h e, Nat.lt_succ_self n, h, rfl, fun i hi oi => ?_⟩
        rcases Nat.lt_succ_iff_lt_or_eq.mp hi with z | z
        · exact absurd oi (a i z)
        · rw [z]
          exact Int.le_refl _
      · rw [bst_more h e]
        by_cases l : g < gnF hs ws r n
        · rw [if_pos l]
          refine .inr ⟨n, _, rfl, Nat.lt_succ_self n, h, rfl, fun i hi oi => ?_⟩
          rcases Nat.lt_succ_iff_lt_or_eq.mp hi with z | z
          · exact Int.le_of_lt (Int.lt_of_le_of_lt (m i z oi) l)
          · rw [z]
            exact Int.le_refl _
        · rw [if_neg l]
          refine .inr ⟨c, g, rfl, Nat.lt_succ_of_lt hc, ok, eg, fun i hi oi => ?_⟩
          rcases Nat.lt_succ_iff_lt_or_eq.mp hi with z | z
          · exact m i z oi
          · rw [z]
            exact Int.not_lt.mp l
    · rw [bst_skip h]
      rcases bst_is hs ws r n with ⟨e, a⟩ | ⟨c, g, e, hc, ok, eg, m⟩
      · refine .inl ⟨e, fun i hi => ?_⟩
        rcases Nat.lt_succ_iff_lt_or_eq.mp hi with z | z
        · exact a i z
        · rw [z]
          exact h
      · refine .inr ⟨c, g, e, Nat.lt_succ_of_lt hc, ok, eg, fun i hi oi => ?_⟩
        rcases Nat.lt_succ_iff_lt_or_eq.mp hi with z | z
        · exact m i z oi
        · rw [z] at oi
          exact absurd oi h
theorem gnF_rev {hs ws : List Int} {r : Int} {i : Nat} (e : ws.length = hs.length) (h : i < hs.length) : gnF hs.reverse ws.reverse r (hs.length - 1 - i) = gnF hs ws r i := by
  unfold gnF
  rw [rsA_rev h, eV_rev e, eV_rev (by rw [rsA_len]; exact e)]
/-- the mirrored row has the same best gain -/
theorem bst_rev {hs ws : List Int} {r : Int} (e : ws.length = hs.length) {c : Nat} {g : Int} (h : bst hs ws r hs.length = some (c, g)) : ∃ c', c' < hs.length ∧ bst hs.reverse ws.reverse r hs.length = some (c', g) := by
  rcases bst_is hs ws r hs.length with ⟨e1, _⟩ | ⟨c1, g1, e1, hc, ok, eg, m⟩
  · rw [e1] at h
    cases h
  rw [h] at e1
  cases e1
  have ok' : hN hs.reverse (hs.length - 1 - c) + r ≤ 1000000000000000000000000000000 := by
    rw [hN_rev (by omega), show hs.length - 1 - (hs.length - 1 - c) = c by omega]
    exact ok
  rcases bst_is hs.reverse ws.reverse r hs.length with ⟨_, a⟩ | ⟨c2, g2, e2, hc2, ok2, eg2, m2⟩
  · exact absurd ok' (a _ (by omega))
  · refine ⟨c2, hc2, ?_⟩
    rw [e2]
    have q1 := m2 _ (show hs.length - 1 - c < hs.length by omega) ok'
    rw [gnF_rev e hc, ← eg] at q1
    have q2 := m (hs.length - 1 - c2) (by omega) (by rw [hN_rev hc2] at ok2; exact ok2)
    have q3 := gnF_rev (r := r) e (show hs.length - 1 - c2 < hs.length by omega)
    rw [show hs.length - 1 - (hs.length - 1 - c2) = c2 by omega, ← eg2] at q3
    rw [← q3] at q2
    have : g = g2 := by omega
    rw [this]
theorem gnF_sz {hs ws : List Int} {r : Int} {i : Nat} (ok : PrOk hs ws) (h : i < hs.length) (k : HOk1 (hN hs i + r)) : Sz 300 (gnF hs ws r i) := by
  have a := eV_abs ok
  have b := eV_abs (rsA_ok ok h k)
  exact sz_lit (M := 240000000000000000000000000000000000000000000000000000000000000) (by unfold gnF; omega)
/-- the answer of best_dam: None, or a tuple of the column and the gain -/
def BestAt (CR : Addr) (H : Hp) (v : V) : Option (Nat × Int) → Prop
  | none => v = .non
  | some (c, g) => ∃ t q, v = .ref t ∧ H t = some (.tup [.int (c : Int), .ref q]) ∧ RatAt CR H q g 1
theorem BestAt.same {CR : Addr} {H H' : Hp} {v : V} : ∀ {o : Option (Nat × Int)}, BestAt CR H v o → Same H H' → BestAt CR H' v o
  | none, h, _ => h
  | some (_, _), ⟨t, q, h1, h2, h3⟩, e => ⟨t, q, h1, e _ _ h2, h3.same e⟩
def lbV : Option (Nat × Int) → List Int
  | none => []
  | some (c, g) => [(c : Int), g]
def spBest67 (K : PySem.W.Frag) (CP CR : Addr) : Sp := fun vs H Q _ => ∃ p hs ws, ∃ r : Int, vs = [.ref p, .int r] ∧ PCls K CP ∧ RCls K CR ∧ ProfAt K CP H p hs ws ∧ PrOk hs ws ∧ 0 ≤ r ∧ r ≤ 1000000000000000000000000000000 ∧ ∀ v H', Same H H' → BestAt CR H' v (bst hs ws r hs.length) → Q v H'
def spLBest67 (K : PySem.W.Frag) : Sp := fun vs H Q _ => ∃ a b hs ws, ∃ r : Int, vs = [.ref a, .ref b, .int r] ∧ H a = some (.lst (hs.map V.int)) ∧ H b = some (.lst (ws.map V.int)) ∧ PrOk hs ws ∧ 0 ≤ r ∧ r ≤ 1000000000000000000000000000000 ∧ ∀ t H', Same H H' → H' t = some (.tup ((lbV (bst hs ws r hs.length)).map V.int)) → Q (.ref t) H'
def spEq67 (K : PySem.W.Frag) (C : Addr) : Sp := fun vs H Q _ => ∃ a b t n, vs = [.ref a, .ref b] ∧ RCls K C ∧ RatAt C H a t 1 ∧ RatAt C H b n 1 ∧ Q (.bl (decide (t = n))) H
def spNe67 (K : PySem.W.Frag) (C : Addr) : Sp := fun vs H Q _ => ∃ a b t n, vs = [.ref a, .ref b] ∧ RCls K C ∧ RatAt C H a t 1 ∧ RatAt C H b n 1 ∧ Q (.bl (!decide (t = n))) H
def spLaw67 (K : PySem.W.Frag) (CP CR : Addr) : Sp := fun vs H Q _ => ∃ (a : Addr) (ns : List Int), vs = [.ref a] ∧ SqL K H a (ns.map V.int) ∧ PCls K CP ∧ RCls K CR ∧ ∀ H', Q (.bl true) H'
def t_Ratio___eq__ (K : PySem.W.Frag) (C_Ratio : Addr) : TS :=
  (tSeq (tIfS (tB (tCB (rIsi K) (tCons (tVar 1) (tCons (tC (.ref C_Ratio)) tNil)))) (tRet (tAndV (tOp rEq (tFld K (tVar 0) "reduced_top") (tFld K (tVar 1) "reduced_top")) (tOp rEq (tFld K (tVar 0) "reduced_bottom") (tFld K (tVar 1) "reduced_bottom")))) tNext)
    (tRet (tAndV (tCall (spWhole K) [] E0 (tCons (tVar 1) tNil)) (tAndV (tOp rEq (tFld K (tVar 0) "reduced_bottom") (tC (.int 1))) (tOp rEq (tFld K (tVar 0) "reduced_top") (tVar 1))))))
def t_Ratio___ne__ (K : PySem.W.Frag) (C_Ratio : Addr) : TS :=
  (tRet (tNotV (tOp (rOwn C_Ratio (spEq67 K C_Ratio) E0) (tVar 0) (tVar 1))))
def t_best_dam (K : PySem.W.Frag) (C_Profile : Addr) (C_Ratio : Addr) : TS :=
  (tSeq (tIfS (tNot (tB (tCall (spWithin K) [] E0 (tCons (tVar 1) (tCons (tC (.int 0)) (tCons (tC (.int 1000000000000000000000000000000)) tNil)))))) tNever tNext)
    (tSeq (tAsg (tC .non) (gName 2))
    (tSeq (tFor (iEnumA K (tCons (tProp C_Profile (getSp C_Profile "column_heights") [] E0 (tVar 0)) tNil)) (gTup K 2 (gCons (gName 3) (gCons (gName 4) gNil))) (tSeq (tIfS (tTest (tOp oGt (tOp oAdd (tVar 4) (tVar 1)) (tC (.int 1000000000000000000000000000000)))) tCont tNext)
    (tSeq (tAsg (tCall (spGain K C_Profile C_Ratio) [] E0 (tCons (tVar 0) (tCons (tVar 3) (tCons (tVar 1) tNil)))) (gName 5))
    (tIfS (tOr (tTest (tOp oIsN (tVar 2) (tC .non))) (tTest (tOp (rOwn C_Ratio (spGt K C_Ratio) E0) (tVar 5) (tOp (rIxT K) (tVar 2) (tC (.int 1)))))) (tAsg (tTup (tCons (tVar 3) (tCons (tVar 5) tNil))) (gName 2)) tNext))))
    (tRet (tVar 2)))))
def t__law_heights67 (K : PySem.W.Frag) : TS :=
  (tSeq (tAsg (tOp oAdd (tC (.int 1)) (tCall (spDraw K) [] E0 (tCons (tVar 0) (tCons (tOp (rIxL K) (tLst (tCons (tC (.int 9)) (tCons (tC (.int 9)) (tCons (tC (.int 9)) (tCons (tC (.int 9)) (tCons (tC (.int 60)) tNil)))))) (tCall (spDraw K) [] E0 (tCons (tVar 0) (tCons (tC (.int 5)) tNil)))) tNil)))) (gName 1))
    (tSeq (tAsg (tOp (rIxL K) (tLst (tCons (tC (.int 2)) (tCons (tC (.int 7)) (tCons (tOp oPow (tC (.int 10)) (tC (.int 6))) (tCons (tOp oPow (tC (.int 10)) (tC (.int 30))) tNil))))) (tCall (spDraw K) [] E0 (tCons (tVar 0) (tCons (tC (.int 4)) tNil)))) (gName 2))
    (tSeq (tAsg (tLc (iRng1 (tCons (tVar 1) tNil)) (gName 4) tYes (tOp oSub (tCall (spDraw K) [] E0 (tCons (tVar 0) (tCons (tOp oAdd (tOp oMul (tC (.int 2)) (tVar 2)) (tC (.int 1))) tNil))) (tVar 2)) [4]) (gName 3))
    (tSeq (tIfS (tTest (tOp rEq (tCall (spDraw K) [] E0 (tCons (tVar 0) (tCons (tC (.int 3)) tNil))) (tC (.int 2)))) (tAsg (tLc (iList K (tVar 3)) (gName 5) tYes (tOp oSub (tOp oPow (tC (.int 10)) (tC (.int 30))) (tOp oMod (tVar 5) (tC (.int 9)))) [5]) (gName 3)) tNext)
    (tRet (tVar 3))))))
def t__law_best (K : PySem.W.Frag) : TS :=
  (tSeq (tAsg (tCall (spLEnd K) [] E0 (tCons (tVar 0) (tCons (tVar 1) tNil))) (gName 3))
    (tSeq (tAsg (tTup tNil) (gName 4))
    (tSeq (tFor (iRng1 (tCons (tCB (cLen K) (tCons (tVar 0) tNil)) tNil)) (gName 5) (tIfS (tTest (tOp oLe (tOp oAdd (tOp (rIxL K) (tVar 0) (tVar 5)) (tVar 2)) (tOp oPow (tC (.int 10)) (tC (.int 30))))) (tSeq (tAsg (tCB (cList K) (tCons (tVar 0) tNil)) (gName 6))
    (tSeq (tAsg (tOp oAdd (tOp (rIxL K) (tVar 6) (tVar 5)) (tVar 2)) (gSub (tVar 6) (tVar 5) rSetL))
    (tSeq (tAsg (tOp oSub (tCall (spLEnd K) [] E0 (tCons (tVar 6) (tCons (tVar 1) tNil))) (tVar 3)) (gName 7))
    (tIfS (tOr (tTest (tOp (rEqD K) (tVar 4) (tTup tNil))) (tTest (tOp oGt (tVar 7) (tOp (rIxT K) (tVar 4) (tC (.int 1)))))) (tAsg (tTup (tCons (tVar 5) (tCons (tVar 7) tNil))) (gName 4)) tNext)))) tNext))
    (tRet (tVar 4)))))
def t_law67b (K : PySem.W.Frag) (C_Profile : Addr) (C_Ratio : Addr) : TS :=
  (tSeq (tIfS (tTest (tOp (rEqD K) (tVar 8) (tTup tNil))) (tRet (tOp oIsN (tVar 7) (tC .non))) tNext)
    (tSeq (tIfS (tOr (tNot (tB (tCB (rIsi K) (tCons (tVar 7) (tCons (tC (.ty "tuple")) tNil))))) (tOr (tTest (tOp rNe (tCB (cLen K) (tCons (tVar 7) tNil)) (tC (.int 2)))) (tNot (tB (tCB (rIsi K) (tCons (tOp (rIxT K) (tVar 7) (tC (.int 1))) (tCons (tC (.ref C_Ratio)) tNil))))))) (tRet (tC (.bl false))) tNext)
    (tSeq (tIfS (tOr (tNot (tB (tCB (rIsi K) (tCons (tOp (rIxT K) (tVar 7) (tC (.int 0))) (tCons (tC (.ty "int")) tNil))))) (tOr (tB (tCB (rIsi K) (tCons (tOp (rIxT K) (tVar 7) (tC (.int 0))) (tCons (tC (.ty "bool")) tNil)))) (tTest (tOp rNe (tOp (rIxT K) (tVar 7) (tC (.int 0))) (tOp (rIxT K) (tVar 8) (tC (.int 0))))))) (tRet (tC (.bl false))) tNext)
    (tSeq (tIfS (tOr (tTest (tOp rNe (tProp C_Ratio (getSp C_Ratio "reduced_bottom") [] E0 (tOp (rIxT K) (tVar 7) (tC (.int 1)))) (tC (.int 1)))) (tTest (tOp rNe (tProp C_Ratio (getSp C_Ratio "reduced_top") [] E0 (tOp (rIxT K) (tVar 7) (tC (.int 1)))) (tOp (rIxT K) (tVar 8) (tC (.int 1)))))) (tRet (tC (.bl false))) tNext)
    (tSeq (tIfS (tTest (tOp (rOwn C_Ratio (spNe67 K C_Ratio) E0) (tOp (rIxT K) (tCall (spBest67 K C_Profile C_Ratio) [] E0 (tCons (tMeth C_Profile "mirrored" (spMirr K C_Profile) [] E0 (tVar 6) tNil) (tCons (tVar 2) tNil))) (tC (.int 1))) (tOp (rIxT K) (tVar 7) (tC (.int 1))))) (tRet (tC (.bl false))) tNext)
    (tRet (tAndV (tOp (rOwn C_Ratio (spEq67 K C_Ratio) E0) (tCall (spGain K C_Profile C_Ratio) [] E0 (tCons (tVar 6) (tCons (tOp (rIxT K) (tVar 8) (tC (.int 0))) (tCons (tVar 2) tNil)))) (tOp (rIxT K) (tVar 7) (tC (.int 1)))) (tOp (rEqG (DIns C_Profile (PEq K C_Profile))) (tVar 6) (tMake C_Profile (spInit K C_Profile) [] E0 (tCons (tVar 3) (tCons (tVar 5) tNil)))))))))))
def t_law67 (K : PySem.W.Frag) (C_Profile : Addr) (C_Ratio : Addr) : TS :=
  (tSeq (tAsg (tCall (spDraws K) [] E0 (tCons (tVar 0) tNil)) (gName 1))
    (tSeq (tAsg (tCall (spDraw K) [] E0 (tCons (tVar 1) (tCons (tOp (rIxL K) (tLst (tCons (tC (.int 2)) (tCons (tC (.int 9)) (tCons (tOp oPow (tC (.int 10)) (tC (.int 6))) (tCons (tOp oAdd (tOp oPow (tC (.int 10)) (tC (.int 30))) (tC (.int 1))) tNil))))) (tCall (spDraw K) [] E0 (tCons (tVar 1) (tCons (tC (.int 4)) tNil)))) tNil))) (gName 2))
    (tSeq (tAsg (tCall (spHeights K) [] E0 (tCons (tVar 1) tNil)) (gName 3))
    (tSeq (tAsg (tOp (rIxL K) (tLst (tCons (tC (.int 1)) (tCons (tC (.int 3)) (tCons (tOp oPow (tC (.int 10)) (tC (.int 30))) tNil)))) (tCall (spDraw K) [] E0 (tCons (tVar 1) (tCons (tC (.int 3)) tNil)))) (gName 4))
    (tSeq (tAsg (tLc (iList K (tVar 3)) (gName 9) tYes (tOp oAdd (tC (.int 1)) (tCall (spDraw K) [] E0 (tCons (tVar 1) (tCons (tVar 4) tNil)))) [9]) (gName 5))
    (tSeq (tAsg (tMake C_Profile (spInit K C_Profile) [] E0 (tCons (tVar 3) (tCons (tVar 5) tNil))) (gName 6))
    (tSeq (tAsg (tCall (spBest67 K C_Profile C_Ratio) [] E0 (tCons (tVar 6) (tCons (tVar 2) tNil))) (gName 7))
    (tSeq (tAsg (tCall (spLBest67 K) [] E0 (tCons (tVar 3) (tCons (tVar 5) (tCons (tVar 2) tNil)))) (gName 8))
    (t_law67b K C_Profile C_Ratio)))))))))
local macro_rules | `(tactic| walk_at "rv st") => `(tactic| first
  | with_reducible refine iteT ?_ | with_reducible refine iteF ?_ | with_reducible refine w_nx ?_ | with_reducible refine w_yes ?_ | with_reducible refine w_rt ?_ | with_reducible refine iteNT ?_ | with_reducible refine iteNF ?_ | with_reducible refine iteNRf ?_ | with_reducible refine iteRf ?_ | with_reducible refine w_seqA ?_ | with_reducible refine w_seqD ?_ | with_reducible refine w_seqP ?_ | with_reducible refine w_asg ?_ | with_reducible refine w_ret ?_ | with_reducible refine w_drop ?_ | with_reducible refine w_ifs ?_ | with_reducible refine w_next ?_ | with_reducible refine w_par ?_
  | with_reducible refine w_op ?_ | with_reducible refine w_un ?_ | ((with_reducible show tVar _ _ _ _); refine' w_var ?hv ?_; (case hv => exact rfl)) | with_reducible refine w_c ?_ | with_reducible refine w_test ?_ | with_reducible refine w_tB ?_
  | with_reducible refine w_bl ?_ | with_reducible refine w_I0 ?_ | with_reducible refine w_U ?_ | with_reducible refine w_eqI ?_ | with_reducible refine w_neI ?_
  | with_reducible refine w_cons ?_ | with_reducible refine w_nil ?_ | with_reducible refine w_gn ?_ | with_reducible refine w_gsub ?_ | with_reducible refine w_and ?_ | with_reducible refine w_or ?_ | with_reducible refine w_not ?_
  | with_reducible refine w_andV ?_ | with_reducible refine w_orV ?_ | with_reducible refine w_notV ?_ | with_reducible refine w_if ?_ | with_reducible refine w_cb ?_ | with_reducible refine w_call ?_ | with_reducible refine w_lst ?_ | with_reducible refine w_tup ?_
  | with_reducible refine w_sl ?_ | with_reducible refine w_noPart ?_ | with_reducible refine w_part ?_ | with_reducible refine w_ex1 ?_ | with_reducible refine w_exb ?_ | with_reducible refine w_intB ?_ | with_reducible refine w_intI ?_ | with_reducible refine w_abs ?_)
local macro_rules | `(tactic| walk_at "rv ix") => `(tactic| ((with_reducible show rIxL _ _ _ _ _); refine' w_ixL (sq_lst ?ha) ?hb ?_; (case ha => first | exact upd_same | assumption); (case hb => first | exact rfl | assumption)))
local macro_rules | `(tactic| walk_at "rv ar") => `(tactic| first
  | (refine' w_I ?hc ?_; (case hc => first | (show (0 : Int) < _; first | assumption | decide | omega) | exact pow_c (by decide) (by decide) (by first | decide | omega) (by first | decide | omega) | exact mul_r (by first | decide | omega) (by first | decide | omega) | exact mul_l (by first | decide | omega) (by first | decide | omega) | exact divw (by first | assumption | decide | omega) (by first | assumption | decide | omega))))
local macro_rules | `(tactic| walk_at "rv go") => `(tactic| repeat first | walk_at "rv st" | walk_at "rv ix" | ((with_reducible show rI _ _ _ _ _ _); walk_at "rv ar"))
theorem p_eq67 {K : PySem.W.Frag} {C : Addr} {vs : List V} {H : Hp} {Q : VK} {E : XK} (h : spEq67 K C vs H Q E) : t_Ratio___eq__ K C { nx := fun _ H' => Q .non H', rt := Q } (start ["self", "other"] vs) H := by
  obtain ⟨a, p, t, n, rfl, R, ⟨_, dx, ha⟩, ⟨_, dy, hp⟩, k⟩ := h
  unfold t_Ratio___eq__
  refine w_seq ?_
  walk_at "rv go"
  refine isi_of (.own C) (.base (.ins hp R.cl R.cA R.cG R.cT R.cM)) kit_self ?_
  walk_at "rv go"
  refine w_fld rfl ha R.cl R.nT (rfl2_t _ _) ?_
  refine w_fld rfl hp R.cl R.nT (rfl2_t _ _) ?_
  walk_at "rv go"
  refine w_both (fun c => ?_) (fun c => ?_)
  · walk_at "rv go"
    refine w_fld rfl ha R.cl R.nB (rfl2_b _ _) ?_
    refine w_fld rfl hp R.cl R.nB (rfl2_b _ _) ?_
    walk_at "rv go"
    rw [decide_eq_true c] at k
    exact k
  · rw [decide_eq_false c] at k
    exact k
theorem p_ne67 {K : PySem.W.Frag} {C : Addr} {vs : List V} {H : Hp} {Q : VK} {E : XK} (h : spNe67 K C vs H Q E) : t_Ratio___ne__ K C { nx := fun _ H' => Q .non H', rt := Q } (start ["self", "other"] vs) H := by
  obtain ⟨a, p, t, n, rfl, R, ha, hp, k⟩ := h
  obtain ⟨_, dx, ha'⟩ := id ha
  obtain ⟨_, dy, hp'⟩ := id hp
  unfold t_Ratio___ne__
  walk_at "rv go"
  refine w_ownO ha' hp' ?_
  refine ⟨a, p, t, n, rfl, R, ha, hp, ?_⟩
  walk_at "rv go"
  exact k
theorem p_best67 {K : PySem.W.Frag} {CP CR : Addr} {vs : List V} {H : Hp} {Q : VK} {E : XK} (h : spBest67 K CP CR vs H Q E) : t_best_dam K CP CR { nx := fun _ H' => Q .non H', rt := Q } (start ["profile", "height", "best", "column", "old", "gain"] vs) H := by
  obtain ⟨p, hs, ws, r, rfl, P, R, hp, ok, r0, r1, k⟩ := h
  obtain ⟨dx, t1, t2, h0, h1, h2⟩ := id hp
  have l60 := ok.le
  unfold t_best_dam
  refine w_seq ?_
  walk_at "rv go"
  refine ⟨.int r, 0, 1000000000000000000000000000000, rfl, .int r, ?_⟩
  have e2 : inI 0 1000000000000000000000000000000 (.int r) = true := by
    show (decide _ && decide _) = true
    rw [decide_eq_true r0, decide_eq_true r1]
    rfl
  rw [e2]
  walk_at "rv go"
  refine w_seq ?_
  refine st_is [some (.ref p), some (.int r), some .non, none, none, none] rfl ?_
  refine w_forEA (a := t1) (xs := hs.map V.int) (fun AQ q => ?_) (.inr (sq_tup h1)) (fun i σ' H' => i ≤ hs.length ∧ Same H H' ∧ ∃ v o3 o4 o5, BestAt CR H' v (bst hs ws r i) ∧ σ' = [some (.ref p), some (.int r), some v, o3, o4, o5]) ⟨Nat.zero_le _, Same.refl H, .non, none, none, none, rfl, rfl⟩ (fun i σ' H' ⟨_, e, _⟩ => ⟨fun z => e.seq z, fun z => sqT_same0 z e⟩) ?_ ?_
  · walk_at "rv go"
    refine w_prop rfl h0 ?_
    refine ⟨p, dx, _, _, rfl, h0, pfl_h _ _, ?_⟩
    walk_at "rv go"
    exact q
  · rintro i x T σ' H1 hx ⟨_, e1, v, o3, o4, o5, hv, rfl⟩ nT
    rw [List.getElem?_map] at hx
    obtain ⟨z, hz, rfl⟩ := Option.map_eq_some_iff.mp hx
    have hi : i < hs.length := (List.getElem?_eq_some_iff.mp hz).1
    have ez : z = hN hs i := by
      unfold hN
      rw [hz]
      rfl
    subst ez
    refine ⟨T, _, rfl, sq_tup upd_same, rfl, _, _, rfl, ?_⟩
    refine ⟨_, _, rfl, rfl, ?_⟩
    have eT : Same H1 (upd H1 T (.tup [.int (i : Int), .int (hN hs i)])) := same_new (Same.refl H1) nT
    generalize upd H1 T (.tup [.int (i : Int), .int (hN hs i)]) = H2 at eT ⊢
    have e2 := e1.trans eT
    have hv2 := hv.same eT
    show tSeq _ _ _ _ _
    refine st_is [some (.ref p), some (.int r), some v, some (.int (i : Int)), some (.int (hN hs i)), o5] rfl ?_
    refine w_seq ?_
    walk_at "rv go"
    refine w_both (fun c => ?_) (fun c => ?_)
    · exact ⟨hi, e2, v, _, _, _, by rw [bst_skip (by omega)]; exact hv2, rfl⟩
    · have hk : HOk1 (hN hs i + r) := ⟨by have := (ok.hh _ (hN_mem hi)).1; omega, by omega⟩
      walk_at "rv go"
      refine gain_call P R (hp.same e2) ok hi r0 r1 hk fun q H3 e3 hq => ?_
      have e23 := e2.trans e3
      have hv3 := hv2.same e3
      walk_at "rv go"
      have hle : hN hs i + r ≤ 1000000000000000000000000000000 := by omega
      have put : tAsg (tTup (tCons (tVar 3) (tCons (tVar 5) tNil))) (gName 2) { nx := fun σ' H' => i + 1 ≤ hs.length ∧ Same H H' ∧ ∃ v o3 o4 o5, BestAt CR H' v (some (i, gnF hs ws r i)) ∧ σ' = [some (.ref p), some (.int r), some v, o3, o4, o5], rt := Q } [some (.ref p), some (.int r), some v, some (.int (i : Int)), some (.int (hN hs i)), some (.ref q)] H3 := by
        walk_at "rv go"
        refine ⟨szl (by show 2 ≤ 100000; omega), fun y ny => ?_⟩
        walk_at "rv go"
        have e4 := same_new (o := .tup [.int (i : Int), .ref q]) (Same.refl H3) ny
        exact ⟨hi, e23.trans e4, _, _, _, _, ⟨y, q, rfl, upd_same, hq.same e4⟩, rfl⟩
      cases hb : bst hs ws r i with
      | none =>
        rw [hb] at hv3
        obtain rfl : v = .non := hv3
        refine ⟨rfl, _, rfl, ?_⟩
        refine iteRf ?_
        refine iteT ?_
        rw [bst_new hle hb]
        exact put
      | some cg =>
        obtain ⟨c, g⟩ := cg
        rw [hb] at hv3
        obtain ⟨t, q', rfl, ht, hq'⟩ := hv3
        obtain ⟨_, dq, hqi⟩ := id hq
        obtain ⟨_, dq', hqi'⟩ := id hq'
        obtain ⟨c1, g1, eb, hc1, ok1, eg, _⟩ : ∃ c g, bst hs ws r i = some (c, g) ∧ c < i ∧ hN hs c + r ≤ 1000000000000000000000000000000 ∧ g = gnF hs ws r c ∧ True := by
          rcases bst_is hs ws r i with ⟨e, _⟩ | ⟨c, g, e, hc, ok, eg, _⟩
          · rw [hb] at e
            cases e
          · exact ⟨c, g, e, hc, ok, eg, trivial⟩
        rw [hb] at eb
        cases eb
        have sg : Sz 300 g := by
          rw [eg]
          exact gnF_sz ok (by omega) ⟨by have := (ok.hh _ (hN_mem (show c < hs.length by omega))).1; omega, ok1⟩
        have si : Sz 300 (gnF hs ws r i) := gnF_sz ok hi hk
        have s1 : Sz 300 (1 : Int) := sz_lit (M := 1) (by decide)
        refine ⟨rfl, _, rfl, ?_⟩
        rw [decide_eq_false (show ¬ V.ref t = V.non from fun z => nomatch z)]
        refine iteF ?_
        walk_at "rv go"
        refine w_ixT (xs := [.int (c : Int), .ref q']) (v := .ref q') (sq_tup ht) rfl ?_
        refine w_ownO hqi hqi' ?_
        refine ⟨q, .ref q', _, 1, _, 1, rfl, R, hq, .inr ⟨q', rfl, hq'⟩, si.mono (by decide), s1.mono (by decide), sg.mono (by decide), s1.mono (by decide), fun H4 e4 => ?_⟩
        refine ⟨_, rfl, ?_⟩
        have er : ∀ N : L2.St → Hp → Prop, True := fun _ => trivial
        rw [bst_more hle hb]
        refine w_both (fun l => ?_) (fun l => ?_)
        · rw [if_pos (by unfold gnF; omega)]
          walk_at "rv go"
          refine ⟨szl (by show 2 ≤ 100000; omega), fun y ny => ?_⟩
          walk_at "rv go"
          have e5 := same_new (o := .tup [.int (i : Int), .ref q]) (Same.refl H4) ny
          exact ⟨hi, (e23.trans e4).trans e5, _, _, _, _, ⟨y, q, rfl, upd_same, (hq.same e4).same e5⟩, rfl⟩
        · rw [if_neg (by unfold gnF; omega)]
          walk_at "rv go"
          exact ⟨hi, e23.trans e4, _, _, _, _, ⟨t, q', rfl, e4 _ _ ht, hq'.same e4⟩, rfl⟩
  · rintro σ' H' ⟨_, e, v, o3, o4, o5, hv, rfl⟩
    rw [List.length_map] at hv
    walk_at "rv go"
    exact k v H' e hv
/-- [e for z in l], a list of ints at hand -/
theorem w_lcIL {K : PySem.W.Frag} {σ : L2.St} {H : Hp} {Q : VK} {slot : Nat} {te : TE} {g : Int → Int} {t : Addr} {zs : List Int} (hx : H t = some (.lst (zs.map V.int))) (hlen : zs.length ≤ 1000)
    (hs : ∀ z ∈ zs, ∀ H1 (Q : VK), Same H H1 → (∀ H2, Same H1 H2 → Q (.int (g z)) H2) → te ((σ.set slot none).set slot (some (.int z))) H1 Q)
    (k : ∀ D H1, H D = none → Same H H1 → H1 D = some (.lst ((zs.map g).map V.int)) → Q (.ref D) H1) : tLc (iAt K t) (gName slot) tYes te [slot] σ H Q := by
  refine w_lcA (sq_lst hx) (fun D i acc H' => acc = ((zs.take i).map g).map V.int ∧ Same H H' ∧ H D = none ∧ H' D = some (.lst acc)) (fun D nD => ⟨by rw [List.take_zero]; rfl, same_new (Same.refl H) nD, nD, upd_same⟩) (fun D i acc H' ⟨_, e, _⟩ => sq_lst (e _ _ hx)) ?_ ?_
  · rintro D i acc x H' hxi ⟨rfl, e, nD, hD⟩
    rw [List.getElem?_map] at hxi
    obtain ⟨z, hz, rfl⟩ := Option.map_eq_some_iff.mp hxi
    have il : i < zs.length := (List.getElem?_eq_some_iff.mp hz).1
    refine ⟨?_, ?_⟩
    · show ((σ.set slot none).set slot _).set slot none = σ.set slot none
      rw [List.set_set, List.set_set]
    · refine w_yes ?_
      refine iteT ?_
      refine hs z (List.mem_of_getElem? hz) H' _ e fun H2 e2 => ?_
      refine ⟨_, e2 _ _ hD, Nat.lt_of_lt_of_le (show (((zs.take i).map g).map V.int).length < 100001 by simp; omega) (by decide), _, ?_, ?_, nD, upd_same⟩
      · rw [List.take_add_one, hz]
        simp
      · exact fun c o hc => by
          rw [upd_ne (ne_of_none hc nD)]
          exact e2 _ _ (e _ _ hc)
  · rintro D acc H3 ⟨rfl, e3, nD, hD⟩
    rw [List.length_map, List.take_length] at hD
    exact k D H3 nD e3 hD
theorem e30d : (10 : Int) ^ Int.toNat 30 = 1000000000000000000000000000000 := rfl
theorem p_hts67 {K : PySem.W.Frag} {vs : List V} {H : Hp} {Q : VK} {E : XK} (h : spHeights K vs H Q E) : t__law_heights67 K { nx := fun _ H' => Q .non H', rt := Q } (start ["_law_draws_here", "_law_many", "_law_size", "_law_heights_here", "_law_k", "_law_one"] vs) H := by
  obtain ⟨d, c, rfl, hD, k⟩ := h
  unfold t__law_heights67
  walk_at "rv go"
  refine ⟨szl (by decide), fun p1 n1 => ?_⟩
  have n1d : p1 ≠ d := hD.nd n1
  walk_at "rv go"
  have b1 : But d H (upd H p1 (.lst [.int 9, .int 9, .int 9, .int 9, .int 60])) := (But.refl d H).new n1
  refine draw_call (hD.new (same_new (Same.refl H) n1)) (by decide) (by decide) fun r1 H1 r1a r1b e1 D1 => ?_
  have l1 : H1 p1 = some (.lst [.int 9, .int 9, .int 9, .int 9, .int 60]) := e1 _ _ n1d upd_same
  have hm : ∃ m : Int, 0 < m ∧ m ≤ 60 ∧ atI [V.int 9, V.int 9, V.int 9, V.int 9, V.int 60] r1 = some (.int m) := by
    rcases (show r1 = 0 ∨ r1 = 1 ∨ r1 = 2 ∨ r1 = 3 ∨ r1 = 4 by omega) with rfl | rfl | rfl | rfl | rfl
    · exact ⟨9, by decide, by decide, rfl⟩
    · exact ⟨9, by decide, by decide, rfl⟩
    · exact ⟨9, by decide, by decide, rfl⟩
    · exact ⟨9, by decide, by decide, rfl⟩
    · exact ⟨60, by decide, by decide, rfl⟩
  obtain ⟨m, m0, m60, em⟩ := hm
  refine w_ixL (sq_lst l1) em ?_
  walk_at "rv go"
  refine draw_call D1 m0 (Int.lt_of_le_of_lt m60 (by decide)) fun r2 H2 r2a r2b e2 D2 => ?_
  walk_at "rv go"
  refine ⟨szl (by decide), fun p2 n2 => ?_⟩
  walk_at "rv go"
  have n2d : p2 ≠ d := D2.nd n2
  refine draw_call (D2.new (same_new (Same.refl H2) n2)) (by decide) (by decide) fun r3 H3 r3a r3b e3 D3 => ?_
  have l3 : H3 p2 = some (.lst [.int 2, .int 7, .int (10 ^ Int.toNat 6), .int (10 ^ Int.toNat 30)]) := e3 _ _ n2d upd_same
  have hz : ∃ z : Int, 0 < z ∧ z ≤ 1000000000000000000000000000000 ∧ atI [V.int 2, V.int 7, V.int (10 ^ Int.toNat 6), V.int (10 ^ Int.toNat 30)] r3 = some (.int z) := by
    have c : r3 = 0 ∨ r3 = 1 ∨ r3 = 2 ∨ r3 = 3 := by omega
    rcases c with rfl | rfl | rfl | rfl
    · exact ⟨2, by decide, by decide, rfl⟩
    · exact ⟨7, by decide, by decide, rfl⟩
    · exact ⟨10 ^ Int.toNat 6, by decide, by decide, rfl⟩
    · exact ⟨10 ^ Int.toNat 30, by decide, by decide, rfl⟩
  obtain ⟨z, z0, z1, ez⟩ := hz
  refine w_ixL (sq_lst l3) ez ?_
  walk_at "rv go"
  have eN : (((1 + r2).toNat : Nat) : Int) = 1 + r2 := Int.toNat_of_nonneg (by omega)
  have b3 : But d H H3 := ((b1.trans e1).trans e2).trans (((But.refl d H2).new n2).trans e3)
  refine w_lcDraw (n := (1 + r2).toNat) (G := HOk1) D3 (by omega) (fun AQ q => ?_) (fun j H4 Q4 b4 D4 q4 => ?_) fun l H5 hs hl hok b5 D5 nl hh => ?_
  · rw [eN] at q
    walk_at "rv go"
    exact q
  · walk_at "rv go"
    refine draw_call D4 (by omega) (Int.lt_of_le_of_lt (b := 2000000000000000000000000000001) (by omega) (by decide)) fun r H6 ra rb e6 D6 => ?_
    walk_at "rv go"
    exact q4 _ _ ⟨by omega, by omega⟩ e6 D6
  have l1' : 1 ≤ hs.length := by omega
  have l60 : hs.length ≤ 60 := by omega
  have b35 := b3.trans b5
  have nl0 : H l = none := b3.free (D3.nd nl) nl
  refine w_gn ?_
  refine st_is [some (.ref d), some (.int (1 + r2)), some (.int z), some (.ref l), none, none] rfl ?_
  refine w_cut (fun σ' H' => ∃ (l : Addr) (hs : List Int), σ' = [some (.ref d), some (.int (1 + r2)), some (.int z), some (.ref l), none, none] ∧ 1 ≤ hs.length ∧ hs.length ≤ 60 ∧ (∀ z ∈ hs, HOk1 z) ∧ But d H H' ∧ DrawsAt H' d c ∧ H l = none ∧ H' l = some (.lst (hs.map V.int))) (fun N hX => ?_) ?_
  · walk_at "rv go"
    refine draw_call D5 (by decide) (by decide) fun r H6 ra rb b6 D6 => ?_
    have hh6 := b6 _ _ (D3.nd nl) hh
    walk_at "rv go"
    refine w_both (fun _ => ?_) (fun _ => ?_)
    · refine w_asg ?_
      refine w_lcl ?_
      walk_at "rv go"
      refine ⟨l, rfl, ?_⟩
      refine w_lcIL (g := fun z => 1000000000000000000000000000000 - z % 9) hh6 (by omega) (fun y hy H7 Q7 e7 q7 => ?_) fun l7 H7 n7 e7 h7 => ?_
      · walk_at "rv go"
        exact q7 H7 (Same.refl _)
      · refine w_gn ?_
        have n6 : H6 l7 = none := n7
        refine hX _ _ ⟨l7, _, rfl, by rw [List.length_map]; exact l1', by rw [List.length_map]; exact l60, fun y hy => ?_, (b35.trans b6).trans (fun b o _ hb => e7 _ _ hb), D6.new e7, (b35.trans b6).free (D6.nd n7) n7, h7⟩
        obtain ⟨x, _, rfl⟩ := List.mem_map.mp hy
        exact ⟨by show -1000000000000000000000000000000 ≤ 1000000000000000000000000000000 - x % 9; omega, by show 1000000000000000000000000000000 - x % 9 ≤ 1000000000000000000000000000000; omega⟩
    · walk_at "rv go"
      exact hX _ _ ⟨l, hs, rfl, l1', l60, hok, b35.trans b6, D6, nl0, hh6⟩
  rintro _ H6 ⟨l6, hs6, rfl, g1, g2, g3, g4, g5, g6, g7⟩
  walk_at "rv go"
  exact k l6 H6 hs6 g1 g2 g3 g4 g5 g6 g7
theorem eqD_e {K : PySem.W.Frag} {H : Hp} {Q : VK} {a b : Addr} {zs : List Int} (h1 : H a = some (.tup (zs.map V.int))) (h2 : H b = some (.tup [])) (q : Q (.bl zs.isEmpty) H) : rEqD K (.ref a) (.ref b) H Q := by
  refine ⟨.tuple (zs.map PyData.int), .tuple [], .tup (sq_tup h1) (dp_ints zs), .tup (sq_tup h2) .nil, shT_ints zs, by decide +kernel, ?_⟩
  cases zs with
  | nil => exact q
  | cons z r => exact q
theorem p_lbest67 {K : PySem.W.Frag} {vs : List V} {H : Hp} {Q : VK} {E : XK} (h : spLBest67 K vs H Q E) : t__law_best K { nx := fun _ H' => Q .non H', rt := Q } (start ["_law_heights_here", "_law_shares", "_law_rise", "_law_base", "_law_best_here", "_law_at", "_law_raised", "_law_gain"] vs) H := by
  obtain ⟨a, b, hs, ws, r, rfl, ha, hb, ok, r0, r1, k⟩ := h
  have l60 := ok.le
  unfold t__law_best
  walk_at "rv go"
  refine lend_call ha hb ok fun H1 e1 => ?_
  walk_at "rv go"
  refine ⟨szl (by show 0 ≤ 100000; omega), fun t0 nt0 => ?_⟩
  have e2 := same_new (o := .tup []) e1 nt0
  have ht0 : (upd H1 t0 (.tup [])) t0 = some (.tup ((lbV (bst hs ws r 0)).map V.int)) := upd_same
  generalize upd H1 t0 (.tup []) = H2 at e2 ht0 ⊢
  walk_at "rv go"
  refine w_seq ?_
  refine w_forR (n := hs.length) (by omega) (fun AQ q => ?_) (fun i σ' H' => Same H H' ∧ ∃ t o5 o6 o7, H' t = some (.tup ((lbV (bst hs ws r i)).map V.int)) ∧ σ' = [some (.ref a), some (.ref b), some (.int r), some (.int (eV hs ws)), some (.ref t), o5, o6, o7]) ⟨e2, t0, none, none, none, ht0, rfl⟩ ?_ ?_
  · walk_at "rv go"
    refine w_lenL (sq_lst (e2 _ _ ha)) ?_
    walk_at "rv go"
    rw [List.length_map]
    exact q
  · rintro i σ' H3 hi ⟨e3, t, o5, o6, o7, ht, rfl⟩
    refine st_is [some (.ref a), some (.ref b), some (.int r), some (.int (eV hs ws)), some (.ref t), some (.int (i : Int)), o6, o7] rfl ?_
    have ha3 := e3 _ _ ha
    have hb3 := e3 _ _ hb
    walk_at "rv go"
    refine w_ixL (sq_lst ha3) (at_hN hi) ?_
    walk_at "rv go"
    rw [e30d]
    refine w_both (fun c => ?_) (fun c => ?_)
    · have hk : HOk1 (hN hs i + r) := ⟨by have := (ok.hh _ (hN_mem hi)).1; omega, c⟩
      walk_at "rv go"
      refine list_callR (.inl ha3) fun l nl => ?_
      walk_at "rv go"
      refine w_ixL (sq_lst upd_same) (at_hN hi) ?_
      walk_at "rv go"
      refine w_setL (xs := hs.map V.int) (j := i) upd_same (by rw [List.length_map]; exact ixN_nat hi) ?_
      rw [map_set]
      have eS : Same H3 (upd (upd H3 l (.lst (hs.map V.int))) l (.lst ((hs.set i (hN hs i + r)).map V.int))) := fun b o hb => by
        have n : b ≠ l := ne_of_none hb nl
        rw [upd_ne n, upd_ne n]
        exact hb
      have hl : (upd (upd H3 l (.lst (hs.map V.int))) l (.lst ((hs.set i (hN hs i + r)).map V.int))) l = some (.lst ((rsA hs i r).map V.int)) := upd_same
      generalize upd (upd H3 l (.lst (hs.map V.int))) l (.lst ((hs.set i (hN hs i + r)).map V.int)) = H4 at eS hl ⊢
      walk_at "rv go"
      refine lend_call hl (eS _ _ hb3) (rsA_ok ok hi hk) fun H5 e5 => ?_
      have e35 := eS.trans e5
      walk_at "rv go"
      refine ⟨szl (by show 0 ≤ 100000; omega), fun tn ntn => ?_⟩
      have e6 := same_new (o := .tup []) (Same.refl H5) ntn
      have htn : (upd H5 tn (.tup [])) tn = some (.tup []) := upd_same
      generalize upd H5 tn (.tup []) = H6 at e6 htn ⊢
      have e36 := e35.trans e6
      have e06 := e3.trans e36
      walk_at "rv go"
      refine eqD_e (e36 _ _ ht) htn ?_
      walk_at "rv go"
      cases hbb : bst hs ws r i with
      | none =>
        refine iteT ?_
        refine iteT ?_
        walk_at "rv go"
        refine ⟨szl (by show 2 ≤ 100000; omega), fun y ny => ?_⟩
        walk_at "rv go"
        refine ⟨e06.trans (same_new (Same.refl H6) ny), y, _, _, _, ?_, rfl⟩
        rw [bst_new c hbb]
        exact upd_same
      | some cg =>
        obtain ⟨c1, g1⟩ := cg
        rw [hbb] at ht
        refine iteF ?_
        walk_at "rv go"
        refine w_ixT (xs := [.int (c1 : Int), .int g1]) (v := .int g1) (sq_tup (e36 _ _ ht)) rfl ?_
        walk_at "rv go"
        refine w_both (fun l => ?_) (fun l => ?_)
        · walk_at "rv go"
          refine ⟨szl (by show 2 ≤ 100000; omega), fun y ny => ?_⟩
          walk_at "rv go"
          refine ⟨e06.trans (same_new (Same.refl H6) ny), y, _, _, _, ?_, rfl⟩
          rw [bst_more c hbb, if_pos (show g1 < gnF hs ws r i from l)]
          exact upd_same
        · walk_at "rv go"
          refine ⟨e06, t, _, _, _, ?_, rfl⟩
          rw [bst_more c hbb, if_neg (show ¬ g1 < gnF hs ws r i from l)]
          exact e36 _ _ ht
    · walk_at "rv go"
      refine ⟨e3, t, _, _, _, ?_, rfl⟩
      rw [bst_skip c]
      exact ht
  · rintro σ' H3 ⟨e3, t, o5, o6, o7, ht, rfl⟩
    walk_at "rv go"
    exact k t H3 e3 ht
theorem p_law67b {K : PySem.W.Frag} {CP CR : Addr} {Q : VK} {H : Hp} {a d ha hw g t : Addr} {v z4 : V} {r : Int} {hs ws : List Int} {o9 : Option V} (P : PCls K CP) (R : RCls K CR) (hh : H ha = some (.lst (hs.map V.int))) (hww : H hw = some (.lst (ws.map V.int))) (ok : PrOk hs ws) (hg : ProfAt K CP H g hs ws) (r0 : 0 ≤ r) (r1 : r ≤ 1000000000000000000000000000000)
    (hv : BestAt CR H v (bst hs ws r hs.length)) (ht : H t = some (.tup ((lbV (bst hs ws r hs.length)).map V.int))) (k : ∀ H', Q (.bl true) H') :
    t_law67b K CP CR { nx := fun _ H' => Q .non H', rt := Q } [some (.ref a), some (.ref d), some (.int r), some (.ref ha), some z4, some (.ref hw), some (.ref g), some v, some (.ref t), o9] H := by
  have l60 := ok.le
  unfold t_law67b
  refine w_seq ?_
  walk_at "rv go"
  refine ⟨szl (by show 0 ≤ 100000; omega), fun tn ntn => ?_⟩
  have e1 := same_new (o := .tup []) (Same.refl H) ntn
  have htn : (upd H tn (.tup [])) tn = some (.tup []) := upd_same
  generalize upd H tn (.tup []) = H1 at e1 htn ⊢
  walk_at "rv go"
  refine eqD_e (e1 _ _ ht) htn ?_
  walk_at "rv go"
  cases hb : bst hs ws r hs.length with
  | none =>
    rw [hb] at hv
    obtain rfl : v = .non := hv
    refine iteT ?_
    walk_at "rv go"
    refine ⟨rfl, ?_⟩
    rw [decide_eq_true rfl]
    exact k _
  | some cg =>
    obtain ⟨c, gg⟩ := cg
    rw [hb] at hv ht
    obtain ⟨tv, q, rfl, htv, hq⟩ := hv
    obtain ⟨cr, hcr, hbr⟩ := bst_rev (r := r) ok.eq hb
    obtain ⟨hc, hkc, eg⟩ : c < hs.length ∧ hN hs c + r ≤ 1000000000000000000000000000000 ∧ gg = gnF hs ws r c := by
      rcases bst_is hs ws r hs.length with ⟨e, _⟩ | ⟨c', g', e, hc, ok, eg, _⟩
      · rw [hb] at e
        cases e
      · rw [hb] at e
        cases e
        exact ⟨hc, ok, eg⟩
    have hk : HOk1 (hN hs c + r) := ⟨by have := (ok.hh _ (hN_mem hc)).1; omega, hkc⟩
    have hv1 := e1 _ _ htv
    have hq1 := hq.same e1
    have ht1 := e1 _ _ ht
    obtain ⟨_, dq, hqi⟩ := id hq1
    have at0 : atI [V.int (c : Int), .ref q] 0 = some (.int (c : Int)) := rfl
    have at1 : atI [V.int (c : Int), .ref q] 1 = some (.ref q) := rfl
    refine iteF ?_
    walk_at "rv go"
    refine w_seq ?_
    walk_at "rv go"
    refine isi_of (.ty "tuple") (.base (.tup hv1)) kit_tt ?_
    walk_at "rv go"
    refine w_lenT (sq_tup hv1) ?_
    walk_at "rv go"
    refine w_bothN (fun z => absurd rfl z) (fun _ => ?_)
    walk_at "rv go"
    refine w_ixT (sq_tup hv1) at1 ?_
    walk_at "rv go"
    refine isi_of (.own CR) (.base (.ins hqi R.cl R.cA R.cG R.cT R.cM)) kit_self ?_
    walk_at "rv go"
    refine w_seq ?_
    walk_at "rv go"
    refine w_ixT (sq_tup hv1) at0 ?_
    walk_at "rv go"
    refine isi_of (.ty "int") (.base (.int (c : Int))) kit_ii ?_
    walk_at "rv go"
    refine w_ixT (sq_tup hv1) at0 ?_
    walk_at "rv go"
    refine isi_of (.ty "bool") (.base (.int (c : Int))) kit_ib ?_
    walk_at "rv go"
    refine w_ixT (sq_tup hv1) at0 ?_
    walk_at "rv go"
    refine w_ixT (xs := [.int (c : Int), .int gg]) (v := .int (c : Int)) (sq_tup ht1) rfl ?_
    walk_at "rv go"
    refine w_seq ?_
    walk_at "rv go"
    refine w_propE ?_
    walk_at "rv go"
    refine w_ixT (sq_tup hv1) at1 ?_
    refine ⟨q, dq, _, rfl, hqi, q, dq, _, _, rfl, hqi, rfl2_b _ _, ?_⟩
    walk_at "rv go"
    refine w_propE ?_
    walk_at "rv go"
    refine w_ixT (sq_tup hv1) at1 ?_
    refine ⟨q, dq, _, rfl, hqi, q, dq, _, _, rfl, hqi, rfl2_t _ _, ?_⟩
    walk_at "rv go"
    refine w_ixT (xs := [.int (c : Int), .int gg]) (v := .int gg) (sq_tup ht1) rfl ?_
    walk_at "rv go"
    refine w_seq ?_
    walk_at "rv go"
    refine w_meth ?_
    walk_at "rv go"
    have hg1 := hg.same e1
    obtain ⟨dx, t1, t2, hgi, _, _⟩ := id hg1
    refine ⟨g, dx, _, rfl, hgi, pfl_none _ _ (by decide +kernel) (by decide +kernel), ?_⟩
    walk_at "rv go"
    refine ⟨g, hs, ws, rfl, P, hg1, ok, fun m H2 nm e2 hm => ?_⟩
    walk_at "rv go"
    refine ⟨m, hs.reverse, ws.reverse, r, rfl, P, R, hm, ⟨by rw [List.length_reverse]; exact ok.pos, by rw [List.length_reverse]; exact ok.le, by rw [List.length_reverse, List.length_reverse]; exact ok.eq, fun z hz => ok.hh z (List.mem_reverse.mp hz), fun z hz => ok.ww z (List.mem_reverse.mp hz)⟩, r0, r1, fun vr H3 e3 hvr => ?_⟩
    rw [List.length_reverse, hbr] at hvr
    obtain ⟨tr, qr, rfl, htr, hqr⟩ := hvr
    have e13 := e2.trans e3
    have hq3 := hq1.same e13
    obtain ⟨_, dq3, hqi3⟩ := id hq3
    obtain ⟨_, dr3, hri3⟩ := id hqr
    walk_at "rv go"
    refine w_ixT (xs := [.int (cr : Int), .ref qr]) (v := .ref qr) (sq_tup htr) rfl ?_
    walk_at "rv go"
    refine w_ixT (xs := [.int (c : Int), .ref q]) (v := .ref q) (sq_tup (e13 _ _ hv1)) rfl ?_
    refine w_ownO hri3 hqi3 ?_
    refine ⟨qr, q, gg, gg, rfl, R, hqr, hq3, ?_⟩
    walk_at "rv go"
    refine w_ixT (xs := [.int (c : Int), .int gg]) (v := .int (c : Int)) (sq_tup (e13 _ _ ht1)) rfl ?_
    walk_at "rv go"
    refine gain_call P R (hg1.same e13) ok hc r0 r1 hk fun q4 H4 e4 hq4 => ?_
    have hq4' := hq3.same e4
    obtain ⟨_, d4, hqi4⟩ := id hq4
    obtain ⟨_, d4', hqi4'⟩ := id hq4'
    walk_at "rv go"
    refine w_ixT (xs := [.int (c : Int), .ref q]) (v := .ref q) (sq_tup (e4 _ _ (e13 _ _ hv1))) rfl ?_
    refine w_ownO hqi4 hqi4' ?_
    refine ⟨q4, q, _, gg, rfl, R, hq4, hq4', ?_⟩
    rw [decide_eq_true (show eV (rsA hs c r) ws - eV hs ws = gg from eg.symm)]
    walk_at "rv go"
    refine w_make ?_
    walk_at "rv go"
    have e14 := e13.trans e4
    have e04 := e1.trans e14
    refine mk_prof21 (us := [.ref ha, .ref hw]) (dvs := []) rfl P (e04 _ _ hh) ok.pos ok.le ok.hh (.inr ⟨hw, rfl, e04 _ _ hww, ok.eq, ok.ww⟩) fun g' H7 ng' e7 hg7 => ?_
    walk_at "rv go"
    have hgF := (hg1.same e14).same e7
    obtain ⟨dx, t1, t2, h0, h1, h2⟩ := id hgF
    obtain ⟨dx', t1', t2', h0', h1', h2'⟩ := id hg7
    exact ⟨⟨g, g', dx, dx', _, _, rfl, rfl, h0, h0', P, hs, ws, hgF, hg7⟩, fun H8 _ => k H8⟩
theorem p_law67 {K : PySem.W.Frag} {CP CR : Addr} {vs : List V} {H : Hp} {Q : VK} {E : XK} (h : spLaw67 K CP CR vs H Q E) : t_law67 K CP CR { nx := fun _ H' => Q .non H', rt := Q } (start ["_law_script", "_law_draws_here", "_law_rise", "_law_heights_here", "_law_size", "_law_shares", "_law_ground", "_law_told", "_law_due", "_law_one"] vs) H := by
  obtain ⟨a, ns, rfl, hS, P, R, k⟩ := h
  unfold t_law67
  walk_at "rv go"
  refine ⟨a, ns, rfl, hS, fun d c H1 nd nc e1 D1 => ?_⟩
  walk_at "rv go"
  refine ⟨szl (by show 4 ≤ 100000; omega), fun px nx => ?_⟩
  have e2 := same_new (o := .lst [.int 2, .int 9, .int (10 ^ Int.toNat 6), .int (10 ^ Int.toNat 30 + 1)]) (Same.refl H1) nx
  have hx : (upd H1 px (.lst [.int 2, .int 9, .int (10 ^ Int.toNat 6), .int (10 ^ Int.toNat 30 + 1)])) px = some (.lst [.int 2, .int 9, .int (10 ^ Int.toNat 6), .int (10 ^ Int.toNat 30 + 1)]) := upd_same
  generalize upd H1 px (.lst [.int 2, .int 9, .int (10 ^ Int.toNat 6), .int (10 ^ Int.toNat 30 + 1)]) = H2 at e2 hx ⊢
  have nxd : px ≠ d := D1.nd nx
  have D2 := D1.new e2
  walk_at "rv go"
  refine draw_call D2 (by decide) (by decide) fun f H3 fa fb b3 D3 => ?_
  have hz : ∃ z : Int, 0 < z ∧ z ≤ 1000000000000000000000000000001 ∧ atI [V.int 2, V.int 9, V.int (10 ^ Int.toNat 6), V.int (10 ^ Int.toNat 30 + 1)] f = some (.int z) := by
    have c : f = 0 ∨ f = 1 ∨ f = 2 ∨ f = 3 := by omega
    rcases c with rfl | rfl | rfl | rfl
    · exact ⟨2, by decide, by decide, rfl⟩
    · exact ⟨9, by decide, by decide, rfl⟩
    · exact ⟨10 ^ Int.toNat 6, by decide, by decide, rfl⟩
    · exact ⟨10 ^ Int.toNat 30 + 1, by decide, by decide, rfl⟩
  obtain ⟨z, z0, z1, ez⟩ := hz
  refine w_ixL (sq_lst (b3 _ _ nxd hx)) ez ?_
  walk_at "rv go"
  refine draw_call D3 z0 (Int.lt_of_le_of_lt z1 (by decide)) fun r H4 ra rb b4 D4 => ?_
  walk_at "rv go"
  refine ⟨d, c, rfl, D4, fun ha H5 hs l1 l60 hok b5 D5 nha hh => ?_⟩
  have had : ha ≠ d := D4.nd nha
  walk_at "rv go"
  refine ⟨szl (by show 3 ≤ 100000; omega), fun py ny => ?_⟩
  have e6 := same_new (o := .lst [.int 1, .int 3, .int (10 ^ Int.toNat 30)]) (Same.refl H5) ny
  have hy : (upd H5 py (.lst [.int 1, .int 3, .int (10 ^ Int.toNat 30)])) py = some (.lst [.int 1, .int 3, .int (10 ^ Int.toNat 30)]) := upd_same
  generalize upd H5 py (.lst [.int 1, .int 3, .int (10 ^ Int.toNat 30)]) = H6 at e6 hy ⊢
  have nyd : py ≠ d := D5.nd ny
  have D6 := D5.new e6
  walk_at "rv go"
  refine draw_call D6 (by decide) (by decide) fun s H7 sa sb b7 D7 => ?_
  have hw : ∃ w : Int, 0 < w ∧ w ≤ 1000000000000000000000000000000 ∧ atI [V.int 1, V.int 3, V.int (10 ^ Int.toNat 30)] s = some (.int w) := by
    have c : s = 0 ∨ s = 1 ∨ s = 2 := by omega
    rcases c with rfl | rfl | rfl
    · exact ⟨1, by decide, by decide, rfl⟩
    · exact ⟨3, by decide, by decide, rfl⟩
    · exact ⟨10 ^ Int.toNat 30, by decide, by decide, rfl⟩
  obtain ⟨w, w0, w1, ew⟩ := hw
  refine w_ixL (sq_lst (b7 _ _ nyd hy)) ew ?_
  have hh7 := b7 _ _ had (e6 _ _ hh)
  refine w_gn ?_
  refine st_is [some (.ref a), some (.ref d), some (.int r), some (.ref ha), some (.int w), none, none, none, none, none] rfl ?_
  refine w_seqA ?_
  refine w_lcl ?_
  walk_at "rv go"
  refine ⟨ha, rfl, ?_⟩
  refine w_lcA (sq_lst hh7) (fun D i acc H' => ∃ ws : List Int, acc = ws.map V.int ∧ ws.length = i ∧ (∀ z ∈ ws, WOk1 z) ∧ But d H7 H' ∧ DrawsAt H' d c ∧ H' D = some (.lst acc) ∧ D ≠ d ∧ D ≠ c ∧ H7 D = none)
    (fun D nD => ⟨[], rfl, rfl, (fun _ h => nomatch h), (But.refl d H7).new nD, D7.new (same_new (Same.refl H7) nD), upd_same, D7.nd nD, D7.nc nD, nD⟩) (fun D i acc H' ⟨_, _, _, _, b, _⟩ => sq_lst (b _ _ had hh7)) ?_ ?_
  · rintro D i acc x H' hx ⟨ws, rfl, hl, wok, b, DD, hD', nDd, nDc, nD⟩
    refine ⟨rfl, ?_⟩
    walk_at "rv go"
    refine draw_call DD w0 (Int.lt_of_le_of_lt w1 (by decide)) fun r H4 ra rb e4 D4 => ?_
    walk_at "rv go"
    have il : i < hs.length := by
      have := (List.getElem?_eq_some_iff.mp hx).1
      rw [List.length_map] at this
      exact this
    refine ⟨ws.map V.int, e4 _ _ nDd hD', Nat.lt_of_lt_of_le (by rw [List.length_map]; omega : _ < 100001) (by decide), (ws ++ [1 + r]).map V.int, ws ++ [1 + r], rfl, by rw [List.length_append]; show ws.length + 1 = i + 1; omega, fun y hy => ?_, ?_, D4.wr nDd nDc, ?_, nDd, nDc, nD⟩
    · rcases List.mem_append.mp hy with h | h
      · exact wok y h
      · rw [List.mem_singleton.mp h]
        exact ⟨by omega, by omega⟩
    · exact fun c o nc h => by
        have q := (b.trans e4) c o nc h
        rw [upd_ne (ne_of_none h nD)]
        exact q
    · rw [← map_app]
      exact upd_same
  rintro hwA acc H8 ⟨ws, rfl, hlw, wok, b8, D8, hww, nwd, nwc, nw⟩
  rw [List.length_map] at hlw
  have hh8 := b8 _ _ had hh7
  have ok : PrOk hs ws := ⟨l1, l60, hlw, hok, wok⟩
  refine w_gn ?_
  refine st_is [some (.ref a), some (.ref d), some (.int r), some (.ref ha), some (.int w), some (.ref hwA), none, none, none, none] rfl ?_
  walk_at "rv go"
  refine w_make ?_
  walk_at "rv go"
  refine mk_prof21 (us := [.ref ha, .ref hwA]) (dvs := []) rfl P hh8 ok.pos ok.le ok.hh (.inr ⟨hwA, rfl, hww, ok.eq, ok.ww⟩) fun g H9 ng e9 hg => ?_
  walk_at "rv go"
  have r1 : r ≤ 1000000000000000000000000000000 := by omega
  refine ⟨g, hs, ws, r, rfl, P, R, hg, ok, ra, r1, fun v H10 e10 hv => ?_⟩
  walk_at "rv go"
  have e810 := e9.trans e10
  refine ⟨ha, hwA, hs, ws, r, rfl, e810 _ _ hh8, e810 _ _ hww, ok, ra, r1, fun t H11 e11 ht => ?_⟩
  have e811 := e810.trans e11
  refine w_gn ?_
  refine st_is [some (.ref a), some (.ref d), some (.int r), some (.ref ha), some (.int w), some (.ref hwA), some (.ref g), some v, some (.ref t), none] rfl ?_
  exact p_law67b P R (e811 _ _ hh8) (e811 _ _ hww) ok ((hg.same e10).same e11) ra r1 (hv.same e11) ht k
end Rv
namespace Rv
open PySem PySem.Spec PyProof.Rows L2
def top (i : Nat) : Stmt := PySem.Challenge.pw_rainvalleys_k67_whole_best_dams.main.body.getD i (.Pass ⟨0, 0, 0, 0⟩)
abbrev s__law_draws : Stmt := top 32
theorem sc__law_draws : FnScope ["_law_script"] ["_law_script"] (defScope s__law_draws) := ⟨rfl, rfl, rfl, by decide +kernel, rfl, by decide +kernel, by decide +kernel⟩
theorem d__law_draws {P : Program} {w : World} {K : PySem.W.Frag} {mg : Str → Option Value} {base : Heap} {CX : CXT} {f : Addr} {cdv : Value} {A : Around} {outer : List Env} {s : Shared} {H : Hp} {E : XK} 
    (hr : Room 0 (A.deeper (envOfC "_law_draws" (defScope s__law_draws) s.heap.objs.size f cdv))) :
    PSs (cxOf CX P w K mg base ["_law_script"] "_law_draws" (defScope s__law_draws) f cdv A outer s H E) (defBody s__law_draws) (t__law_draws K) :=
  (pss_one (ps_ret (pe_lst (pa_cons (pe_slice sl_list (pv 0) po_none (po_some pe_int)) (pa_cons pe_int (pa_cons pe_int (pa_cons pe_int pa_nil)))))))
theorem ok__law_draws {P : Program} {w : World} {K : PySem.W.Frag} {mg : Str → Option Value} {base : Heap} {f : Addr} {fd : FuncData} (F : FunD K "_law_draws" "_law_draws" (defArgs s__law_draws) (defBody s__law_draws) (defScope s__law_draws) [] [] f fd)  : FnOk P w K mg base CX0 1 f fd ["_law_script"] (spDraws K) :=
  F.ok sc__law_draws (fun vs H Q E h => by first | (obtain ⟨_, rfl, _⟩ := h; rfl) | (obtain ⟨_, _, rfl, _⟩ := h; rfl) | (obtain ⟨_, _, _, rfl, _⟩ := h; rfl) | (obtain ⟨_, _, _, _, rfl, _⟩ := h; rfl) | (obtain ⟨_, _, _, _, _, rfl, _⟩ := h; rfl) | (obtain ⟨_, _, _, _, _, _, rfl, _⟩ := h; rfl) | (obtain ⟨_, _, _, _, _, _, _, rfl, _⟩ := h; rfl) | (obtain ⟨_, _, _, _, _, _, _, _, rfl, _⟩ := h; rfl) | (obtain ⟨_, _, _, _, _, _, _, _, _, rfl, _⟩ := h; rfl) | (obtain ⟨_, _, _, _, _, _, _, _, _, _, rfl, _⟩ := h; rfl) | (obtain ⟨_, _, _, _, _, _, _, _, _, _, _, rfl, _⟩ := h; rfl) | (obtain ⟨_, _, _, _, _, _, _, _, _, _, _, _, rfl, _⟩ := h; rfl) | (obtain ⟨_, _, _, _, _, _, _, _, _, _, _, _, _, rfl, _⟩ := h; rfl) | (obtain ⟨_, _, _, _, _, _, _, _, _, _, _, _, _, _, rfl, _⟩ := h; rfl) | (obtain ⟨_, _, _, _, _, _, _, _, _, _, _, _, _, _, _, rfl, _⟩ := h; rfl) | (obtain ⟨_, _, _, _, _, _, _, _, _, _, _, _, _, _, _, _, rfl, _⟩ := h; rfl) | (obtain ⟨_, _, _, _, _, _, _, _, _, _, _, _, _, _, _, _, _, rfl, _⟩ := h; rfl) | (obtain ⟨_, _, _, _, _, _, _, _, _, _, _, _, _, _, _, _, _, _, rfl, _⟩ := h; rfl) | (obtain ⟨_, _, _, _, _, _, _, _, _, _, _, _, _, _, _, _, _, _, _, rfl, _⟩ := h; rfl) | (obtain ⟨_, _, _, _, _, _, _, _, _, _, _, _, _, _, _, _, _, _, _, _, rfl, _⟩ := h; rfl) | (obtain ⟨_, _, _, _, _, _, _, _, _, _, _, _, _, _, _, _, _, _, _, _, _, rfl, _⟩ := h; rfl) | (obtain ⟨_, _, _, _, _, _, _, _, _, _, _, _, _, _, _, _, _, _, _, _, _, _, rfl, _⟩ := h; rfl) | (obtain ⟨_, _, _, _, _, _, _, _, _, _, _, _, _, _, _, _, _, _, _, _, _, _, _, rfl, _⟩ := h; rfl) | (obtain ⟨_, _, _, _, _, _, _, _, _, _, _, _, _, _, _, _, _, _, _, _, _, _, _, _, rfl, _⟩ := h; rfl) | (obtain ⟨_, _, _, _, _, _, _, _, _, _, _, _, _, _, _, _, _, _, _, _, _, _, _, _, _, rfl, _⟩ := h; rfl)) (fun cdv A outer s H vs Q E hr h => ⟨_, d__law_draws  hr, p_draws h⟩)
abbrev s__law_draw : Stmt := top 33
theorem sc__law_draw : FnScope ["_law_draws_here", "_law_many", "_law_cells", "_law_value", "_law_cell", "_law_mixed"] ["_law_draws_here", "_law_many"] (defScope s__law_draw) := ⟨rfl, rfl, rfl, by decide +kernel, rfl, by decide +kernel, by decide +kernel⟩
theorem d__law_draw {P : Program} {w : World} {K : PySem.W.Frag} {mg : Str → Option Value} {base : Heap} {CX : CXT} {f : Addr} {cdv : Value} {A : Around} {outer : List Env} {s : Shared} {H : Hp} {E : XK} (m_len : mg "len" = none)
    (hr : Room 0 (A.deeper (envOfC "_law_draw" (defScope s__law_draw) s.heap.objs.size f cdv))) :
    PSs (cxOf CX P w K mg base ["_law_draws_here", "_law_many", "_law_cells", "_law_value", "_law_cell", "_law_mixed"] "_law_draw" (defScope s__law_draw) f cdv A outer s H E) (defBody s__law_draw) (t__law_draw K) :=
  (pss_cons (ps_set (i := 2) sc__law_draw.nd rfl (by first | exact Or.inl rfl | exact Or.inr rfl) (pe_ix ix_list (pv 0) pe_int (fun _ _ => rfl)))
    (pss_cons (ps_if (PW.pt (pw_and (pt_cmpR op_eq (pe_ix ix_list (pv 0) pe_int (fun _ _ => rfl)) pe_int (nomark _)) (pw_and (pt_cmpR op_lt (pe_ix ix_list (pv 0) pe_int (fun _ _ => rfl)) (pe_callB call_len_seq (by rfl) m_len (by decide +kernel) (pa_cons (pv 2) pa_nil)) (nomark _)) (pw_and1 (pt_cmpR op_ge (pe_ix ix_list (pv 2) (pe_ix ix_list (pv 0) pe_int (fun _ _ => rfl)) (fun _ _ => rfl)) (pe_op op_pow pe_int pe_int) (nomark _)))))) (pss_cons (ps_asg (pe_ix ix_list (pv 2) (pe_ix ix_list (pv 0) pe_int (fun _ _ => rfl)) (fun _ _ => rfl)) (pg_sub (pv 0) pe_int set_list))
    (pss_one (ps_asg (pe_op op_add (pe_ix ix_list (pv 0) pe_int (fun _ _ => rfl)) pe_int) (pg_sub (pv 0) pe_int set_list)))) pss_nil)
    (pss_cons (ps_if (pt_cmpR op_gt (pe_ix ix_list (pv 0) pe_int (fun _ _ => rfl)) pe_int (nomark _)) (pss_cons (ps_set (i := 3) sc__law_draw.nd rfl (by first | exact Or.inl rfl | exact Or.inr rfl) (pe_op op_mod (pe_ix ix_list (pv 0) pe_int (fun _ _ => rfl)) (pv 1)))
    (pss_cons (ps_asg (pe_op op_fdivW (pe_ix ix_list (pv 0) pe_int (fun _ _ => rfl)) (pv 1)) (pg_sub (pv 0) pe_int set_list))
    (pss_one (ps_ret (pv 3))))) pss_nil)
    (pss_cons (ps_set (i := 4) sc__law_draw.nd rfl (by first | exact Or.inl rfl | exact Or.inr rfl) pe_int)
    (pss_cons (ps_if (pt_cmpR op_lt (pe_ix ix_list (pv 0) pe_int (fun _ _ => rfl)) (pe_callB call_len_seq (by rfl) m_len (by decide +kernel) (pa_cons (pv 2) pa_nil)) (nomark _)) (pss_cons (ps_set (i := 4) sc__law_draw.nd rfl (by first | exact Or.inl rfl | exact Or.inr rfl) (pe_ix ix_list (pv 2) (pe_ix ix_list (pv 0) pe_int (fun _ _ => rfl)) (fun _ _ => rfl)))
    (pss_one (ps_asg (pe_op op_add (pe_ix ix_list (pv 0) pe_int (fun _ _ => rfl)) pe_int) (pg_sub (pv 0) pe_int set_list)))) pss_nil)
    (pss_cons (ps_asg (pe_op op_mod (pe_op op_add (pe_op op_add (pe_op op_mul (pe_ix ix_list (pv 0) pe_int (fun _ _ => rfl)) pe_int) (pe_op op_mod (pv 4) pe_int)) pe_int) pe_int) (pg_sub (pv 0) pe_int set_list))
    (pss_cons (ps_set (i := 5) sc__law_draw.nd rfl (by first | exact Or.inl rfl | exact Or.inr rfl) (pe_op op_mod (pe_op op_pow (pe_ix ix_list (pv 0) pe_int (fun _ _ => rfl)) pe_int) pe_int))
    (pss_cons (ps_if (pt_cmpR op_gt (pv 1) (pe_op op_pow pe_int pe_int) (nomark _)) (pss_one (ps_set (i := 5) sc__law_draw.nd rfl (by first | exact Or.inl rfl | exact Or.inr rfl) (pe_op op_add (pe_op op_pow (pv 5) pe_int) (pv 5)))) pss_nil)
    (pss_one (ps_ret (pe_op op_mod (pv 5) (pv 1))))))))))))
theorem ok__law_draw {P : Program} {w : World} {K : PySem.W.Frag} {mg : Str → Option Value} {base : Heap} {f : Addr} {fd : FuncData} (F : FunD K "_law_draw" "_law_draw" (defArgs s__law_draw) (defBody s__law_draw) (defScope s__law_draw) [] [] f fd) (m_len : mg "len" = none) : FnOk P w K mg base CX0 1 f fd ["_law_draws_here", "_law_many"] (spDraw K) :=
  F.ok sc__law_draw (fun vs H Q E h => by first | (obtain ⟨_, rfl, _⟩ := h; rfl) | (obtain ⟨_, _, rfl, _⟩ := h; rfl) | (obtain ⟨_, _, _, rfl, _⟩ := h; rfl) | (obtain ⟨_, _, _, _, rfl, _⟩ := h; rfl) | (obtain ⟨_, _, _, _, _, rfl, _⟩ := h; rfl) | (obtain ⟨_, _, _, _, _, _, rfl, _⟩ := h; rfl) | (obtain ⟨_, _, _, _, _, _, _, rfl, _⟩ := h; rfl) | (obtain ⟨_, _, _, _, _, _, _, _, rfl, _⟩ := h; rfl) | (obtain ⟨_, _, _, _, _, _, _, _, _, rfl, _⟩ := h; rfl) | (obtain ⟨_, _, _, _, _, _, _, _, _, _, rfl, _⟩ := h; rfl) | (obtain ⟨_, _, _, _, _, _, _, _, _, _, _, rfl, _⟩ := h; rfl) | (obtain ⟨_, _, _, _, _, _, _, _, _, _, _, _, rfl, _⟩ := h; rfl) | (obtain ⟨_, _, _, _, _, _, _, _, _, _, _, _, _, rfl, _⟩ := h; rfl) | (obtain ⟨_, _, _, _, _, _, _, _, _, _, _, _, _, _, rfl, _⟩ := h; rfl) | (obtain ⟨_, _, _, _, _, _, _, _, _, _, _, _, _, _, _, rfl, _⟩ := h; rfl) | (obtain ⟨_, _, _, _, _, _, _, _, _, _, _, _, _, _, _, _, rfl, _⟩ := h; rfl) | (obtain ⟨_, _, _, _, _, _, _, _, _, _, _, _, _, _, _, _, _, rfl, _⟩ := h; rfl) | (obtain ⟨_, _, _, _, _, _, _, _, _, _, _, _, _, _, _, _, _, _, rfl, _⟩ := h; rfl) | (obtain ⟨_, _, _, _, _, _, _, _, _, _, _, _, _, _, _, _, _, _, _, rfl, _⟩ := h; rfl) | (obtain ⟨_, _, _, _, _, _, _, _, _, _, _, _, _, _, _, _, _, _, _, _, rfl, _⟩ := h; rfl) | (obtain ⟨_, _, _, _, _, _, _, _, _, _, _, _, _, _, _, _, _, _, _, _, _, rfl, _⟩ := h; rfl) | (obtain ⟨_, _, _, _, _, _, _, _, _, _, _, _, _, _, _, _, _, _, _, _, _, _, rfl, _⟩ := h; rfl) | (obtain ⟨_, _, _, _, _, _, _, _, _, _, _, _, _, _, _, _, _, _, _, _, _, _, _, rfl, _⟩ := h; rfl) | (obtain ⟨_, _, _, _, _, _, _, _, _, _, _, _, _, _, _, _, _, _, _, _, _, _, _, _, rfl, _⟩ := h; rfl) | (obtain ⟨_, _, _, _, _, _, _, _, _, _, _, _, _, _, _, _, _, _, _, _, _, _, _, _, _, rfl, _⟩ := h; rfl)) (fun cdv A outer s H vs Q E hr h => ⟨_, d__law_draw m_len hr, p_draw h⟩)
abbrev s_is_whole : Stmt := top 9
theorem sc_is_whole : FnScope ["value"] ["value"] (defScope s_is_whole) := ⟨rfl, rfl, rfl, by decide +kernel, rfl, by decide +kernel, by decide +kernel⟩
theorem d_is_whole {P : Program} {w : World} {K : PySem.W.Frag} {mg : Str → Option Value} {base : Heap} {CX : CXT} {f : Addr} {cdv : Value} {A : Around} {outer : List Env} {s : Shared} {H : Hp} {E : XK} (m_int : mg "int" = none) (m_isinstance : mg "isinstance" = none) (m_bool : mg "bool" = none)
    (hr : Room 0 (A.deeper (envOfC "is_whole" (defScope s_is_whole) s.heap.objs.size f cdv))) :
    PSs (cxOf CX P w K mg base ["value"] "is_whole" (defScope s_is_whole) f cdv A outer s H E) (defBody s_is_whole) (t_is_whole K) :=
  (pss_one (ps_ret (pe_and (pe_callB call_isi (by rfl) m_isinstance (by decide +kernel) (pa_cons (pv 0) (pa_cons (pe_bltn (by rfl) m_int (by decide +kernel) rfl) pa_nil))) (pe_one (pe_not (pe_callB call_isi (by rfl) m_isinstance (by decide +kernel) (pa_cons (pv 0) (pa_cons (pe_bltn (by rfl) m_bool (by decide +kernel) rfl) pa_nil))))))))
theorem ok_is_whole {P : Program} {w : World} {K : PySem.W.Frag} {mg : Str → Option Value} {base : Heap} {f : Addr} {fd : FuncData} (F : FunD K "is_whole" "is_whole" (defArgs s_is_whole) (defBody s_is_whole) (defScope s_is_whole) [] [] f fd) (m_int : mg "int" = none) (m_isinstance : mg "isinstance" = none) (m_bool : mg "bool" = none) : FnOk P w K mg base CX0 1 f fd ["value"] (spWhole K) :=
  F.ok sc_is_whole (fun vs H Q E h => by first | (obtain ⟨_, rfl, _⟩ := h; rfl) | (obtain ⟨_, _, rfl, _⟩ := h; rfl) | (obtain ⟨_, _, _, rfl, _⟩ := h; rfl) | (obtain ⟨_, _, _, _, rfl, _⟩ := h; rfl) | (obtain ⟨_, _, _, _, _, rfl, _⟩ := h; rfl) | (obtain ⟨_, _, _, _, _, _, rfl, _⟩ := h; rfl) | (obtain ⟨_, _, _, _, _, _, _, rfl, _⟩ := h; rfl) | (obtain ⟨_, _, _, _, _, _, _, _, rfl, _⟩ := h; rfl) | (obtain ⟨_, _, _, _, _, _, _, _, _, rfl, _⟩ := h; rfl) | (obtain ⟨_, _, _, _, _, _, _, _, _, _, rfl, _⟩ := h; rfl) | (obtain ⟨_, _, _, _, _, _, _, _, _, _, _, rfl, _⟩ := h; rfl) | (obtain ⟨_, _, _, _, _, _, _, _, _, _, _, _, rfl, _⟩ := h; rfl) | (obtain ⟨_, _, _, _, _, _, _, _, _, _, _, _, _, rfl, _⟩ := h; rfl) | (obtain ⟨_, _, _, _, _, _, _, _, _, _, _, _, _, _, rfl, _⟩ := h; rfl) | (obtain ⟨_, _, _, _, _, _, _, _, _, _, _, _, _, _, _, rfl, _⟩ := h; rfl) | (obtain ⟨_, _, _, _, _, _, _, _, _, _, _, _, _, _, _, _, rfl, _⟩ := h; rfl) | (obtain ⟨_, _, _, _, _, _, _, _, _, _, _, _, _, _, _, _, _, rfl, _⟩ := h; rfl) | (obtain ⟨_, _, _, _, _, _, _, _, _, _, _, _, _, _, _, _, _, _, rfl, _⟩ := h; rfl) | (obtain ⟨_, _, _, _, _, _, _, _, _, _, _, _, _, _, _, _, _, _, _, rfl, _⟩ := h; rfl) | (obtain ⟨_, _, _, _, _, _, _, _, _, _, _, _, _, _, _, _, _, _, _, _, rfl, _⟩ := h; rfl) | (obtain ⟨_, _, _, _, _, _, _, _, _, _, _, _, _, _, _, _, _, _, _, _, _, rfl, _⟩ := h; rfl) | (obtain ⟨_, _, _, _, _, _, _, _, _, _, _, _, _, _, _, _, _, _, _, _, _, _, rfl, _⟩ := h; rfl) | (obtain ⟨_, _, _, _, _, _, _, _, _, _, _, _, _, _, _, _, _, _, _, _, _, _, _, rfl, _⟩ := h; rfl) | (obtain ⟨_, _, _, _, _, _, _, _, _, _, _, _, _, _, _, _, _, _, _, _, _, _, _, _, rfl, _⟩ := h; rfl) | (obtain ⟨_, _, _, _, _, _, _, _, _, _, _, _, _, _, _, _, _, _, _, _, _, _, _, _, _, rfl, _⟩ := h; rfl)) (fun cdv A outer s H vs Q E hr h => ⟨_, d_is_whole m_int m_isinstance m_bool hr, p_whole h⟩)
abbrev s_is_whole_within : Stmt := top 10
theorem sc_is_whole_within : FnScope ["value", "least", "greatest"] ["value", "least", "greatest"] (defScope s_is_whole_within) := ⟨rfl, rfl, rfl, by decide +kernel, rfl, by decide +kernel, by decide +kernel⟩
theorem d_is_whole_within {P : Program} {w : World} {K : PySem.W.Frag} {mg : Str → Option Value} {base : Heap} {CX : CXT} {f : Addr} {cdv : Value} {A : Around} {outer : List Env} {s : Shared} {H : Hp} {E : XK} (c_is_whole : Cal P w K mg base CX0 1 "is_whole" ["value"] (spWhole K))
    (hr : Room 1 (A.deeper (envOfC "is_whole_within" (defScope s_is_whole_within) s.heap.objs.size f cdv))) :
    PSs (cxOf CX P w K mg base ["value", "least", "greatest"] "is_whole_within" (defScope s_is_whole_within) f cdv A outer s H E) (defBody s_is_whole_within) (t_is_whole_within K) :=
  (pss_one (ps_ret (pe_and (pe_cal c_is_whole (hr.mono (by decide)) rfl pass0 (pa_cons (pv 0) pa_nil)) (pe_one (pe_chain op_le op_le (pv 1) (pv 0) (pv 2))))))
theorem ok_is_whole_within {P : Program} {w : World} {K : PySem.W.Frag} {mg : Str → Option Value} {base : Heap} {f : Addr} {fd : FuncData} (F : FunD K "is_whole_within" "is_whole_within" (defArgs s_is_whole_within) (defBody s_is_whole_within) (defScope s_is_whole_within) [] [] f fd) (c_is_whole : Cal P w K mg base CX0 1 "is_whole" ["value"] (spWhole K)) : FnOk P w K mg base CX0 2 f fd ["value", "least", "greatest"] (spWithin K) :=
  F.ok sc_is_whole_within (fun vs H Q E h => by first | (obtain ⟨_, rfl, _⟩ := h; rfl) | (obtain ⟨_, _, rfl, _⟩ := h; rfl) | (obtain ⟨_, _, _, rfl, _⟩ := h; rfl) | (obtain ⟨_, _, _, _, rfl, _⟩ := h; rfl) | (obtain ⟨_, _, _, _, _, rfl, _⟩ := h; rfl) | (obtain ⟨_, _, _, _, _, _, rfl, _⟩ := h; rfl) | (obtain ⟨_, _, _, _, _, _, _, rfl, _⟩ := h; rfl) | (obtain ⟨_, _, _, _, _, _, _, _, rfl, _⟩ := h; rfl) | (obtain ⟨_, _, _, _, _, _, _, _, _, rfl, _⟩ := h; rfl) | (obtain ⟨_, _, _, _, _, _, _, _, _, _, rfl, _⟩ := h; rfl) | (obtain ⟨_, _, _, _, _, _, _, _, _, _, _, rfl, _⟩ := h; rfl) | (obtain ⟨_, _, _, _, _, _, _, _, _, _, _, _, rfl, _⟩ := h; rfl) | (obtain ⟨_, _, _, _, _, _, _, _, _, _, _, _, _, rfl, _⟩ := h; rfl) | (obtain ⟨_, _, _, _, _, _, _, _, _, _, _, _, _, _, rfl, _⟩ := h; rfl) | (obtain ⟨_, _, _, _, _, _, _, _, _, _, _, _, _, _, _, rfl, _⟩ := h; rfl) | (obtain ⟨_, _, _, _, _, _, _, _, _, _, _, _, _, _, _, _, rfl, _⟩ := h; rfl) | (obtain ⟨_, _, _, _, _, _, _, _, _, _, _, _, _, _, _, _, _, rfl, _⟩ := h; rfl) | (obtain ⟨_, _, _, _, _, _, _, _, _, _, _, _, _, _, _, _, _, _, rfl, _⟩ := h; rfl) | (obtain ⟨_, _, _, _, _, _, _, _, _, _, _, _, _, _, _, _, _, _, _, rfl, _⟩ := h; rfl) | (obtain ⟨_, _, _, _, _, _, _, _, _, _, _, _, _, _, _, _, _, _, _, _, rfl, _⟩ := h; rfl) | (obtain ⟨_, _, _, _, _, _, _, _, _, _, _, _, _, _, _, _, _, _, _, _, _, rfl, _⟩ := h; rfl) | (obtain ⟨_, _, _, _, _, _, _, _, _, _, _, _, _, _, _, _, _, _, _, _, _, _, rfl, _⟩ := h; rfl) | (obtain ⟨_, _, _, _, _, _, _, _, _, _, _, _, _, _, _, _, _, _, _, _, _, _, _, rfl, _⟩ := h; rfl) | (obtain ⟨_, _, _, _, _, _, _, _, _, _, _, _, _, _, _, _, _, _, _, _, _, _, _, _, rfl, _⟩ := h; rfl) | (obtain ⟨_, _, _, _, _, _, _, _, _, _, _, _, _, _, _, _, _, _, _, _, _, _, _, _, _, rfl, _⟩ := h; rfl)) (fun cdv A outer s H vs Q E hr h => ⟨_, d_is_whole_within c_is_whole hr, p_within h⟩)
abbrev s_first_outside : Stmt := top 11
theorem sc_first_outside : FnScope ["values", "least", "greatest", "index", "value"] ["values", "least", "greatest"] (defScope s_first_outside) := ⟨rfl, rfl, rfl, by decide +kernel, rfl, by decide +kernel, by decide +kernel⟩
theorem d_first_outside {P : Program} {w : World} {K : PySem.W.Frag} {mg : Str → Option Value} {base : Heap} {CX : CXT} {f : Addr} {cdv : Value} {A : Around} {outer : List Env} {s : Shared} {H : Hp} {E : XK} (m_enumerate : mg "enumerate" = none) (c_is_whole_within : Cal P w K mg base CX0 2 "is_whole_within" ["value", "least", "greatest"] (spWithin K))
    (hr : Room 2 (A.deeper (envOfC "first_outside" (defScope s_first_outside) s.heap.objs.size f cdv))) :
    PSs (cxOf CX P w K mg base ["values", "least", "greatest", "index", "value"] "first_outside" (defScope s_first_outside) f cdv A outer s H E) (defBody s_first_outside) (t_first_outside K) :=
  (pss_cons (ps_for (passes_of rfl) rfl (pi_enumA (by rfl) m_enumerate (pa_cons (pv 0) pa_nil)) (pg_tup (by rfl) (pgs_cons (pg_name (i := 3) sc_first_outside.nd rfl (by first | exact Or.inl rfl | exact Or.inr rfl)) (pgs_cons (pg_name (i := 4) sc_first_outside.nd rfl (by first | exact Or.inl rfl | exact Or.inr rfl)) pgs_nil))) (pss_one (ps_if (pt_not (pt_val (pe_cal c_is_whole_within (hr.mono (by decide)) rfl pass0 (pa_cons (pv 4) (pa_cons (pv 1) (pa_cons (pv 2) pa_nil)))))) (pss_one (ps_ret (pv 3))) pss_nil)))
    (pss_one (ps_ret pe_non)))
theorem ok_first_outside {P : Program} {w : World} {K : PySem.W.Frag} {mg : Str → Option Value} {base : Heap} {f : Addr} {fd : FuncData} (F : FunD K "first_outside" "first_outside" (defArgs s_first_outside) (defBody s_first_outside) (defScope s_first_outside) [] [] f fd) (m_enumerate : mg "enumerate" = none) (c_is_whole_within : Cal P w K mg base CX0 2 "is_whole_within" ["value", "least", "greatest"] (spWithin K)) : FnOk P w K mg base CX0 3 f fd ["values", "least", "greatest"] (spOutside K) :=
  F.ok sc_first_outside (fun vs H Q E h => by first | (obtain ⟨_, rfl, _⟩ := h; rfl) | (obtain ⟨_, _, rfl, _⟩ := h; rfl) | (obtain ⟨_, _, _, rfl, _⟩ := h; rfl) | (obtain ⟨_, _, _, _, rfl, _⟩ := h; rfl) | (obtain ⟨_, _, _, _, _, rfl, _⟩ := h; rfl) | (obtain ⟨_, _, _, _, _, _, rfl, _⟩ := h; rfl) | (obtain ⟨_, _, _, _, _, _, _, rfl, _⟩ := h; rfl) | (obtain ⟨_, _, _, _, _, _, _, _, rfl, _⟩ := h; rfl) | (obtain ⟨_, _, _, _, _, _, _, _, _, rfl, _⟩ := h; rfl) | (obtain ⟨_, _, _, _, _, _, _, _, _, _, rfl, _⟩ := h; rfl) | (obtain ⟨_, _, _, _, _, _, _, _, _, _, _, rfl, _⟩ := h; rfl) | (obtain ⟨_, _, _, _, _, _, _, _, _, _, _, _, rfl, _⟩ := h; rfl) | (obtain ⟨_, _, _, _, _, _, _, _, _, _, _, _, _, rfl, _⟩ := h; rfl) | (obtain ⟨_, _, _, _, _, _, _, _, _, _, _, _, _, _, rfl, _⟩ := h; rfl) | (obtain ⟨_, _, _, _, _, _, _, _, _, _, _, _, _, _, _, rfl, _⟩ := h; rfl) | (obtain ⟨_, _, _, _, _, _, _, _, _, _, _, _, _, _, _, _, rfl, _⟩ := h; rfl) | (obtain ⟨_, _, _, _, _, _, _, _, _, _, _, _, _, _, _, _, _, rfl, _⟩ := h; rfl) | (obtain ⟨_, _, _, _, _, _, _, _, _, _, _, _, _, _, _, _, _, _, rfl, _⟩ := h; rfl) | (obtain ⟨_, _, _, _, _, _, _, _, _, _, _, _, _, _, _, _, _, _, _, rfl, _⟩ := h; rfl) | (obtain ⟨_, _, _, _, _, _, _, _, _, _, _, _, _, _, _, _, _, _, _, _, rfl, _⟩ := h; rfl) | (obtain ⟨_, _, _, _, _, _, _, _, _, _, _, _, _, _, _, _, _, _, _, _, _, rfl, _⟩ := h; rfl) | (obtain ⟨_, _, _, _, _, _, _, _, _, _, _, _, _, _, _, _, _, _, _, _, _, _, rfl, _⟩ := h; rfl) | (obtain ⟨_, _, _, _, _, _, _, _, _, _, _, _, _, _, _, _, _, _, _, _, _, _, _, rfl, _⟩ := h; rfl) | (obtain ⟨_, _, _, _, _, _, _, _, _, _, _, _, _, _, _, _, _, _, _, _, _, _, _, _, rfl, _⟩ := h; rfl) | (obtain ⟨_, _, _, _, _, _, _, _, _, _, _, _, _, _, _, _, _, _, _, _, _, _, _, _, _, rfl, _⟩ := h; rfl)) (fun cdv A outer s H vs Q E hr h => ⟨_, d_first_outside m_enumerate c_is_whole_within hr, p_outside h⟩)
abbrev s_is_row : Stmt := top 15
theorem sc_is_row : FnScope ["values", "least", "most"] ["values", "least", "most"] (defScope s_is_row) := ⟨rfl, rfl, rfl, by decide +kernel, rfl, by decide +kernel, by decide +kernel⟩
theorem d_is_row {P : Program} {w : World} {K : PySem.W.Frag} {mg : Str → Option Value} {base : Heap} {CX : CXT} {f : Addr} {cdv : Value} {A : Around} {outer : List Env} {s : Shared} {H : Hp} {E : XK} (m_tuple : mg "tuple" = none) (m_list : mg "list" = none) (m_isinstance : mg "isinstance" = none) (m_len : mg "len" = none)
    (hr : Room 0 (A.deeper (envOfC "is_row" (defScope s_is_row) s.heap.objs.size f cdv))) :
    PSs (cxOf CX P w K mg base ["values", "least", "most"] "is_row" (defScope s_is_row) f cdv A outer s H E) (defBody s_is_row) (t_is_row K) :=
  (pss_one (ps_ret (pe_and (pe_callB call_isiT (by rfl) m_isinstance (by decide +kernel) (pa_cons (pv 0) (pa_cons (pe_tup (pa_cons (pe_bltn (by rfl) m_list (by decide +kernel) rfl) (pa_cons (pe_bltn (by rfl) m_tuple (by decide +kernel) rfl) pa_nil))) pa_nil))) (pe_one (pe_chain op_le op_le (pv 1) (pe_callB call_len_seq (by rfl) m_len (by decide +kernel) (pa_cons (pv 0) pa_nil)) (pv 2))))))
theorem ok_is_row {P : Program} {w : World} {K : PySem.W.Frag} {mg : Str → Option Value} {base : Heap} {f : Addr} {fd : FuncData} (F : FunD K "is_row" "is_row" (defArgs s_is_row) (defBody s_is_row) (defScope s_is_row) [] [] f fd) (m_tuple : mg "tuple" = none) (m_list : mg "list" = none) (m_isinstance : mg "isinstance" = none) (m_len : mg "len" = none) : FnOk P w K mg base CX0 1 f fd ["values", "least", "most"] (spRow K) :=
  F.ok sc_is_row (fun vs H Q E h => by first | (obtain ⟨_, rfl, _⟩ := h; rfl) | (obtain ⟨_, _, rfl, _⟩ := h; rfl) | (obtain ⟨_, _, _, rfl, _⟩ := h; rfl) | (obtain ⟨_, _, _, _, rfl, _⟩ := h; rfl) | (obtain ⟨_, _, _, _, _, rfl, _⟩ := h; rfl) | (obtain ⟨_, _, _, _, _, _, rfl, _⟩ := h; rfl) | (obtain ⟨_, _, _, _, _, _, _, rfl, _⟩ := h; rfl) | (obtain ⟨_, _, _, _, _, _, _, _, rfl, _⟩ := h; rfl) | (obtain ⟨_, _, _, _, _, _, _, _, _, rfl, _⟩ := h; rfl) | (obtain ⟨_, _, _, _, _, _, _, _, _, _, rfl, _⟩ := h; rfl) | (obtain ⟨_, _, _, _, _, _, _, _, _, _, _, rfl, _⟩ := h; rfl) | (obtain ⟨_, _, _, _, _, _, _, _, _, _, _, _, rfl, _⟩ := h; rfl) | (obtain ⟨_, _, _, _, _, _, _, _, _, _, _, _, _, rfl, _⟩ := h; rfl) | (obtain ⟨_, _, _, _, _, _, _, _, _, _, _, _, _, _, rfl, _⟩ := h; rfl) | (obtain ⟨_, _, _, _, _, _, _, _, _, _, _, _, _, _, _, rfl, _⟩ := h; rfl) | (obtain ⟨_, _, _, _, _, _, _, _, _, _, _, _, _, _, _, _, rfl, _⟩ := h; rfl) | (obtain ⟨_, _, _, _, _, _, _, _, _, _, _, _, _, _, _, _, _, rfl, _⟩ := h; rfl) | (obtain ⟨_, _, _, _, _, _, _, _, _, _, _, _, _, _, _, _, _, _, rfl, _⟩ := h; rfl) | (obtain ⟨_, _, _, _, _, _, _, _, _, _, _, _, _, _, _, _, _, _, _, rfl, _⟩ := h; rfl) | (obtain ⟨_, _, _, _, _, _, _, _, _, _, _, _, _, _, _, _, _, _, _, _, rfl, _⟩ := h; rfl) | (obtain ⟨_, _, _, _, _, _, _, _, _, _, _, _, _, _, _, _, _, _, _, _, _, rfl, _⟩ := h; rfl) | (obtain ⟨_, _, _, _, _, _, _, _, _, _, _, _, _, _, _, _, _, _, _, _, _, _, rfl, _⟩ := h; rfl) | (obtain ⟨_, _, _, _, _, _, _, _, _, _, _, _, _, _, _, _, _, _, _, _, _, _, _, rfl, _⟩ := h; rfl) | (obtain ⟨_, _, _, _, _, _, _, _, _, _, _, _, _, _, _, _, _, _, _, _, _, _, _, _, rfl, _⟩ := h; rfl) | (obtain ⟨_, _, _, _, _, _, _, _, _, _, _, _, _, _, _, _, _, _, _, _, _, _, _, _, _, rfl, _⟩ := h; rfl)) (fun cdv A outer s H vs Q E hr h => ⟨_, d_is_row m_tuple m_list m_isinstance m_len hr, p_row h⟩)
abbrev s_check_heights : Stmt := top 16
theorem sc_check_heights : FnScope ["heights", "wrong"] ["heights"] (defScope s_check_heights) := ⟨rfl, rfl, rfl, by decide +kernel, rfl, by decide +kernel, by decide +kernel⟩
theorem d_check_heights {P : Program} {w : World} {K : PySem.W.Frag} {mg : Str → Option Value} {base : Heap} {CX : CXT} {f : Addr} {cdv : Value} {A : Around} {outer : List Env} {s : Shared} {H : Hp} {E : XK} (m_MOST_COLUMNS : ∃ u, mg "MOST_COLUMNS" = some (.int 60 u)) (c_is_row : Cal P w K mg base CX0 1 "is_row" ["values", "least", "most"] (spRow K)) (m_GREATEST : ∃ u, mg "GREATEST" = some (.int 1000000000000000000000000000000 u)) (c_first_outside : Cal P w K mg base CX0 3 "first_outside" ["values", "least", "greatest"] (spOutside K))
    (hr : Room 3 (A.deeper (envOfC "check_heights" (defScope s_check_heights) s.heap.objs.size f cdv))) :
    PSs (cxOf CX P w K mg base ["heights", "wrong"] "check_heights" (defScope s_check_heights) f cdv A outer s H E) (defBody s_check_heights) (t_check_heights K) :=
  (pss_cons (ps_if (pt_not (pt_val (pe_cal c_is_row (hr.mono (by decide)) rfl pass0 (pa_cons (pv 0) (pa_cons pe_int (pa_cons (pe_gint m_MOST_COLUMNS rfl) pa_nil)))))) (pss_one ps_never) pss_nil)
    (pss_cons (ps_set (i := 1) sc_check_heights.nd rfl (by first | exact Or.inl rfl | exact Or.inr rfl) (pe_cal c_first_outside (hr.mono (by decide)) rfl pass0 (pa_cons (pv 0) (pa_cons (pe_un un_neg (pe_gint m_GREATEST rfl)) (pa_cons (pe_gint m_GREATEST rfl) pa_nil)))))
    (pss_one (ps_if (pt_cmpR op_notN (pv 1) pe_non (nomark _)) (pss_one ps_never) pss_nil))))
theorem ok_check_heights {P : Program} {w : World} {K : PySem.W.Frag} {mg : Str → Option Value} {base : Heap} {f : Addr} {fd : FuncData} (F : FunD K "check_heights" "check_heights" (defArgs s_check_heights) (defBody s_check_heights) (defScope s_check_heights) [] [] f fd) (m_MOST_COLUMNS : ∃ u, mg "MOST_COLUMNS" = some (.int 60 u)) (c_is_row : Cal P w K mg base CX0 1 "is_row" ["values", "least", "most"] (spRow K)) (m_GREATEST : ∃ u, mg "GREATEST" = some (.int 1000000000000000000000000000000 u)) (c_first_outside : Cal P w K mg base CX0 3 "first_outside" ["values", "least", "greatest"] (spOutside K)) : FnOk P w K mg base CX0 4 f fd ["heights"] (spCheckH K) :=
  F.ok sc_check_heights (fun vs H Q E h => by first | (obtain ⟨_, rfl, _⟩ := h; rfl) | (obtain ⟨_, _, rfl, _⟩ := h; rfl) | (obtain ⟨_, _, _, rfl, _⟩ := h; rfl) | (obtain ⟨_, _, _, _, rfl, _⟩ := h; rfl) | (obtain ⟨_, _, _, _, _, rfl, _⟩ := h; rfl) | (obtain ⟨_, _, _, _, _, _, rfl, _⟩ := h; rfl) | (obtain ⟨_, _, _, _, _, _, _, rfl, _⟩ := h; rfl) | (obtain ⟨_, _, _, _, _, _, _, _, rfl, _⟩ := h; rfl) | (obtain ⟨_, _, _, _, _, _, _, _, _, rfl, _⟩ := h; rfl) | (obtain ⟨_, _, _, _, _, _, _, _, _, _, rfl, _⟩ := h; rfl) | (obtain ⟨_, _, _, _, _, _, _, _, _, _, _, rfl, _⟩ := h; rfl) | (obtain ⟨_, _, _, _, _, _, _, _, _, _, _, _, rfl, _⟩ := h; rfl) | (obtain ⟨_, _, _, _, _, _, _, _, _, _, _, _, _, rfl, _⟩ := h; rfl) | (obtain ⟨_, _, _, _, _, _, _, _, _, _, _, _, _, _, rfl, _⟩ := h; rfl) | (obtain ⟨_, _, _, _, _, _, _, _, _, _, _, _, _, _, _, rfl, _⟩ := h; rfl) | (obtain ⟨_, _, _, _, _, _, _, _, _, _, _, _, _, _, _, _, rfl, _⟩ := h; rfl) | (obtain ⟨_, _, _, _, _, _, _, _, _, _, _, _, _, _, _, _, _, rfl, _⟩ := h; rfl) | (obtain ⟨_, _, _, _, _, _, _, _, _, _, _, _, _, _, _, _, _, _, rfl, _⟩ := h; rfl) | (obtain ⟨_, _, _, _, _, _, _, _, _, _, _, _, _, _, _, _, _, _, _, rfl, _⟩ := h; rfl) | (obtain ⟨_, _, _, _, _, _, _, _, _, _, _, _, _, _, _, _, _, _, _, _, rfl, _⟩ := h; rfl) | (obtain ⟨_, _, _, _, _, _, _, _, _, _, _, _, _, _, _, _, _, _, _, _, _, rfl, _⟩ := h; rfl) | (obtain ⟨_, _, _, _, _, _, _, _, _, _, _, _, _, _, _, _, _, _, _, _, _, _, rfl, _⟩ := h; rfl) | (obtain ⟨_, _, _, _, _, _, _, _, _, _, _, _, _, _, _, _, _, _, _, _, _, _, _, rfl, _⟩ := h; rfl) | (obtain ⟨_, _, _, _, _, _, _, _, _, _, _, _, _, _, _, _, _, _, _, _, _, _, _, _, rfl, _⟩ := h; rfl) | (obtain ⟨_, _, _, _, _, _, _, _, _, _, _, _, _, _, _, _, _, _, _, _, _, _, _, _, _, rfl, _⟩ := h; rfl)) (fun cdv A outer s H vs Q E hr h => ⟨_, d_check_heights m_MOST_COLUMNS c_is_row m_GREATEST c_first_outside hr, p_checkH h⟩)
abbrev s_check_widths : Stmt := top 17
theorem sc_check_widths : FnScope ["widths", "many", "wrong"] ["widths", "many"] (defScope s_check_widths) := ⟨rfl, rfl, rfl, by decide +kernel, rfl, by decide +kernel, by decide +kernel⟩
theorem d_check_widths {P : Program} {w : World} {K : PySem.W.Frag} {mg : Str → Option Value} {base : Heap} {CX : CXT} {f : Addr} {cdv : Value} {A : Around} {outer : List Env} {s : Shared} {H : Hp} {E : XK} (c_is_row : Cal P w K mg base CX0 1 "is_row" ["values", "least", "most"] (spRow K)) (m_GREATEST : ∃ u, mg "GREATEST" = some (.int 1000000000000000000000000000000 u)) (c_first_outside : Cal P w K mg base CX0 3 "first_outside" ["values", "least", "greatest"] (spOutside K))
    (hr : Room 3 (A.deeper (envOfC "check_widths" (defScope s_check_widths) s.heap.objs.size f cdv))) :
    PSs (cxOf CX P w K mg base ["widths", "many", "wrong"] "check_widths" (defScope s_check_widths) f cdv A outer s H E) (defBody s_check_widths) (t_check_widths K) :=
  (pss_cons (ps_if (pt_not (pt_val (pe_cal c_is_row (hr.mono (by decide)) rfl pass0 (pa_cons (pv 0) (pa_cons (pv 1) (pa_cons (pv 1) pa_nil)))))) (pss_one ps_never) pss_nil)
    (pss_cons (ps_set (i := 2) sc_check_widths.nd rfl (by first | exact Or.inl rfl | exact Or.inr rfl) (pe_cal c_first_outside (hr.mono (by decide)) rfl pass0 (pa_cons (pv 0) (pa_cons pe_int (pa_cons (pe_gint m_GREATEST rfl) pa_nil)))))
    (pss_one (ps_if (pt_cmpR op_notN (pv 2) pe_non (nomark _)) (pss_one ps_never) pss_nil))))
theorem ok_check_widths {P : Program} {w : World} {K : PySem.W.Frag} {mg : Str → Option Value} {base : Heap} {f : Addr} {fd : FuncData} (F : FunD K "check_widths" "check_widths" (defArgs s_check_widths) (defBody s_check_widths) (defScope s_check_widths) [] [] f fd) (c_is_row : Cal P w K mg base CX0 1 "is_row" ["values", "least", "most"] (spRow K)) (m_GREATEST : ∃ u, mg "GREATEST" = some (.int 1000000000000000000000000000000 u)) (c_first_outside : Cal P w K mg base CX0 3 "first_outside" ["values", "least", "greatest"] (spOutside K)) : FnOk P w K mg base CX0 4 f fd ["widths", "many"] (spCheckW K) :=
  F.ok sc_check_widths (fun vs H Q E h => by first | (obtain ⟨_, rfl, _⟩ := h; rfl) | (obtain ⟨_, _, rfl, _⟩ := h; rfl) | (obtain ⟨_, _, _, rfl, _⟩ := h; rfl) | (obtain ⟨_, _, _, _, rfl, _⟩ := h; rfl) | (obtain ⟨_, _, _, _, _, rfl, _⟩ := h; rfl) | (obtain ⟨_, _, _, _, _, _, rfl, _⟩ := h; rfl) | (obtain ⟨_, _, _, _, _, _, _, rfl, _⟩ := h; rfl) | (obtain ⟨_, _, _, _, _, _, _, _, rfl, _⟩ := h; rfl) | (obtain ⟨_, _, _, _, _, _, _, _, _, rfl, _⟩ := h; rfl) | (obtain ⟨_, _, _, _, _, _, _, _, _, _, rfl, _⟩ := h; rfl) | (obtain ⟨_, _, _, _, _, _, _, _, _, _, _, rfl, _⟩ := h; rfl) | (obtain ⟨_, _, _, _, _, _, _, _, _, _, _, _, rfl, _⟩ := h; rfl) | (obtain ⟨_, _, _, _, _, _, _, _, _, _, _, _, _, rfl, _⟩ := h; rfl) | (obtain ⟨_, _, _, _, _, _, _, _, _, _, _, _, _, _, rfl, _⟩ := h; rfl) | (obtain ⟨_, _, _, _, _, _, _, _, _, _, _, _, _, _, _, rfl, _⟩ := h; rfl) | (obtain ⟨_, _, _, _, _, _, _, _, _, _, _, _, _, _, _, _, rfl, _⟩ := h; rfl) | (obtain ⟨_, _, _, _, _, _, _, _, _, _, _, _, _, _, _, _, _, rfl, _⟩ := h; rfl) | (obtain ⟨_, _, _, _, _, _, _, _, _, _, _, _, _, _, _, _, _, _, rfl, _⟩ := h; rfl) | (obtain ⟨_, _, _, _, _, _, _, _, _, _, _, _, _, _, _, _, _, _, _, rfl, _⟩ := h; rfl) | (obtain ⟨_, _, _, _, _, _, _, _, _, _, _, _, _, _, _, _, _, _, _, _, rfl, _⟩ := h; rfl) | (obtain ⟨_, _, _, _, _, _, _, _, _, _, _, _, _, _, _, _, _, _, _, _, _, rfl, _⟩ := h; rfl) | (obtain ⟨_, _, _, _, _, _, _, _, _, _, _, _, _, _, _, _, _, _, _, _, _, _, rfl, _⟩ := h; rfl) | (obtain ⟨_, _, _, _, _, _, _, _, _, _, _, _, _, _, _, _, _, _, _, _, _, _, _, rfl, _⟩ := h; rfl) | (obtain ⟨_, _, _, _, _, _, _, _, _, _, _, _, _, _, _, _, _, _, _, _, _, _, _, _, rfl, _⟩ := h; rfl) | (obtain ⟨_, _, _, _, _, _, _, _, _, _, _, _, _, _, _, _, _, _, _, _, _, _, _, _, _, rfl, _⟩ := h; rfl)) (fun cdv A outer s H vs Q E hr h => ⟨_, d_check_widths c_is_row m_GREATEST c_first_outside hr, p_checkW h⟩)
abbrev s_Profile___init__ : Stmt := inClass (top 19) 0
theorem sc_Profile___init__ : FnScope ["self", "heights", "widths"] ["self", "heights", "widths"] (defScope s_Profile___init__) := ⟨rfl, rfl, rfl, by decide +kernel, rfl, by decide +kernel, by decide +kernel⟩
theorem d_Profile___init__ {P : Program} {w : World} {K : PySem.W.Frag} {mg : Str → Option Value} {base : Heap} {C_Profile : Addr} {CX : CXT} {f : Addr} {cdv : Value} {A : Around} {outer : List Env} {s : Shared} {H : Hp} {E : XK} (c_check_heights : Cal P w K mg base CX0 4 "check_heights" ["heights"] (spCheckH K)) (m_len : mg "len" = none) (c_check_widths : Cal P w K mg base CX0 4 "check_widths" ["widths", "many"] (spCheckW K)) (m_tuple : mg "tuple" = none)
    (hr : Room 4 (A.deeper (envOfC "Profile.__init__" (defScope s_Profile___init__) s.heap.objs.size f cdv))) :
    PSs (cxOf CX P w K mg base ["self", "heights", "widths"] "Profile.__init__" (defScope s_Profile___init__) f cdv A outer s H E) (defBody s_Profile___init__) (t_Profile___init__ K C_Profile) :=
  (pss_cons (ps_expr (pe_cal c_check_heights (hr.mono (by decide)) rfl pass0 (pa_cons (pv 1) pa_nil)))
    (pss_cons (ps_if (pt_cmpR op_isN (pv 2) pe_non (nomark _)) (pss_one (ps_set (i := 2) sc_Profile___init__.nd rfl (by first | exact Or.inl rfl | exact Or.inr rfl) (pe_op op_rep (pe_lst (pa_cons pe_int pa_nil)) (pe_callB call_len_seq (by rfl) m_len (by decide +kernel) (pa_cons (pv 1) pa_nil))))) pss_nil)
    (pss_cons (ps_expr (pe_cal c_check_widths (hr.mono (by decide)) rfl pass0 (pa_cons (pv 2) (pa_cons (pe_callB call_len_seq (by rfl) m_len (by decide +kernel) (pa_cons (pv 1) pa_nil)) pa_nil))))
    (pss_cons (ps_fld (pv 0) (pe_callTy call_tuple_of (by rfl) m_tuple (by decide +kernel) (pa_cons (pv 1) pa_nil)) rfl)
    (pss_one (ps_fld (pv 0) (pe_callTy call_tuple_of (by rfl) m_tuple (by decide +kernel) (pa_cons (pv 2) pa_nil)) rfl))))))
theorem ok_Profile___init__ {P : Program} {w : World} {K : PySem.W.Frag} {mg : Str → Option Value} {base : Heap} {C_Profile : Addr} {f : Addr} {fd : FuncData} (F : FunD K "__init__" "Profile.__init__" (defArgs s_Profile___init__) (defBody s_Profile___init__) (defScope s_Profile___init__) [.non] [] f fd) (c_check_heights : Cal P w K mg base CX0 4 "check_heights" ["heights"] (spCheckH K)) (m_len : mg "len" = none) (c_check_widths : Cal P w K mg base CX0 4 "check_widths" ["widths", "many"] (spCheckW K)) (m_tuple : mg "tuple" = none) : FnOk P w K mg base CX0 5 f fd ["self", "heights", "widths"] (spInit K C_Profile) :=
  F.ok sc_Profile___init__ (fun vs H Q E h => by first | (obtain ⟨_, rfl, _⟩ := h; rfl) | (obtain ⟨_, _, rfl, _⟩ := h; rfl) | (obtain ⟨_, _, _, rfl, _⟩ := h; rfl) | (obtain ⟨_, _, _, _, rfl, _⟩ := h; rfl) | (obtain ⟨_, _, _, _, _, rfl, _⟩ := h; rfl) | (obtain ⟨_, _, _, _, _, _, rfl, _⟩ := h; rfl) | (obtain ⟨_, _, _, _, _, _, _, rfl, _⟩ := h; rfl) | (obtain ⟨_, _, _, _, _, _, _, _, rfl, _⟩ := h; rfl) | (obtain ⟨_, _, _, _, _, _, _, _, _, rfl, _⟩ := h; rfl) | (obtain ⟨_, _, _, _, _, _, _, _, _, _, rfl, _⟩ := h; rfl) | (obtain ⟨_, _, _, _, _, _, _, _, _, _, _, rfl, _⟩ := h; rfl) | (obtain ⟨_, _, _, _, _, _, _, _, _, _, _, _, rfl, _⟩ := h; rfl) | (obtain ⟨_, _, _, _, _, _, _, _, _, _, _, _, _, rfl, _⟩ := h; rfl) | (obtain ⟨_, _, _, _, _, _, _, _, _, _, _, _, _, _, rfl, _⟩ := h; rfl) | (obtain ⟨_, _, _, _, _, _, _, _, _, _, _, _, _, _, _, rfl, _⟩ := h; rfl) | (obtain ⟨_, _, _, _, _, _, _, _, _, _, _, _, _, _, _, _, rfl, _⟩ := h; rfl) | (obtain ⟨_, _, _, _, _, _, _, _, _, _, _, _, _, _, _, _, _, rfl, _⟩ := h; rfl) | (obtain ⟨_, _, _, _, _, _, _, _, _, _, _, _, _, _, _, _, _, _, rfl, _⟩ := h; rfl) | (obtain ⟨_, _, _, _, _, _, _, _, _, _, _, _, _, _, _, _, _, _, _, rfl, _⟩ := h; rfl) | (obtain ⟨_, _, _, _, _, _, _, _, _, _, _, _, _, _, _, _, _, _, _, _, rfl, _⟩ := h; rfl) | (obtain ⟨_, _, _, _, _, _, _, _, _, _, _, _, _, _, _, _, _, _, _, _, _, rfl, _⟩ := h; rfl) | (obtain ⟨_, _, _, _, _, _, _, _, _, _, _, _, _, _, _, _, _, _, _, _, _, _, rfl, _⟩ := h; rfl) | (obtain ⟨_, _, _, _, _, _, _, _, _, _, _, _, _, _, _, _, _, _, _, _, _, _, _, rfl, _⟩ := h; rfl) | (obtain ⟨_, _, _, _, _, _, _, _, _, _, _, _, _, _, _, _, _, _, _, _, _, _, _, _, rfl, _⟩ := h; rfl) | (obtain ⟨_, _, _, _, _, _, _, _, _, _, _, _, _, _, _, _, _, _, _, _, _, _, _, _, _, rfl, _⟩ := h; rfl)) (fun cdv A outer s H vs Q E hr h => ⟨_, d_Profile___init__ c_check_heights m_len c_check_widths m_tuple hr, p_init h⟩)
abbrev s_grown_profile : Stmt := top 18
theorem sc_grown_profile : FnScope ["heights", "widths"] ["heights", "widths"] (defScope s_grown_profile) := ⟨rfl, rfl, rfl, by decide +kernel, rfl, by decide +kernel, by decide +kernel⟩
theorem d_grown_profile {P : Program} {w : World} {K : PySem.W.Frag} {mg : Str → Option Value} {base : Heap} {C_Profile : Addr} {CX : CXT} {f : Addr} {cdv : Value} {A : Around} {outer : List Env} {s : Shared} {H : Hp} {E : XK} (m_GREATEST : ∃ u, mg "GREATEST" = some (.int 1000000000000000000000000000000 u)) (c_first_outside : Cal P w K mg base CX0 3 "first_outside" ["values", "least", "greatest"] (spOutside K)) (cm2_Profile : CalM P w K mg base CX0 5 "Profile" C_Profile ["self", "heights", "widths"] (spInit K C_Profile) [])
    (hr : Room 6 (A.deeper (envOfC "grown_profile" (defScope s_grown_profile) s.heap.objs.size f cdv))) :
    PSs (cxOf CX P w K mg base ["heights", "widths"] "grown_profile" (defScope s_grown_profile) f cdv A outer s H E) (defBody s_grown_profile) (t_grown_profile K C_Profile) :=
  (pss_cons (ps_if (pt_cmpR op_notN (pe_cal c_first_outside (hr.mono (by decide)) rfl pass0 (pa_cons (pv 0) (pa_cons (pe_un un_neg (pe_gint m_GREATEST rfl)) (pa_cons (pe_gint m_GREATEST rfl) pa_nil)))) pe_non (nomark _)) (pss_one ps_never) pss_nil)
    (pss_cons (ps_if (pt_cmpR op_notN (pe_cal c_first_outside (hr.mono (by decide)) rfl pass0 (pa_cons (pv 1) (pa_cons pe_int (pa_cons (pe_gint m_GREATEST rfl) pa_nil)))) pe_non (nomark _)) (pss_one ps_never) pss_nil)
    (pss_one (ps_ret (pe_calm cm2_Profile (hr.mono (by decide)) rfl pass0 (pa_cons (pv 0) (pa_cons (pv 1) pa_nil)))))))
theorem ok_grown_profile {P : Program} {w : World} {K : PySem.W.Frag} {mg : Str → Option Value} {base : Heap} {C_Profile : Addr} {f : Addr} {fd : FuncData} (F : FunD K "grown_profile" "grown_profile" (defArgs s_grown_profile) (defBody s_grown_profile) (defScope s_grown_profile) [] [] f fd) (m_GREATEST : ∃ u, mg "GREATEST" = some (.int 1000000000000000000000000000000 u)) (c_first_outside : Cal P w K mg base CX0 3 "first_outside" ["values", "least", "greatest"] (spOutside K)) (cm2_Profile : CalM P w K mg base CX0 5 "Profile" C_Profile ["self", "heights", "widths"] (spInit K C_Profile) []) : FnOk P w K mg base CX0 7 f fd ["heights", "widths"] (spGrown K C_Profile) :=
  F.ok sc_grown_profile (fun vs H Q E h => by first | (obtain ⟨_, rfl, _⟩ := h; rfl) | (obtain ⟨_, _, rfl, _⟩ := h; rfl) | (obtain ⟨_, _, _, rfl, _⟩ := h; rfl) | (obtain ⟨_, _, _, _, rfl, _⟩ := h; rfl) | (obtain ⟨_, _, _, _, _, rfl, _⟩ := h; rfl) | (obtain ⟨_, _, _, _, _, _, rfl, _⟩ := h; rfl) | (obtain ⟨_, _, _, _, _, _, _, rfl, _⟩ := h; rfl) | (obtain ⟨_, _, _, _, _, _, _, _, rfl, _⟩ := h; rfl) | (obtain ⟨_, _, _, _, _, _, _, _, _, rfl, _⟩ := h; rfl) | (obtain ⟨_, _, _, _, _, _, _, _, _, _, rfl, _⟩ := h; rfl) | (obtain ⟨_, _, _, _, _, _, _, _, _, _, _, rfl, _⟩ := h; rfl) | (obtain ⟨_, _, _, _, _, _, _, _, _, _, _, _, rfl, _⟩ := h; rfl) | (obtain ⟨_, _, _, _, _, _, _, _, _, _, _, _, _, rfl, _⟩ := h; rfl) | (obtain ⟨_, _, _, _, _, _, _, _, _, _, _, _, _, _, rfl, _⟩ := h; rfl) | (obtain ⟨_, _, _, _, _, _, _, _, _, _, _, _, _, _, _, rfl, _⟩ := h; rfl) | (obtain ⟨_, _, _, _, _, _, _, _, _, _, _, _, _, _, _, _, rfl, _⟩ := h; rfl) | (obtain ⟨_, _, _, _, _, _, _, _, _, _, _, _, _, _, _, _, _, rfl, _⟩ := h; rfl) | (obtain ⟨_, _, _, _, _, _, _, _, _, _, _, _, _, _, _, _, _, _, rfl, _⟩ := h; rfl) | (obtain ⟨_, _, _, _, _, _, _, _, _, _, _, _, _, _, _, _, _, _, _, rfl, _⟩ := h; rfl) | (obtain ⟨_, _, _, _, _, _, _, _, _, _, _, _, _, _, _, _, _, _, _, _, rfl, _⟩ := h; rfl) | (obtain ⟨_, _, _, _, _, _, _, _, _, _, _, _, _, _, _, _, _, _, _, _, _, rfl, _⟩ := h; rfl) | (obtain ⟨_, _, _, _, _, _, _, _, _, _, _, _, _, _, _, _, _, _, _, _, _, _, rfl, _⟩ := h; rfl) | (obtain ⟨_, _, _, _, _, _, _, _, _, _, _, _, _, _, _, _, _, _, _, _, _, _, _, rfl, _⟩ := h; rfl) | (obtain ⟨_, _, _, _, _, _, _, _, _, _, _, _, _, _, _, _, _, _, _, _, _, _, _, _, rfl, _⟩ := h; rfl) | (obtain ⟨_, _, _, _, _, _, _, _, _, _, _, _, _, _, _, _, _, _, _, _, _, _, _, _, _, rfl, _⟩ := h; rfl)) (fun cdv A outer s H vs Q E hr h => ⟨_, d_grown_profile m_GREATEST c_first_outside cm2_Profile hr, p_grown h⟩)
abbrev s_Profile___len__ : Stmt := inClass (top 19) 8
theorem sc_Profile___len__ : FnScope ["self"] ["self"] (defScope s_Profile___len__) := ⟨rfl, rfl, rfl, by decide +kernel, rfl, by decide +kernel, by decide +kernel⟩
theorem d_Profile___len__ {P : Program} {w : World} {K : PySem.W.Frag} {mg : Str → Option Value} {base : Heap} {C_Profile : Addr} {CX : CXT} {f : Addr} {cdv : Value} {A : Around} {outer : List Env} {s : Shared} {H : Hp} {E : XK} (m_len : mg "len" = none)
    (hr : Room 0 (A.deeper (envOfC "Profile.__len__" (defScope s_Profile___len__) s.heap.objs.size f cdv))) :
    PSs (cxOf CX P w K mg base ["self"] "Profile.__len__" (defScope s_Profile___len__) f cdv A outer s H E) (defBody s_Profile___len__) (t_Profile___len__ K C_Profile) :=
  (pss_one (ps_ret (pe_callB call_len_seq (by rfl) m_len (by decide +kernel) (pa_cons (pe_fld (pv 0) rfl) pa_nil))))
theorem ok_Profile___len__ {P : Program} {w : World} {K : PySem.W.Frag} {mg : Str → Option Value} {base : Heap} {C_Profile : Addr} {f : Addr} {fd : FuncData} (F : FunD K "__len__" "Profile.__len__" (defArgs s_Profile___len__) (defBody s_Profile___len__) (defScope s_Profile___len__) [] [] f fd) (m_len : mg "len" = none) : FnOk P w K mg base CX0 1 f fd ["self"] (spPLen K C_Profile) :=
  F.ok sc_Profile___len__ (fun vs H Q E h => by first | (obtain ⟨_, rfl, _⟩ := h; rfl) | (obtain ⟨_, _, rfl, _⟩ := h; rfl) | (obtain ⟨_, _, _, rfl, _⟩ := h; rfl) | (obtain ⟨_, _, _, _, rfl, _⟩ := h; rfl) | (obtain ⟨_, _, _, _, _, rfl, _⟩ := h; rfl) | (obtain ⟨_, _, _, _, _, _, rfl, _⟩ := h; rfl) | (obtain ⟨_, _, _, _, _, _, _, rfl, _⟩ := h; rfl) | (obtain ⟨_, _, _, _, _, _, _, _, rfl, _⟩ := h; rfl) | (obtain ⟨_, _, _, _, _, _, _, _, _, rfl, _⟩ := h; rfl) | (obtain ⟨_, _, _, _, _, _, _, _, _, _, rfl, _⟩ := h; rfl) | (obtain ⟨_, _, _, _, _, _, _, _, _, _, _, rfl, _⟩ := h; rfl) | (obtain ⟨_, _, _, _, _, _, _, _, _, _, _, _, rfl, _⟩ := h; rfl) | (obtain ⟨_, _, _, _, _, _, _, _, _, _, _, _, _, rfl, _⟩ := h; rfl) | (obtain ⟨_, _, _, _, _, _, _, _, _, _, _, _, _, _, rfl, _⟩ := h; rfl) | (obtain ⟨_, _, _, _, _, _, _, _, _, _, _, _, _, _, _, rfl, _⟩ := h; rfl) | (obtain ⟨_, _, _, _, _, _, _, _, _, _, _, _, _, _, _, _, rfl, _⟩ := h; rfl) | (obtain ⟨_, _, _, _, _, _, _, _, _, _, _, _, _, _, _, _, _, rfl, _⟩ := h; rfl) | (obtain ⟨_, _, _, _, _, _, _, _, _, _, _, _, _, _, _, _, _, _, rfl, _⟩ := h; rfl) | (obtain ⟨_, _, _, _, _, _, _, _, _, _, _, _, _, _, _, _, _, _, _, rfl, _⟩ := h; rfl) | (obtain ⟨_, _, _, _, _, _, _, _, _, _, _, _, _, _, _, _, _, _, _, _, rfl, _⟩ := h; rfl) | (obtain ⟨_, _, _, _, _, _, _, _, _, _, _, _, _, _, _, _, _, _, _, _, _, rfl, _⟩ := h; rfl) | (obtain ⟨_, _, _, _, _, _, _, _, _, _, _, _, _, _, _, _, _, _, _, _, _, _, rfl, _⟩ := h; rfl) | (obtain ⟨_, _, _, _, _, _, _, _, _, _, _, _, _, _, _, _, _, _, _, _, _, _, _, rfl, _⟩ := h; rfl) | (obtain ⟨_, _, _, _, _, _, _, _, _, _, _, _, _, _, _, _, _, _, _, _, _, _, _, _, rfl, _⟩ := h; rfl) | (obtain ⟨_, _, _, _, _, _, _, _, _, _, _, _, _, _, _, _, _, _, _, _, _, _, _, _, _, rfl, _⟩ := h; rfl)) (fun cdv A outer s H vs Q E hr h => ⟨_, d_Profile___len__ m_len hr, p_plen h⟩)
abbrev s_Profile___eq__ : Stmt := inClass (top 19) 7
theorem sc_Profile___eq__ : FnScope ["self", "other"] ["self", "other"] (defScope s_Profile___eq__) := ⟨rfl, rfl, rfl, by decide +kernel, rfl, by decide +kernel, by decide +kernel⟩
theorem d_Profile___eq__ {P : Program} {w : World} {K : PySem.W.Frag} {mg : Str → Option Value} {base : Heap} {C_Profile : Addr} {CX : CXT} {f : Addr} {cdv : Value} {A : Around} {outer : List Env} {s : Shared} {H : Hp} {E : XK} (g_Profile : mg "Profile" = some (.ref C_Profile)) (m_isinstance : mg "isinstance" = none)
    (hr : Room 0 (A.deeper (envOfC "Profile.__eq__" (defScope s_Profile___eq__) s.heap.objs.size f cdv))) :
    PSs (cxOf CX P w K mg base ["self", "other"] "Profile.__eq__" (defScope s_Profile___eq__) f cdv A outer s H E) (defBody s_Profile___eq__) (t_Profile___eq__ K C_Profile) :=
  (pss_one (ps_ret (pe_and (pe_callB call_isi (by rfl) m_isinstance (by decide +kernel) (pa_cons (pv 1) (pa_cons (pe_glob rfl g_Profile rfl) pa_nil))) (pe_and (pe_cmpR (op_eqD hr.units) (pe_fld (pv 0) rfl) (pe_fld (pv 1) rfl) (nomark _)) (pe_one (pe_cmpR (op_eqD hr.units) (pe_fld (pv 0) rfl) (pe_fld (pv 1) rfl) (nomark _)))))))
theorem ok_Profile___eq__ {P : Program} {w : World} {K : PySem.W.Frag} {mg : Str → Option Value} {base : Heap} {C_Profile : Addr} {f : Addr} {fd : FuncData} (F : FunD K "__eq__" "Profile.__eq__" (defArgs s_Profile___eq__) (defBody s_Profile___eq__) (defScope s_Profile___eq__) [] [] f fd) (g_Profile : mg "Profile" = some (.ref C_Profile)) (m_isinstance : mg "isinstance" = none) : FnOk P w K mg base CX0 1 f fd ["self", "other"] (spEq (PEq K C_Profile)) :=
  F.ok sc_Profile___eq__ (fun vs H Q E h => by first | (obtain ⟨_, rfl, _⟩ := h; rfl) | (obtain ⟨_, _, rfl, _⟩ := h; rfl) | (obtain ⟨_, _, _, rfl, _⟩ := h; rfl) | (obtain ⟨_, _, _, _, rfl, _⟩ := h; rfl) | (obtain ⟨_, _, _, _, _, rfl, _⟩ := h; rfl) | (obtain ⟨_, _, _, _, _, _, rfl, _⟩ := h; rfl) | (obtain ⟨_, _, _, _, _, _, _, rfl, _⟩ := h; rfl) | (obtain ⟨_, _, _, _, _, _, _, _, rfl, _⟩ := h; rfl) | (obtain ⟨_, _, _, _, _, _, _, _, _, rfl, _⟩ := h; rfl) | (obtain ⟨_, _, _, _, _, _, _, _, _, _, rfl, _⟩ := h; rfl) | (obtain ⟨_, _, _, _, _, _, _, _, _, _, _, rfl, _⟩ := h; rfl) | (obtain ⟨_, _, _, _, _, _, _, _, _, _, _, _, rfl, _⟩ := h; rfl) | (obtain ⟨_, _, _, _, _, _, _, _, _, _, _, _, _, rfl, _⟩ := h; rfl) | (obtain ⟨_, _, _, _, _, _, _, _, _, _, _, _, _, _, rfl, _⟩ := h; rfl) | (obtain ⟨_, _, _, _, _, _, _, _, _, _, _, _, _, _, _, rfl, _⟩ := h; rfl) | (obtain ⟨_, _, _, _, _, _, _, _, _, _, _, _, _, _, _, _, rfl, _⟩ := h; rfl) | (obtain ⟨_, _, _, _, _, _, _, _, _, _, _, _, _, _, _, _, _, rfl, _⟩ := h; rfl) | (obtain ⟨_, _, _, _, _, _, _, _, _, _, _, _, _, _, _, _, _, _, rfl, _⟩ := h; rfl) | (obtain ⟨_, _, _, _, _, _, _, _, _, _, _, _, _, _, _, _, _, _, _, rfl, _⟩ := h; rfl) | (obtain ⟨_, _, _, _, _, _, _, _, _, _, _, _, _, _, _, _, _, _, _, _, rfl, _⟩ := h; rfl) | (obtain ⟨_, _, _, _, _, _, _, _, _, _, _, _, _, _, _, _, _, _, _, _, _, rfl, _⟩ := h; rfl) | (obtain ⟨_, _, _, _, _, _, _, _, _, _, _, _, _, _, _, _, _, _, _, _, _, _, rfl, _⟩ := h; rfl) | (obtain ⟨_, _, _, _, _, _, _, _, _, _, _, _, _, _, _, _, _, _, _, _, _, _, _, rfl, _⟩ := h; rfl) | (obtain ⟨_, _, _, _, _, _, _, _, _, _, _, _, _, _, _, _, _, _, _, _, _, _, _, _, rfl, _⟩ := h; rfl) | (obtain ⟨_, _, _, _, _, _, _, _, _, _, _, _, _, _, _, _, _, _, _, _, _, _, _, _, _, rfl, _⟩ := h; rfl)) (fun cdv A outer s H vs Q E hr h => ⟨_, d_Profile___eq__ g_Profile m_isinstance hr, p_eq h⟩)
abbrev s_Profile_mirrored : Stmt := inClass (top 19) 3
theorem sc_Profile_mirrored : FnScope ["self"] ["self"] (defScope s_Profile_mirrored) := ⟨rfl, rfl, rfl, by decide +kernel, rfl, by decide +kernel, by decide +kernel⟩
theorem d_Profile_mirrored {P : Program} {w : World} {K : PySem.W.Frag} {mg : Str → Option Value} {base : Heap} {C_Profile : Addr} {CX : CXT} {f : Addr} {cdv : Value} {A : Around} {outer : List Env} {s : Shared} {H : Hp} {E : XK} (cm2_Profile : CalM P w K mg base CX0 5 "Profile" C_Profile ["self", "heights", "widths"] (spInit K C_Profile) [])
    (hr : Room 6 (A.deeper (envOfC "Profile.mirrored" (defScope s_Profile_mirrored) s.heap.objs.size f cdv))) :
    PSs (cxOf CX P w K mg base ["self"] "Profile.mirrored" (defScope s_Profile_mirrored) f cdv A outer s H E) (defBody s_Profile_mirrored) (t_Profile_mirrored K C_Profile) :=
  (pss_one (ps_ret (pe_calm cm2_Profile (hr.mono (by decide)) rfl pass0 (pa_cons (pe_revT (pe_fld (pv 0) rfl)) (pa_cons (pe_revT (pe_fld (pv 0) rfl)) pa_nil)))))
theorem ok_Profile_mirrored {P : Program} {w : World} {K : PySem.W.Frag} {mg : Str → Option Value} {base : Heap} {C_Profile : Addr} {f : Addr} {fd : FuncData} (F : FunD K "mirrored" "Profile.mirrored" (defArgs s_Profile_mirrored) (defBody s_Profile_mirrored) (defScope s_Profile_mirrored) [] [] f fd) (cm2_Profile : CalM P w K mg base CX0 5 "Profile" C_Profile ["self", "heights", "widths"] (spInit K C_Profile) []) : FnOk P w K mg base CX0 7 f fd ["self"] (spMirr K C_Profile) :=
  F.ok sc_Profile_mirrored (fun vs H Q E h => by first | (obtain ⟨_, rfl, _⟩ := h; rfl) | (obtain ⟨_, _, rfl, _⟩ := h; rfl) | (obtain ⟨_, _, _, rfl, _⟩ := h; rfl) | (obtain ⟨_, _, _, _, rfl, _⟩ := h; rfl) | (obtain ⟨_, _, _, _, _, rfl, _⟩ := h; rfl) | (obtain ⟨_, _, _, _, _, _, rfl, _⟩ := h; rfl) | (obtain ⟨_, _, _, _, _, _, _, rfl, _⟩ := h; rfl) | (obtain ⟨_, _, _, _, _, _, _, _, rfl, _⟩ := h; rfl) | (obtain ⟨_, _, _, _, _, _, _, _, _, rfl, _⟩ := h; rfl) | (obtain ⟨_, _, _, _, _, _, _, _, _, _, rfl, _⟩ := h; rfl) | (obtain ⟨_, _, _, _, _, _, _, _, _, _, _, rfl, _⟩ := h; rfl) | (obtain ⟨_, _, _, _, _, _, _, _, _, _, _, _, rfl, _⟩ := h; rfl) | (obtain ⟨_, _, _, _, _, _, _, _, _, _, _, _, _, rfl, _⟩ := h; rfl) | (obtain ⟨_, _, _, _, _, _, _, _, _, _, _, _, _, _, rfl, _⟩ := h; rfl) | (obtain ⟨_, _, _, _, _, _, _, _, _, _, _, _, _, _, _, rfl, _⟩ := h; rfl) | (obtain ⟨_, _, _, _, _, _, _, _, _, _, _, _, _, _, _, _, rfl, _⟩ := h; rfl) | (obtain ⟨_, _, _, _, _, _, _, _, _, _, _, _, _, _, _, _, _, rfl, _⟩ := h; rfl) | (obtain ⟨_, _, _, _, _, _, _, _, _, _, _, _, _, _, _, _, _, _, rfl, _⟩ := h; rfl) | (obtain ⟨_, _, _, _, _, _, _, _, _, _, _, _, _, _, _, _, _, _, _, rfl, _⟩ := h; rfl) | (obtain ⟨_, _, _, _, _, _, _, _, _, _, _, _, _, _, _, _, _, _, _, _, rfl, _⟩ := h; rfl) | (obtain ⟨_, _, _, _, _, _, _, _, _, _, _, _, _, _, _, _, _, _, _, _, _, rfl, _⟩ := h; rfl) | (obtain ⟨_, _, _, _, _, _, _, _, _, _, _, _, _, _, _, _, _, _, _, _, _, _, rfl, _⟩ := h; rfl) | (obtain ⟨_, _, _, _, _, _, _, _, _, _, _, _, _, _, _, _, _, _, _, _, _, _, _, rfl, _⟩ := h; rfl) | (obtain ⟨_, _, _, _, _, _, _, _, _, _, _, _, _, _, _, _, _, _, _, _, _, _, _, _, rfl, _⟩ := h; rfl) | (obtain ⟨_, _, _, _, _, _, _, _, _, _, _, _, _, _, _, _, _, _, _, _, _, _, _, _, _, rfl, _⟩ := h; rfl)) (fun cdv A outer s H vs Q E hr h => ⟨_, d_Profile_mirrored cm2_Profile hr, p_mirr h⟩)
abbrev s_Profile_raised : Stmt := inClass (top 19) 5
theorem sc_Profile_raised : FnScope ["self", "column", "height", "heights"] ["self", "column", "height"] (defScope s_Profile_raised) := ⟨rfl, rfl, rfl, by decide +kernel, rfl, by decide +kernel, by decide +kernel⟩
theorem d_Profile_raised {P : Program} {w : World} {K : PySem.W.Frag} {mg : Str → Option Value} {base : Heap} {C_Profile : Addr} {CX : CXT} {f : Addr} {cdv : Value} {A : Around} {outer : List Env} {s : Shared} {H : Hp} {E : XK} (m_len : mg "len" = none) (cu_len : CalU P w K mg base CX0 1 C_Profile "__len__" (spPLen K C_Profile)) (c_is_whole_within : Cal P w K mg base CX0 2 "is_whole_within" ["value", "least", "greatest"] (spWithin K)) (m_GREATEST : ∃ u, mg "GREATEST" = some (.int 1000000000000000000000000000000 u)) (m_list : mg "list" = none) (c_grown_profile : Cal P w K mg base CX0 7 "grown_profile" ["heights", "widths"] (spGrown K C_Profile))
    (hr : Room 7 (A.deeper (envOfC "Profile.raised" (defScope s_Profile_raised) s.heap.objs.size f cdv))) :
    PSs (cxOf CX P w K mg base ["self", "column", "height", "heights"] "Profile.raised" (defScope s_Profile_raised) f cdv A outer s H E) (defBody s_Profile_raised) (t_Profile_raised K C_Profile) :=
  (pss_cons (ps_if (pt_not (pt_val (pe_cal c_is_whole_within (hr.mono (by decide)) rfl pass0 (pa_cons (pv 1) (pa_cons pe_int (pa_cons (pe_op op_sub (pe_callB (call_lenO cu_len (hr.mono (by decide)) pass0) (by rfl) m_len (by decide +kernel) (pa_cons (pv 0) pa_nil)) pe_int) pa_nil)))))) (pss_one ps_never) pss_nil)
    (pss_cons (ps_if (pt_not (pt_val (pe_cal c_is_whole_within (hr.mono (by decide)) rfl pass0 (pa_cons (pv 2) (pa_cons pe_int (pa_cons (pe_gint m_GREATEST rfl) pa_nil)))))) (pss_one ps_never) pss_nil)
    (pss_cons (ps_set (i := 3) sc_Profile_raised.nd rfl (by first | exact Or.inl rfl | exact Or.inr rfl) (pe_callTy call_list_of (by rfl) m_list (by decide +kernel) (pa_cons (pe_fld (pv 0) rfl) pa_nil)))
    (pss_cons (ps_asg (pe_op op_add (pe_ix ix_list (pv 3) (pv 1) (fun _ _ => rfl)) (pv 2)) (pg_sub (pv 3) (pv 1) set_list))
    (pss_one (ps_ret (pe_cal c_grown_profile (hr.mono (by decide)) rfl pass0 (pa_cons (pv 3) (pa_cons (pe_fld (pv 0) rfl) pa_nil)))))))))
theorem ok_Profile_raised {P : Program} {w : World} {K : PySem.W.Frag} {mg : Str → Option Value} {base : Heap} {C_Profile : Addr} {f : Addr} {fd : FuncData} (F : FunD K "raised" "Profile.raised" (defArgs s_Profile_raised) (defBody s_Profile_raised) (defScope s_Profile_raised) [] [] f fd) (m_len : mg "len" = none) (cu_len : CalU P w K mg base CX0 1 C_Profile "__len__" (spPLen K C_Profile)) (c_is_whole_within : Cal P w K mg base CX0 2 "is_whole_within" ["value", "least", "greatest"] (spWithin K)) (m_GREATEST : ∃ u, mg "GREATEST" = some (.int 1000000000000000000000000000000 u)) (m_list : mg "list" = none) (c_grown_profile : Cal P w K mg base CX0 7 "grown_profile" ["heights", "widths"] (spGrown K C_Profile)) : FnOk P w K mg base CX0 8 f fd ["self", "column", "height"] (spRais K C_Profile) :=
  F.ok sc_Profile_raised (fun vs H Q E h => by first | (obtain ⟨_, rfl, _⟩ := h; rfl) | (obtain ⟨_, _, rfl, _⟩ := h; rfl) | (obtain ⟨_, _, _, rfl, _⟩ := h; rfl) | (obtain ⟨_, _, _, _, rfl, _⟩ := h; rfl) | (obtain ⟨_, _, _, _, _, rfl, _⟩ := h; rfl) | (obtain ⟨_, _, _, _, _, _, rfl, _⟩ := h; rfl) | (obtain ⟨_, _, _, _, _, _, _, rfl, _⟩ := h; rfl) | (obtain ⟨_, _, _, _, _, _, _, _, rfl, _⟩ := h; rfl) | (obtain ⟨_, _, _, _, _, _, _, _, _, rfl, _⟩ := h; rfl) | (obtain ⟨_, _, _, _, _, _, _, _, _, _, rfl, _⟩ := h; rfl) | (obtain ⟨_, _, _, _, _, _, _, _, _, _, _, rfl, _⟩ := h; rfl) | (obtain ⟨_, _, _, _, _, _, _, _, _, _, _, _, rfl, _⟩ := h; rfl) | (obtain ⟨_, _, _, _, _, _, _, _, _, _, _, _, _, rfl, _⟩ := h; rfl) | (obtain ⟨_, _, _, _, _, _, _, _, _, _, _, _, _, _, rfl, _⟩ := h; rfl) | (obtain ⟨_, _, _, _, _, _, _, _, _, _, _, _, _, _, _, rfl, _⟩ := h; rfl) | (obtain ⟨_, _, _, _, _, _, _, _, _, _, _, _, _, _, _, _, rfl, _⟩ := h; rfl) | (obtain ⟨_, _, _, _, _, _, _, _, _, _, _, _, _, _, _, _, _, rfl, _⟩ := h; rfl) | (obtain ⟨_, _, _, _, _, _, _, _, _, _, _, _, _, _, _, _, _, _, rfl, _⟩ := h; rfl) | (obtain ⟨_, _, _, _, _, _, _, _, _, _, _, _, _, _, _, _, _, _, _, rfl, _⟩ := h; rfl) | (obtain ⟨_, _, _, _, _, _, _, _, _, _, _, _, _, _, _, _, _, _, _, _, rfl, _⟩ := h; rfl) | (obtain ⟨_, _, _, _, _, _, _, _, _, _, _, _, _, _, _, _, _, _, _, _, _, rfl, _⟩ := h; rfl) | (obtain ⟨_, _, _, _, _, _, _, _, _, _, _, _, _, _, _, _, _, _, _, _, _, _, rfl, _⟩ := h; rfl) | (obtain ⟨_, _, _, _, _, _, _, _, _, _, _, _, _, _, _, _, _, _, _, _, _, _, _, rfl, _⟩ := h; rfl) | (obtain ⟨_, _, _, _, _, _, _, _, _, _, _, _, _, _, _, _, _, _, _, _, _, _, _, _, rfl, _⟩ := h; rfl) | (obtain ⟨_, _, _, _, _, _, _, _, _, _, _, _, _, _, _, _, _, _, _, _, _, _, _, _, _, rfl, _⟩ := h; rfl)) (fun cdv A outer s H vs Q E hr h => ⟨_, d_Profile_raised m_len cu_len c_is_whole_within m_GREATEST m_list c_grown_profile hr, p_rais h⟩)
abbrev s_common_divisor : Stmt := top 21
theorem sc_common_divisor : FnScope ["first", "second"] ["first", "second"] (defScope s_common_divisor) := ⟨rfl, rfl, rfl, by decide +kernel, rfl, by decide +kernel, by decide +kernel⟩
theorem d_common_divisor {P : Program} {w : World} {K : PySem.W.Frag} {mg : Str → Option Value} {base : Heap} {CX : CXT} {f : Addr} {cdv : Value} {A : Around} {outer : List Env} {s : Shared} {H : Hp} {E : XK} 
    (hr : Room 0 (A.deeper (envOfC "common_divisor" (defScope s_common_divisor) s.heap.objs.size f cdv))) :
    PSs (cxOf CX P w K mg base ["first", "second"] "common_divisor" (defScope s_common_divisor) f cdv A outer s H E) (defBody s_common_divisor) (t_common_divisor K) :=
  (pss_cons (ps_while (passes_of rfl) (pt_cmpR op_ne (pv 1) pe_int (nomark _)) (pss_one (ps_par (by rfl) sc_common_divisor.nd rfl rfl (by decide) rfl rfl (pa_cons (pv 1) (pa_cons (pe_op op_mod (pv 0) (pv 1)) pa_nil)) (by rfl))))
    (pss_one (ps_ret (pv 0))))
theorem ok_common_divisor {P : Program} {w : World} {K : PySem.W.Frag} {mg : Str → Option Value} {base : Heap} {f : Addr} {fd : FuncData} (F : FunD K "common_divisor" "common_divisor" (defArgs s_common_divisor) (defBody s_common_divisor) (defScope s_common_divisor) [] [] f fd)  : FnOk P w K mg base CX0 1 f fd ["first", "second"] (spGcd K) :=
  F.ok sc_common_divisor (fun vs H Q E h => by first | (obtain ⟨_, rfl, _⟩ := h; rfl) | (obtain ⟨_, _, rfl, _⟩ := h; rfl) | (obtain ⟨_, _, _, rfl, _⟩ := h; rfl) | (obtain ⟨_, _, _, _, rfl, _⟩ := h; rfl) | (obtain ⟨_, _, _, _, _, rfl, _⟩ := h; rfl) | (obtain ⟨_, _, _, _, _, _, rfl, _⟩ := h; rfl) | (obtain ⟨_, _, _, _, _, _, _, rfl, _⟩ := h; rfl) | (obtain ⟨_, _, _, _, _, _, _, _, rfl, _⟩ := h; rfl) | (obtain ⟨_, _, _, _, _, _, _, _, _, rfl, _⟩ := h; rfl) | (obtain ⟨_, _, _, _, _, _, _, _, _, _, rfl, _⟩ := h; rfl) | (obtain ⟨_, _, _, _, _, _, _, _, _, _, _, rfl, _⟩ := h; rfl) | (obtain ⟨_, _, _, _, _, _, _, _, _, _, _, _, rfl, _⟩ := h; rfl) | (obtain ⟨_, _, _, _, _, _, _, _, _, _, _, _, _, rfl, _⟩ := h; rfl) | (obtain ⟨_, _, _, _, _, _, _, _, _, _, _, _, _, _, rfl, _⟩ := h; rfl) | (obtain ⟨_, _, _, _, _, _, _, _, _, _, _, _, _, _, _, rfl, _⟩ := h; rfl) | (obtain ⟨_, _, _, _, _, _, _, _, _, _, _, _, _, _, _, _, rfl, _⟩ := h; rfl) | (obtain ⟨_, _, _, _, _, _, _, _, _, _, _, _, _, _, _, _, _, rfl, _⟩ := h; rfl) | (obtain ⟨_, _, _, _, _, _, _, _, _, _, _, _, _, _, _, _, _, _, rfl, _⟩ := h; rfl) | (obtain ⟨_, _, _, _, _, _, _, _, _, _, _, _, _, _, _, _, _, _, _, rfl, _⟩ := h; rfl) | (obtain ⟨_, _, _, _, _, _, _, _, _, _, _, _, _, _, _, _, _, _, _, _, rfl, _⟩ := h; rfl) | (obtain ⟨_, _, _, _, _, _, _, _, _, _, _, _, _, _, _, _, _, _, _, _, _, rfl, _⟩ := h; rfl) | (obtain ⟨_, _, _, _, _, _, _, _, _, _, _, _, _, _, _, _, _, _, _, _, _, _, rfl, _⟩ := h; rfl) | (obtain ⟨_, _, _, _, _, _, _, _, _, _, _, _, _, _, _, _, _, _, _, _, _, _, _, rfl, _⟩ := h; rfl) | (obtain ⟨_, _, _, _, _, _, _, _, _, _, _, _, _, _, _, _, _, _, _, _, _, _, _, _, rfl, _⟩ := h; rfl) | (obtain ⟨_, _, _, _, _, _, _, _, _, _, _, _, _, _, _, _, _, _, _, _, _, _, _, _, _, rfl, _⟩ := h; rfl)) (fun cdv A outer s H vs Q E hr h => ⟨_, d_common_divisor  hr, p_gcd h⟩)
abbrev s_gap : Stmt := top 23
theorem sc_gap : FnScope ["left", "right"] ["left", "right"] (defScope s_gap) := ⟨rfl, rfl, rfl, by decide +kernel, rfl, by decide +kernel, by decide +kernel⟩
theorem d_gap {P : Program} {w : World} {K : PySem.W.Frag} {mg : Str → Option Value} {base : Heap} {C_Ratio : Addr} {CX : CXT} {f : Addr} {cdv : Value} {A : Around} {outer : List Env} {s : Shared} {H : Hp} {E : XK} 
    (hr : Room 0 (A.deeper (envOfC "gap" (defScope s_gap) s.heap.objs.size f cdv))) :
    PSs (cxOf CX P w K mg base ["left", "right"] "gap" (defScope s_gap) f cdv A outer s H E) (defBody s_gap) (t_gap K C_Ratio) :=
  (pss_one (ps_ret (pe_op op_sub (pe_op op_mulW (pe_fld (pv 0) rfl) (pe_fld (pv 1) rfl)) (pe_op op_mulW (pe_fld (pv 1) rfl) (pe_fld (pv 0) rfl)))))
theorem ok_gap {P : Program} {w : World} {K : PySem.W.Frag} {mg : Str → Option Value} {base : Heap} {C_Ratio : Addr} {f : Addr} {fd : FuncData} (F : FunD K "gap" "gap" (defArgs s_gap) (defBody s_gap) (defScope s_gap) [] [] f fd)  : FnOk P w K mg base CX0 1 f fd ["left", "right"] (spGap K C_Ratio) :=
  F.ok sc_gap (fun vs H Q E h => by first | (obtain ⟨_, rfl, _⟩ := h; rfl) | (obtain ⟨_, _, rfl, _⟩ := h; rfl) | (obtain ⟨_, _, _, rfl, _⟩ := h; rfl) | (obtain ⟨_, _, _, _, rfl, _⟩ := h; rfl) | (obtain ⟨_, _, _, _, _, rfl, _⟩ := h; rfl) | (obtain ⟨_, _, _, _, _, _, rfl, _⟩ := h; rfl) | (obtain ⟨_, _, _, _, _, _, _, rfl, _⟩ := h; rfl) | (obtain ⟨_, _, _, _, _, _, _, _, rfl, _⟩ := h; rfl) | (obtain ⟨_, _, _, _, _, _, _, _, _, rfl, _⟩ := h; rfl) | (obtain ⟨_, _, _, _, _, _, _, _, _, _, rfl, _⟩ := h; rfl) | (obtain ⟨_, _, _, _, _, _, _, _, _, _, _, rfl, _⟩ := h; rfl) | (obtain ⟨_, _, _, _, _, _, _, _, _, _, _, _, rfl, _⟩ := h; rfl) | (obtain ⟨_, _, _, _, _, _, _, _, _, _, _, _, _, rfl, _⟩ := h; rfl) | (obtain ⟨_, _, _, _, _, _, _, _, _, _, _, _, _, _, rfl, _⟩ := h; rfl) | (obtain ⟨_, _, _, _, _, _, _, _, _, _, _, _, _, _, _, rfl, _⟩ := h; rfl) | (obtain ⟨_, _, _, _, _, _, _, _, _, _, _, _, _, _, _, _, rfl, _⟩ := h; rfl) | (obtain ⟨_, _, _, _, _, _, _, _, _, _, _, _, _, _, _, _, _, rfl, _⟩ := h; rfl) | (obtain ⟨_, _, _, _, _, _, _, _, _, _, _, _, _, _, _, _, _, _, rfl, _⟩ := h; rfl) | (obtain ⟨_, _, _, _, _, _, _, _, _, _, _, _, _, _, _, _, _, _, _, rfl, _⟩ := h; rfl) | (obtain ⟨_, _, _, _, _, _, _, _, _, _, _, _, _, _, _, _, _, _, _, _, rfl, _⟩ := h; rfl) | (obtain ⟨_, _, _, _, _, _, _, _, _, _, _, _, _, _, _, _, _, _, _, _, _, rfl, _⟩ := h; rfl) | (obtain ⟨_, _, _, _, _, _, _, _, _, _, _, _, _, _, _, _, _, _, _, _, _, _, rfl, _⟩ := h; rfl) | (obtain ⟨_, _, _, _, _, _, _, _, _, _, _, _, _, _, _, _, _, _, _, _, _, _, _, rfl, _⟩ := h; rfl) | (obtain ⟨_, _, _, _, _, _, _, _, _, _, _, _, _, _, _, _, _, _, _, _, _, _, _, _, rfl, _⟩ := h; rfl) | (obtain ⟨_, _, _, _, _, _, _, _, _, _, _, _, _, _, _, _, _, _, _, _, _, _, _, _, _, rfl, _⟩ := h; rfl)) (fun cdv A outer s H vs Q E hr h => ⟨_, d_gap  hr, p_gap h⟩)
abbrev s_Ratio___init__ : Stmt := inClass (top 24) 0
theorem sc_Ratio___init__ : FnScope ["self", "numerator", "denominator", "divisor"] ["self", "numerator", "denominator"] (defScope s_Ratio___init__) := ⟨rfl, rfl, rfl, by decide +kernel, rfl, by decide +kernel, by decide +kernel⟩
theorem d_Ratio___init__ {P : Program} {w : World} {K : PySem.W.Frag} {mg : Str → Option Value} {base : Heap} {C_Ratio : Addr} {CX : CXT} {f : Addr} {cdv : Value} {A : Around} {outer : List Env} {s : Shared} {H : Hp} {E : XK} (c_is_whole : Cal P w K mg base CX0 1 "is_whole" ["value"] (spWhole K)) (m_abs : mg "abs" = none) (c_common_divisor : Cal P w K mg base CX0 1 "common_divisor" ["first", "second"] (spGcd K))
    (hr : Room 1 (A.deeper (envOfC "Ratio.__init__" (defScope s_Ratio___init__) s.heap.objs.size f cdv))) :
    PSs (cxOf CX P w K mg base ["self", "numerator", "denominator", "divisor"] "Ratio.__init__" (defScope s_Ratio___init__) f cdv A outer s H E) (defBody s_Ratio___init__) (t_Ratio___init__ K C_Ratio) :=
  (pss_cons (ps_if (pt_not (pt_val (pe_cal c_is_whole (hr.mono (by decide)) rfl pass0 (pa_cons (pv 1) pa_nil)))) (pss_one ps_never) pss_nil)
    (pss_cons (ps_if (PW.pt (pw_or (pt_not (pt_val (pe_cal c_is_whole (hr.mono (by decide)) rfl pass0 (pa_cons (pv 2) pa_nil)))) (pw_or1 (pt_cmpR op_eq (pv 2) pe_int (nomark _))))) (pss_one ps_never) pss_nil)
    (pss_cons (ps_set (i := 3) sc_Ratio___init__.nd rfl (by first | exact Or.inl rfl | exact Or.inr rfl) (pe_cal c_common_divisor (hr.mono (by decide)) rfl pass0 (pa_cons (pe_callB call_abs (by rfl) m_abs (by decide +kernel) (pa_cons (pv 1) pa_nil)) (pa_cons (pe_callB call_abs (by rfl) m_abs (by decide +kernel) (pa_cons (pv 2) pa_nil)) pa_nil))))
    (pss_cons (ps_if (pt_cmpR op_lt (pv 2) pe_int (nomark _)) (pss_one (ps_set (i := 3) sc_Ratio___init__.nd rfl (by first | exact Or.inl rfl | exact Or.inr rfl) (pe_un un_neg (pv 3)))) pss_nil)
    (pss_cons (ps_fld (pv 0) (pe_op op_fdivW (pv 1) (pv 3)) rfl)
    (pss_one (ps_fld (pv 0) (pe_op op_fdivW (pv 2) (pv 3)) rfl)))))))
theorem ok_Ratio___init__ {P : Program} {w : World} {K : PySem.W.Frag} {mg : Str → Option Value} {base : Heap} {C_Ratio : Addr} {f : Addr} {fd : FuncData} (F : FunD K "__init__" "Ratio.__init__" (defArgs s_Ratio___init__) (defBody s_Ratio___init__) (defScope s_Ratio___init__) [.int 1] [] f fd) (c_is_whole : Cal P w K mg base CX0 1 "is_whole" ["value"] (spWhole K)) (m_abs : mg "abs" = none) (c_common_divisor : Cal P w K mg base CX0 1 "common_divisor" ["first", "second"] (spGcd K)) : FnOk P w K mg base CX0 2 f fd ["self", "numerator", "denominator"] (spRInit K C_Ratio) :=
  F.ok sc_Ratio___init__ (fun vs H Q E h => by first | (obtain ⟨_, rfl, _⟩ := h; rfl) | (obtain ⟨_, _, rfl, _⟩ := h; rfl) | (obtain ⟨_, _, _, rfl, _⟩ := h; rfl) | (obtain ⟨_, _, _, _, rfl, _⟩ := h; rfl) | (obtain ⟨_, _, _, _, _, rfl, _⟩ := h; rfl) | (obtain ⟨_, _, _, _, _, _, rfl, _⟩ := h; rfl) | (obtain ⟨_, _, _, _, _, _, _, rfl, _⟩ := h; rfl) | (obtain ⟨_, _, _, _, _, _, _, _, rfl, _⟩ := h; rfl) | (obtain ⟨_, _, _, _, _, _, _, _, _, rfl, _⟩ := h; rfl) | (obtain ⟨_, _, _, _, _, _, _, _, _, _, rfl, _⟩ := h; rfl) | (obtain ⟨_, _, _, _, _, _, _, _, _, _, _, rfl, _⟩ := h; rfl) | (obtain ⟨_, _, _, _, _, _, _, _, _, _, _, _, rfl, _⟩ := h; rfl) | (obtain ⟨_, _, _, _, _, _, _, _, _, _, _, _, _, rfl, _⟩ := h; rfl) | (obtain ⟨_, _, _, _, _, _, _, _, _, _, _, _, _, _, rfl, _⟩ := h; rfl) | (obtain ⟨_, _, _, _, _, _, _, _, _, _, _, _, _, _, _, rfl, _⟩ := h; rfl) | (obtain ⟨_, _, _, _, _, _, _, _, _, _, _, _, _, _, _, _, rfl, _⟩ := h; rfl) | (obtain ⟨_, _, _, _, _, _, _, _, _, _, _, _, _, _, _, _, _, rfl, _⟩ := h; rfl) | (obtain ⟨_, _, _, _, _, _, _, _, _, _, _, _, _, _, _, _, _, _, rfl, _⟩ := h; rfl) | (obtain ⟨_, _, _, _, _, _, _, _, _, _, _, _, _, _, _, _, _, _, _, rfl, _⟩ := h; rfl) | (obtain ⟨_, _, _, _, _, _, _, _, _, _, _, _, _, _, _, _, _, _, _, _, rfl, _⟩ := h; rfl) | (obtain ⟨_, _, _, _, _, _, _, _, _, _, _, _, _, _, _, _, _, _, _, _, _, rfl, _⟩ := h; rfl) | (obtain ⟨_, _, _, _, _, _, _, _, _, _, _, _, _, _, _, _, _, _, _, _, _, _, rfl, _⟩ := h; rfl) | (obtain ⟨_, _, _, _, _, _, _, _, _, _, _, _, _, _, _, _, _, _, _, _, _, _, _, rfl, _⟩ := h; rfl) | (obtain ⟨_, _, _, _, _, _, _, _, _, _, _, _, _, _, _, _, _, _, _, _, _, _, _, _, rfl, _⟩ := h; rfl) | (obtain ⟨_, _, _, _, _, _, _, _, _, _, _, _, _, _, _, _, _, _, _, _, _, _, _, _, _, rfl, _⟩ := h; rfl)) (fun cdv A outer s H vs Q E hr h => ⟨_, d_Ratio___init__ c_is_whole m_abs c_common_divisor hr, p_rinit h⟩)
abbrev s_as_ratio : Stmt := top 22
theorem sc_as_ratio : FnScope ["value"] ["value"] (defScope s_as_ratio) := ⟨rfl, rfl, rfl, by decide +kernel, rfl, by decide +kernel, by decide +kernel⟩
theorem d_as_ratio {P : Program} {w : World} {K : PySem.W.Frag} {mg : Str → Option Value} {base : Heap} {C_Ratio : Addr} {CX : CXT} {f : Addr} {cdv : Value} {A : Around} {outer : List Env} {s : Shared} {H : Hp} {E : XK} (g_Ratio : mg "Ratio" = some (.ref C_Ratio)) (m_isinstance : mg "isinstance" = none) (c_is_whole : Cal P w K mg base CX0 1 "is_whole" ["value"] (spWhole K)) (cm1_Ratio : CalM P w K mg base CX0 2 "Ratio" C_Ratio ["self", "numerator", "denominator"] (spRInit K C_Ratio) [.int 1])
    (hr : Room 3 (A.deeper (envOfC "as_ratio" (defScope s_as_ratio) s.heap.objs.size f cdv))) :
    PSs (cxOf CX P w K mg base ["value"] "as_ratio" (defScope s_as_ratio) f cdv A outer s H E) (defBody s_as_ratio) (t_as_ratio K C_Ratio) :=
  (pss_cons (ps_if (pt_val (pe_callB call_isi (by rfl) m_isinstance (by decide +kernel) (pa_cons (pv 0) (pa_cons (pe_glob rfl g_Ratio rfl) pa_nil)))) (pss_one (ps_ret (pv 0))) pss_nil)
    (pss_cons (ps_if (pt_val (pe_cal c_is_whole (hr.mono (by decide)) rfl pass0 (pa_cons (pv 0) pa_nil))) (pss_one (ps_ret (pe_calm cm1_Ratio (hr.mono (by decide)) rfl pass0 (pa_cons (pv 0) pa_nil)))) pss_nil)
    (pss_one (ps_ret pe_non))))
theorem ok_as_ratio {P : Program} {w : World} {K : PySem.W.Frag} {mg : Str → Option Value} {base : Heap} {C_Ratio : Addr} {f : Addr} {fd : FuncData} (F : FunD K "as_ratio" "as_ratio" (defArgs s_as_ratio) (defBody s_as_ratio) (defScope s_as_ratio) [] [] f fd) (g_Ratio : mg "Ratio" = some (.ref C_Ratio)) (m_isinstance : mg "isinstance" = none) (c_is_whole : Cal P w K mg base CX0 1 "is_whole" ["value"] (spWhole K)) (cm1_Ratio : CalM P w K mg base CX0 2 "Ratio" C_Ratio ["self", "numerator", "denominator"] (spRInit K C_Ratio) [.int 1]) : FnOk P w K mg base CX0 4 f fd ["value"] (spAsR K C_Ratio) :=
  F.ok sc_as_ratio (fun vs H Q E h => by first | (obtain ⟨_, rfl, _⟩ := h; rfl) | (obtain ⟨_, _, rfl, _⟩ := h; rfl) | (obtain ⟨_, _, _, rfl, _⟩ := h; rfl) | (obtain ⟨_, _, _, _, rfl, _⟩ := h; rfl) | (obtain ⟨_, _, _, _, _, rfl, _⟩ := h; rfl) | (obtain ⟨_, _, _, _, _, _, rfl, _⟩ := h; rfl) | (obtain ⟨_, _, _, _, _, _, _, rfl, _⟩ := h; rfl) | (obtain ⟨_, _, _, _, _, _, _, _, rfl, _⟩ := h; rfl) | (obtain ⟨_, _, _, _, _, _, _, _, _, rfl, _⟩ := h; rfl) | (obtain ⟨_, _, _, _, _, _, _, _, _, _, rfl, _⟩ := h; rfl) | (obtain ⟨_, _, _, _, _, _, _, _, _, _, _, rfl, _⟩ := h; rfl) | (obtain ⟨_, _, _, _, _, _, _, _, _, _, _, _, rfl, _⟩ := h; rfl) | (obtain ⟨_, _, _, _, _, _, _, _, _, _, _, _, _, rfl, _⟩ := h; rfl) | (obtain ⟨_, _, _, _, _, _, _, _, _, _, _, _, _, _, rfl, _⟩ := h; rfl) | (obtain ⟨_, _, _, _, _, _, _, _, _, _, _, _, _, _, _, rfl, _⟩ := h; rfl) | (obtain ⟨_, _, _, _, _, _, _, _, _, _, _, _, _, _, _, _, rfl, _⟩ := h; rfl) | (obtain ⟨_, _, _, _, _, _, _, _, _, _, _, _, _, _, _, _, _, rfl, _⟩ := h; rfl) | (obtain ⟨_, _, _, _, _, _, _, _, _, _, _, _, _, _, _, _, _, _, rfl, _⟩ := h; rfl) | (obtain ⟨_, _, _, _, _, _, _, _, _, _, _, _, _, _, _, _, _, _, _, rfl, _⟩ := h; rfl) | (obtain ⟨_, _, _, _, _, _, _, _, _, _, _, _, _, _, _, _, _, _, _, _, rfl, _⟩ := h; rfl) | (obtain ⟨_, _, _, _, _, _, _, _, _, _, _, _, _, _, _, _, _, _, _, _, _, rfl, _⟩ := h; rfl) | (obtain ⟨_, _, _, _, _, _, _, _, _, _, _, _, _, _, _, _, _, _, _, _, _, _, rfl, _⟩ := h; rfl) | (obtain ⟨_, _, _, _, _, _, _, _, _, _, _, _, _, _, _, _, _, _, _, _, _, _, _, rfl, _⟩ := h; rfl) | (obtain ⟨_, _, _, _, _, _, _, _, _, _, _, _, _, _, _, _, _, _, _, _, _, _, _, _, rfl, _⟩ := h; rfl) | (obtain ⟨_, _, _, _, _, _, _, _, _, _, _, _, _, _, _, _, _, _, _, _, _, _, _, _, _, rfl, _⟩ := h; rfl)) (fun cdv A outer s H vs Q E hr h => ⟨_, d_as_ratio g_Ratio m_isinstance c_is_whole cm1_Ratio hr, p_asR h⟩)
abbrev s_Ratio___sub__ : Stmt := inClass (top 24) 8
theorem sc_Ratio___sub__ : FnScope ["self", "other", "right"] ["self", "other"] (defScope s_Ratio___sub__) := ⟨rfl, rfl, rfl, by decide +kernel, rfl, by decide +kernel, by decide +kernel⟩
theorem d_Ratio___sub__ {P : Program} {w : World} {K : PySem.W.Frag} {mg : Str → Option Value} {base : Heap} {C_Ratio : Addr} {CX : CXT} {f : Addr} {cdv : Value} {A : Around} {outer : List Env} {s : Shared} {H : Hp} {E : XK} (c_as_ratio : Cal P w K mg base CX0 4 "as_ratio" ["value"] (spAsR K C_Ratio)) (c_gap : Cal P w K mg base CX0 1 "gap" ["left", "right"] (spGap K C_Ratio)) (cm2_Ratio : CalM P w K mg base CX0 2 "Ratio" C_Ratio ["self", "numerator", "denominator"] (spRInit K C_Ratio) [])
    (hr : Room 4 (A.deeper (envOfC "Ratio.__sub__" (defScope s_Ratio___sub__) s.heap.objs.size f cdv))) :
    PSs (cxOf CX P w K mg base ["self", "other", "right"] "Ratio.__sub__" (defScope s_Ratio___sub__) f cdv A outer s H E) (defBody s_Ratio___sub__) (t_Ratio___sub__ K C_Ratio) :=
  (pss_cons (ps_set (i := 2) sc_Ratio___sub__.nd rfl (by first | exact Or.inl rfl | exact Or.inr rfl) (pe_cal c_as_ratio (hr.mono (by decide)) rfl pass0 (pa_cons (pv 1) pa_nil)))
    (pss_cons (ps_if (pt_cmpR op_isN (pv 2) pe_non (nomark _)) (pss_one ps_never) pss_nil)
    (pss_one (ps_ret (pe_calm cm2_Ratio (hr.mono (by decide)) rfl pass0 (pa_cons (pe_cal c_gap (hr.mono (by decide)) rfl pass0 (pa_cons (pv 0) (pa_cons (pv 2) pa_nil))) (pa_cons (pe_op op_mulW (pe_fld (pv 0) rfl) (pe_fld (pv 2) rfl)) pa_nil)))))))
theorem ok_Ratio___sub__ {P : Program} {w : World} {K : PySem.W.Frag} {mg : Str → Option Value} {base : Heap} {C_Ratio : Addr} {f : Addr} {fd : FuncData} (F : FunD K "__sub__" "Ratio.__sub__" (defArgs s_Ratio___sub__) (defBody s_Ratio___sub__) (defScope s_Ratio___sub__) [] [] f fd) (c_as_ratio : Cal P w K mg base CX0 4 "as_ratio" ["value"] (spAsR K C_Ratio)) (c_gap : Cal P w K mg base CX0 1 "gap" ["left", "right"] (spGap K C_Ratio)) (cm2_Ratio : CalM P w K mg base CX0 2 "Ratio" C_Ratio ["self", "numerator", "denominator"] (spRInit K C_Ratio) []) : FnOk P w K mg base CX0 5 f fd ["self", "other"] (spSub K C_Ratio) :=
  F.ok sc_Ratio___sub__ (fun vs H Q E h => by first | (obtain ⟨_, rfl, _⟩ := h; rfl) | (obtain ⟨_, _, rfl, _⟩ := h; rfl) | (obtain ⟨_, _, _, rfl, _⟩ := h; rfl) | (obtain ⟨_, _, _, _, rfl, _⟩ := h; rfl) | (obtain ⟨_, _, _, _, _, rfl, _⟩ := h; rfl) | (obtain ⟨_, _, _, _, _, _, rfl, _⟩ := h; rfl) | (obtain ⟨_, _, _, _, _, _, _, rfl, _⟩ := h; rfl) | (obtain ⟨_, _, _, _, _, _, _, _, rfl, _⟩ := h; rfl) | (obtain ⟨_, _, _, _, _, _, _, _, _, rfl, _⟩ := h; rfl) | (obtain ⟨_, _, _, _, _, _, _, _, _, _, rfl, _⟩ := h; rfl) | (obtain ⟨_, _, _, _, _, _, _, _, _, _, _, rfl, _⟩ := h; rfl) | (obtain ⟨_, _, _, _, _, _, _, _, _, _, _, _, rfl, _⟩ := h; rfl) | (obtain ⟨_, _, _, _, _, _, _, _, _, _, _, _, _, rfl, _⟩ := h; rfl) | (obtain ⟨_, _, _, _, _, _, _, _, _, _, _, _, _, _, rfl, _⟩ := h; rfl) | (obtain ⟨_, _, _, _, _, _, _, _, _, _, _, _, _, _, _, rfl, _⟩ := h; rfl) | (obtain ⟨_, _, _, _, _, _, _, _, _, _, _, _, _, _, _, _, rfl, _⟩ := h; rfl) | (obtain ⟨_, _, _, _, _, _, _, _, _, _, _, _, _, _, _, _, _, rfl, _⟩ := h; rfl) | (obtain ⟨_, _, _, _, _, _, _, _, _, _, _, _, _, _, _, _, _, _, rfl, _⟩ := h; rfl) | (obtain ⟨_, _, _, _, _, _, _, _, _, _, _, _, _, _, _, _, _, _, _, rfl, _⟩ := h; rfl) | (obtain ⟨_, _, _, _, _, _, _, _, _, _, _, _, _, _, _, _, _, _, _, _, rfl, _⟩ := h; rfl) | (obtain ⟨_, _, _, _, _, _, _, _, _, _, _, _, _, _, _, _, _, _, _, _, _, rfl, _⟩ := h; rfl) | (obtain ⟨_, _, _, _, _, _, _, _, _, _, _, _, _, _, _, _, _, _, _, _, _, _, rfl, _⟩ := h; rfl) | (obtain ⟨_, _, _, _, _, _, _, _, _, _, _, _, _, _, _, _, _, _, _, _, _, _, _, rfl, _⟩ := h; rfl) | (obtain ⟨_, _, _, _, _, _, _, _, _, _, _, _, _, _, _, _, _, _, _, _, _, _, _, _, rfl, _⟩ := h; rfl) | (obtain ⟨_, _, _, _, _, _, _, _, _, _, _, _, _, _, _, _, _, _, _, _, _, _, _, _, _, rfl, _⟩ := h; rfl)) (fun cdv A outer s H vs Q E hr h => ⟨_, d_Ratio___sub__ c_as_ratio c_gap cm2_Ratio hr, p_sub h⟩)
abbrev s_Ratio___eq__ : Stmt := inClass (top 24) 15
theorem sc_Ratio___eq__ : FnScope ["self", "other"] ["self", "other"] (defScope s_Ratio___eq__) := ⟨rfl, rfl, rfl, by decide +kernel, rfl, by decide +kernel, by decide +kernel⟩
theorem d_Ratio___eq__ {P : Program} {w : World} {K : PySem.W.Frag} {mg : Str → Option Value} {base : Heap} {C_Ratio : Addr} {CX : CXT} {f : Addr} {cdv : Value} {A : Around} {outer : List Env} {s : Shared} {H : Hp} {E : XK} (g_Ratio : mg "Ratio" = some (.ref C_Ratio)) (m_isinstance : mg "isinstance" = none) (c_is_whole : Cal P w K mg base CX0 1 "is_whole" ["value"] (spWhole K))
    (hr : Room 4 (A.deeper (envOfC "Ratio.__eq__" (defScope s_Ratio___eq__) s.heap.objs.size f cdv))) :
    PSs (cxOf CX P w K mg base ["self", "other"] "Ratio.__eq__" (defScope s_Ratio___eq__) f cdv A outer s H E) (defBody s_Ratio___eq__) (t_Ratio___eq__ K C_Ratio) :=
  (pss_cons (ps_if (pt_val (pe_callB call_isi (by rfl) m_isinstance (by decide +kernel) (pa_cons (pv 1) (pa_cons (pe_glob rfl g_Ratio rfl) pa_nil)))) (pss_one (ps_ret (pe_and (pe_cmpR op_eq (pe_fld (pv 0) rfl) (pe_fld (pv 1) rfl) (nomark _)) (pe_one (pe_cmpR op_eq (pe_fld (pv 0) rfl) (pe_fld (pv 1) rfl) (nomark _)))))) pss_nil)
    (pss_one (ps_ret (pe_and (pe_cal c_is_whole (hr.mono (by decide)) rfl pass0 (pa_cons (pv 1) pa_nil)) (pe_and (pe_cmpR op_eq (pe_fld (pv 0) rfl) pe_int (nomark _)) (pe_one (pe_cmpR op_eq (pe_fld (pv 0) rfl) (pv 1) (nomark _))))))))
theorem ok_Ratio___eq__ {P : Program} {w : World} {K : PySem.W.Frag} {mg : Str → Option Value} {base : Heap} {C_Ratio : Addr} {f : Addr} {fd : FuncData} (F : FunD K "__eq__" "Ratio.__eq__" (defArgs s_Ratio___eq__) (defBody s_Ratio___eq__) (defScope s_Ratio___eq__) [] [] f fd) (g_Ratio : mg "Ratio" = some (.ref C_Ratio)) (m_isinstance : mg "isinstance" = none) (c_is_whole : Cal P w K mg base CX0 1 "is_whole" ["value"] (spWhole K)) : FnOk P w K mg base CX0 5 f fd ["self", "other"] (spEq67 K C_Ratio) :=
  F.ok sc_Ratio___eq__ (fun vs H Q E h => by first | (obtain ⟨_, rfl, _⟩ := h; rfl) | (obtain ⟨_, _, rfl, _⟩ := h; rfl) | (obtain ⟨_, _, _, rfl, _⟩ := h; rfl) | (obtain ⟨_, _, _, _, rfl, _⟩ := h; rfl) | (obtain ⟨_, _, _, _, _, rfl, _⟩ := h; rfl) | (obtain ⟨_, _, _, _, _, _, rfl, _⟩ := h; rfl) | (obtain ⟨_, _, _, _, _, _, _, rfl, _⟩ := h; rfl) | (obtain ⟨_, _, _, _, _, _, _, _, rfl, _⟩ := h; rfl) | (obtain ⟨_, _, _, _, _, _, _, _, _, rfl, _⟩ := h; rfl) | (obtain ⟨_, _, _, _, _, _, _, _, _, _, rfl, _⟩ := h; rfl) | (obtain ⟨_, _, _, _, _, _, _, _, _, _, _, rfl, _⟩ := h; rfl) | (obtain ⟨_, _, _, _, _, _, _, _, _, _, _, _, rfl, _⟩ := h; rfl) | (obtain ⟨_, _, _, _, _, _, _, _, _, _, _, _, _, rfl, _⟩ := h; rfl) | (obtain ⟨_, _, _, _, _, _, _, _, _, _, _, _, _, _, rfl, _⟩ := h; rfl) | (obtain ⟨_, _, _, _, _, _, _, _, _, _, _, _, _, _, _, rfl, _⟩ := h; rfl) | (obtain ⟨_, _, _, _, _, _, _, _, _, _, _, _, _, _, _, _, rfl, _⟩ := h; rfl) | (obtain ⟨_, _, _, _, _, _, _, _, _, _, _, _, _, _, _, _, _, rfl, _⟩ := h; rfl) | (obtain ⟨_, _, _, _, _, _, _, _, _, _, _, _, _, _, _, _, _, _, rfl, _⟩ := h; rfl) | (obtain ⟨_, _, _, _, _, _, _, _, _, _, _, _, _, _, _, _, _, _, _, rfl, _⟩ := h; rfl) | (obtain ⟨_, _, _, _, _, _, _, _, _, _, _, _, _, _, _, _, _, _, _, _, rfl, _⟩ := h; rfl) | (obtain ⟨_, _, _, _, _, _, _, _, _, _, _, _, _, _, _, _, _, _, _, _, _, rfl, _⟩ := h; rfl) | (obtain ⟨_, _, _, _, _, _, _, _, _, _, _, _, _, _, _, _, _, _, _, _, _, _, rfl, _⟩ := h; rfl) | (obtain ⟨_, _, _, _, _, _, _, _, _, _, _, _, _, _, _, _, _, _, _, _, _, _, _, rfl, _⟩ := h; rfl) | (obtain ⟨_, _, _, _, _, _, _, _, _, _, _, _, _, _, _, _, _, _, _, _, _, _, _, _, rfl, _⟩ := h; rfl) | (obtain ⟨_, _, _, _, _, _, _, _, _, _, _, _, _, _, _, _, _, _, _, _, _, _, _, _, _, rfl, _⟩ := h; rfl)) (fun cdv A outer s H vs Q E hr h => ⟨_, d_Ratio___eq__ g_Ratio m_isinstance c_is_whole hr, p_eq67 h⟩)
abbrev s_Ratio___ne__ : Stmt := inClass (top 24) 16
theorem sc_Ratio___ne__ : FnScope ["self", "other"] ["self", "other"] (defScope s_Ratio___ne__) := ⟨rfl, rfl, rfl, by decide +kernel, rfl, by decide +kernel, by decide +kernel⟩
theorem d_Ratio___ne__ {P : Program} {w : World} {K : PySem.W.Frag} {mg : Str → Option Value} {base : Heap} {C_Ratio : Addr} {CX : CXT} {f : Addr} {cdv : Value} {A : Around} {outer : List Env} {s : Shared} {H : Hp} {E : XK} (co_eq : CalO P w K mg base CX0 5 C_Ratio "__eq__" (spEq67 K C_Ratio)) (oc_R : OpC K C_Ratio)
    (hr : Room 5 (A.deeper (envOfC "Ratio.__ne__" (defScope s_Ratio___ne__) s.heap.objs.size f cdv))) :
    PSs (cxOf CX P w K mg base ["self", "other"] "Ratio.__ne__" (defScope s_Ratio___ne__) f cdv A outer s H E) (defBody s_Ratio___ne__) (t_Ratio___ne__ K C_Ratio) :=
  (pss_one (ps_ret (pe_not (pe_cmpR (op_ownC (fun _ _ => rfl) co_eq oc_R (hr.mono (by decide)) pass0) (pv 0) (pv 1) (nomark _)))))
theorem ok_Ratio___ne__ {P : Program} {w : World} {K : PySem.W.Frag} {mg : Str → Option Value} {base : Heap} {C_Ratio : Addr} {f : Addr} {fd : FuncData} (F : FunD K "__ne__" "Ratio.__ne__" (defArgs s_Ratio___ne__) (defBody s_Ratio___ne__) (defScope s_Ratio___ne__) [] [] f fd) (co_eq : CalO P w K mg base CX0 5 C_Ratio "__eq__" (spEq67 K C_Ratio)) (oc_R : OpC K C_Ratio) : FnOk P w K mg base CX0 6 f fd ["self", "other"] (spNe67 K C_Ratio) :=
  F.ok sc_Ratio___ne__ (fun vs H Q E h => by first | (obtain ⟨_, rfl, _⟩ := h; rfl) | (obtain ⟨_, _, rfl, _⟩ := h; rfl) | (obtain ⟨_, _, _, rfl, _⟩ := h; rfl) | (obtain ⟨_, _, _, _, rfl, _⟩ := h; rfl) | (obtain ⟨_, _, _, _, _, rfl, _⟩ := h; rfl) | (obtain ⟨_, _, _, _, _, _, rfl, _⟩ := h; rfl) | (obtain ⟨_, _, _, _, _, _, _, rfl, _⟩ := h; rfl) | (obtain ⟨_, _, _, _, _, _, _, _, rfl, _⟩ := h; rfl) | (obtain ⟨_, _, _, _, _, _, _, _, _, rfl, _⟩ := h; rfl) | (obtain ⟨_, _, _, _, _, _, _, _, _, _, rfl, _⟩ := h; rfl) | (obtain ⟨_, _, _, _, _, _, _, _, _, _, _, rfl, _⟩ := h; rfl) | (obtain ⟨_, _, _, _, _, _, _, _, _, _, _, _, rfl, _⟩ := h; rfl) | (obtain ⟨_, _, _, _, _, _, _, _, _, _, _, _, _, rfl, _⟩ := h; rfl) | (obtain ⟨_, _, _, _, _, _, _, _, _, _, _, _, _, _, rfl, _⟩ := h; rfl) | (obtain ⟨_, _, _, _, _, _, _, _, _, _, _, _, _, _, _, rfl, _⟩ := h; rfl) | (obtain ⟨_, _, _, _, _, _, _, _, _, _, _, _, _, _, _, _, rfl, _⟩ := h; rfl) | (obtain ⟨_, _, _, _, _, _, _, _, _, _, _, _, _, _, _, _, _, rfl, _⟩ := h; rfl) | (obtain ⟨_, _, _, _, _, _, _, _, _, _, _, _, _, _, _, _, _, _, rfl, _⟩ := h; rfl) | (obtain ⟨_, _, _, _, _, _, _, _, _, _, _, _, _, _, _, _, _, _, _, rfl, _⟩ := h; rfl) | (obtain ⟨_, _, _, _, _, _, _, _, _, _, _, _, _, _, _, _, _, _, _, _, rfl, _⟩ := h; rfl) | (obtain ⟨_, _, _, _, _, _, _, _, _, _, _, _, _, _, _, _, _, _, _, _, _, rfl, _⟩ := h; rfl) | (obtain ⟨_, _, _, _, _, _, _, _, _, _, _, _, _, _, _, _, _, _, _, _, _, _, rfl, _⟩ := h; rfl) | (obtain ⟨_, _, _, _, _, _, _, _, _, _, _, _, _, _, _, _, _, _, _, _, _, _, _, rfl, _⟩ := h; rfl) | (obtain ⟨_, _, _, _, _, _, _, _, _, _, _, _, _, _, _, _, _, _, _, _, _, _, _, _, rfl, _⟩ := h; rfl) | (obtain ⟨_, _, _, _, _, _, _, _, _, _, _, _, _, _, _, _, _, _, _, _, _, _, _, _, _, rfl, _⟩ := h; rfl)) (fun cdv A outer s H vs Q E hr h => ⟨_, d_Ratio___ne__ co_eq oc_R hr, p_ne67 h⟩)
abbrev s_Ratio___gt__ : Stmt := inClass (top 24) 19
theorem sc_Ratio___gt__ : FnScope ["self", "other", "right"] ["self", "other"] (defScope s_Ratio___gt__) := ⟨rfl, rfl, rfl, by decide +kernel, rfl, by decide +kernel, by decide +kernel⟩
theorem d_Ratio___gt__ {P : Program} {w : World} {K : PySem.W.Frag} {mg : Str → Option Value} {base : Heap} {C_Ratio : Addr} {CX : CXT} {f : Addr} {cdv : Value} {A : Around} {outer : List Env} {s : Shared} {H : Hp} {E : XK} (c_as_ratio : Cal P w K mg base CX0 4 "as_ratio" ["value"] (spAsR K C_Ratio)) (c_gap : Cal P w K mg base CX0 1 "gap" ["left", "right"] (spGap K C_Ratio))
    (hr : Room 4 (A.deeper (envOfC "Ratio.__gt__" (defScope s_Ratio___gt__) s.heap.objs.size f cdv))) :
    PSs (cxOf CX P w K mg base ["self", "other", "right"] "Ratio.__gt__" (defScope s_Ratio___gt__) f cdv A outer s H E) (defBody s_Ratio___gt__) (t_Ratio___gt__ K C_Ratio) :=
  (pss_cons (ps_set (i := 2) sc_Ratio___gt__.nd rfl (by first | exact Or.inl rfl | exact Or.inr rfl) (pe_cal c_as_ratio (hr.mono (by decide)) rfl pass0 (pa_cons (pv 1) pa_nil)))
    (pss_cons (ps_if (pt_cmpR op_isN (pv 2) pe_non (nomark _)) (pss_one ps_never) pss_nil)
    (pss_one (ps_ret (pe_cmpR op_gt (pe_cal c_gap (hr.mono (by decide)) rfl pass0 (pa_cons (pv 0) (pa_cons (pv 2) pa_nil))) pe_int (nomark _))))))
theorem ok_Ratio___gt__ {P : Program} {w : World} {K : PySem.W.Frag} {mg : Str → Option Value} {base : Heap} {C_Ratio : Addr} {f : Addr} {fd : FuncData} (F : FunD K "__gt__" "Ratio.__gt__" (defArgs s_Ratio___gt__) (defBody s_Ratio___gt__) (defScope s_Ratio___gt__) [] [] f fd) (c_as_ratio : Cal P w K mg base CX0 4 "as_ratio" ["value"] (spAsR K C_Ratio)) (c_gap : Cal P w K mg base CX0 1 "gap" ["left", "right"] (spGap K C_Ratio)) : FnOk P w K mg base CX0 5 f fd ["self", "other"] (spGt K C_Ratio) :=
  F.ok sc_Ratio___gt__ (fun vs H Q E h => by first | (obtain ⟨_, rfl, _⟩ := h; rfl) | (obtain ⟨_, _, rfl, _⟩ := h; rfl) | (obtain ⟨_, _, _, rfl, _⟩ := h; rfl) | (obtain ⟨_, _, _, _, rfl, _⟩ := h; rfl) | (obtain ⟨_, _, _, _, _, rfl, _⟩ := h; rfl) | (obtain ⟨_, _, _, _, _, _, rfl, _⟩ := h; rfl) | (obtain ⟨_, _, _, _, _, _, _, rfl, _⟩ := h; rfl) | (obtain ⟨_, _, _, _, _, _, _, _, rfl, _⟩ := h; rfl) | (obtain ⟨_, _, _, _, _, _, _, _, _, rfl, _⟩ := h; rfl) | (obtain ⟨_, _, _, _, _, _, _, _, _, _, rfl, _⟩ := h; rfl) | (obtain ⟨_, _, _, _, _, _, _, _, _, _, _, rfl, _⟩ := h; rfl) | (obtain ⟨_, _, _, _, _, _, _, _, _, _, _, _, rfl, _⟩ := h; rfl) | (obtain ⟨_, _, _, _, _, _, _, _, _, _, _, _, _, rfl, _⟩ := h; rfl) | (obtain ⟨_, _, _, _, _, _, _, _, _, _, _, _, _, _, rfl, _⟩ := h; rfl) | (obtain ⟨_, _, _, _, _, _, _, _, _, _, _, _, _, _, _, rfl, _⟩ := h; rfl) | (obtain ⟨_, _, _, _, _, _, _, _, _, _, _, _, _, _, _, _, rfl, _⟩ := h; rfl) | (obtain ⟨_, _, _, _, _, _, _, _, _, _, _, _, _, _, _, _, _, rfl, _⟩ := h; rfl) | (obtain ⟨_, _, _, _, _, _, _, _, _, _, _, _, _, _, _, _, _, _, rfl, _⟩ := h; rfl) | (obtain ⟨_, _, _, _, _, _, _, _, _, _, _, _, _, _, _, _, _, _, _, rfl, _⟩ := h; rfl) | (obtain ⟨_, _, _, _, _, _, _, _, _, _, _, _, _, _, _, _, _, _, _, _, rfl, _⟩ := h; rfl) | (obtain ⟨_, _, _, _, _, _, _, _, _, _, _, _, _, _, _, _, _, _, _, _, _, rfl, _⟩ := h; rfl) | (obtain ⟨_, _, _, _, _, _, _, _, _, _, _, _, _, _, _, _, _, _, _, _, _, _, rfl, _⟩ := h; rfl) | (obtain ⟨_, _, _, _, _, _, _, _, _, _, _, _, _, _, _, _, _, _, _, _, _, _, _, rfl, _⟩ := h; rfl) | (obtain ⟨_, _, _, _, _, _, _, _, _, _, _, _, _, _, _, _, _, _, _, _, _, _, _, _, rfl, _⟩ := h; rfl) | (obtain ⟨_, _, _, _, _, _, _, _, _, _, _, _, _, _, _, _, _, _, _, _, _, _, _, _, _, rfl, _⟩ := h; rfl)) (fun cdv A outer s H vs Q E hr h => ⟨_, d_Ratio___gt__ c_as_ratio c_gap hr, p_gt h⟩)
abbrev s_end_surfaces : Stmt := top 26
theorem sc_end_surfaces : FnScope ["profile", "heights", "many", "left", "right", "column", "height", "one", "other"] ["profile"] (defScope s_end_surfaces) := ⟨rfl, rfl, rfl, by decide +kernel, rfl, by decide +kernel, by decide +kernel⟩
theorem d_end_surfaces {P : Program} {w : World} {K : PySem.W.Frag} {mg : Str → Option Value} {base : Heap} {C_Profile : Addr} {CX : CXT} {f : Addr} {cdv : Value} {A : Around} {outer : List Env} {s : Shared} {H : Hp} {E : XK} (cp_heights : CalP P w K mg base CX0 1 C_Profile "heights" (getSp C_Profile "column_heights")) (m_len : mg "len" = none) (m_range : mg "range" = none) (m_int : mg "int" = none) (m_max : mg "max" = none) (m_zip : mg "zip" = none) (m_min : mg "min" = none)
    (hr : Room 2 (A.deeper (envOfC "end_surfaces" (defScope s_end_surfaces) s.heap.objs.size f cdv))) :
    PSs (cxOf CX P w K mg base ["profile", "heights", "many", "left", "right", "column", "height", "one", "other"] "end_surfaces" (defScope s_end_surfaces) f cdv A outer s H E) (defBody s_end_surfaces) (t_end_surfaces K C_Profile) :=
  (pss_cons (ps_set (i := 1) sc_end_surfaces.nd rfl (by first | exact Or.inl rfl | exact Or.inr rfl) (pe_calp cp_heights (hr.mono (by decide)) pass0 (pv 0) rfl))
    (pss_cons (ps_set (i := 2) sc_end_surfaces.nd rfl (by first | exact Or.inl rfl | exact Or.inr rfl) (pe_callB call_len_seq (by rfl) m_len (by decide +kernel) (pa_cons (pv 1) pa_nil)))
    (pss_cons (ps_setLc (i := 3) (own := [("column", 5)]) (g := (gName 5)) (tt := tYes) (te := (tCB (rMax K) (tCons (tLc (iTup K (tSl (rSlA K) (tVar 1) tNoPart (tPart (tOp oAdd (tVar 5) (tC (.int 1)))))) (gName 6) tYes (tCB cInt (tCons (tVar 6) tNil)) [6]) tNil))) rfl sc_end_surfaces.nd rfl rfl (sw_true rfl rfl rfl (by decide +kernel)) (pi_range1 rfl m_range (pa_cons (pv 2) pa_nil)) (blkOk_by (N := ["profile", "heights", "many", "left", "right", "column", "height", "one", "other"]) (sc := defScope s_end_surfaces) (by decide +kernel)) (fun _ _ _ _ _ => (pg_name (i := 5) sc_end_surfaces.nd rfl (by first | exact Or.inl rfl | exact Or.inr rfl))) (fun _ _ _ _ _ => pts_nil) (fun _ _ _ _ _ => (pe_callB (cr_max rfl) (by rfl) m_max (by decide +kernel) (pa_cons (pe_lc (own := [("height", 6)]) (g := (gName 6)) (tt := tYes) (te := (tCB cInt (tCons (tVar 6) tNil))) rfl sc_end_surfaces.nd (pi_tup (pe_slice sl_tupA (pv 1) po_none (po_some (pe_op op_add (pv 5) pe_int)))) (blkOk_by (by kernel_rfl)) (fun _ _ _ _ _ => (pg_name (i := 6) sc_end_surfaces.nd rfl (by first | exact Or.inl rfl | exact Or.inr rfl))) (fun _ _ _ _ _ => pts_nil) (fun _ _ _ _ _ => (pe_callTy call_int1 (by rfl) m_int (by decide +kernel) (pa_cons (pv 6) pa_nil)))) pa_nil))))
    (pss_cons (ps_setLc (i := 4) (own := [("column", 5)]) (g := (gName 5)) (tt := tYes) (te := (tCB (rMax K) (tCons (tLc (iTup K (tSl (rSlA K) (tVar 1) (tPart (tVar 5)) tNoPart)) (gName 6) tYes (tCB cInt (tCons (tVar 6) tNil)) [6]) tNil))) rfl sc_end_surfaces.nd rfl rfl (sw_true rfl rfl rfl (by decide +kernel)) (pi_range1 rfl m_range (pa_cons (pv 2) pa_nil)) (blkOk_by (N := ["profile", "heights", "many", "left", "right", "column", "height", "one", "other"]) (sc := defScope s_end_surfaces) (by decide +kernel)) (fun _ _ _ _ _ => (pg_name (i := 5) sc_end_surfaces.nd rfl (by first | exact Or.inl rfl | exact Or.inr rfl))) (fun _ _ _ _ _ => pts_nil) (fun _ _ _ _ _ => (pe_callB (cr_max rfl) (by rfl) m_max (by decide +kernel) (pa_cons (pe_lc (own := [("height", 6)]) (g := (gName 6)) (tt := tYes) (te := (tCB cInt (tCons (tVar 6) tNil))) rfl sc_end_surfaces.nd (pi_tup (pe_slice sl_tupA (pv 1) (po_some (pv 5)) po_none)) (blkOk_by (by kernel_rfl)) (fun _ _ _ _ _ => (pg_name (i := 6) sc_end_surfaces.nd rfl (by first | exact Or.inl rfl | exact Or.inr rfl))) (fun _ _ _ _ _ => pts_nil) (fun _ _ _ _ _ => (pe_callTy call_int1 (by rfl) m_int (by decide +kernel) (pa_cons (pv 6) pa_nil)))) pa_nil))))
    (pss_one (ps_ret (pe_lc (own := [("one", 7), ("other", 8)]) (g := (gTup K 2 (gCons (gName 7) (gCons (gName 8) gNil)))) (tt := tYes) (te := (tCB cMin2 (tCons (tCB cInt (tCons (tVar 7) tNil)) (tCons (tVar 8) tNil)))) rfl sc_end_surfaces.nd (pi_zipM (t1 := false) (t2 := false) (by rfl) m_zip (pa_cons (pv 3) (pa_cons (pv 4) pa_nil))) (blkOk_by (N := ["profile", "heights", "many", "left", "right", "column", "height", "one", "other"]) (sc := defScope s_end_surfaces) (by decide +kernel)) (fun _ _ _ _ _ => (pg_tup (by rfl) (pgs_cons (pg_name (i := 7) sc_end_surfaces.nd rfl (by first | exact Or.inl rfl | exact Or.inr rfl)) (pgs_cons (pg_name (i := 8) sc_end_surfaces.nd rfl (by first | exact Or.inl rfl | exact Or.inr rfl)) pgs_nil)))) (fun _ _ _ _ _ => pts_nil) (fun _ _ _ _ _ => (pe_callB (call_min2 rfl) (by rfl) m_min (by decide +kernel) (pa_cons (pe_callTy call_int1 (by rfl) m_int (by decide +kernel) (pa_cons (pv 7) pa_nil)) (pa_cons (pv 8) pa_nil)))))))))))
theorem ok_end_surfaces {P : Program} {w : World} {K : PySem.W.Frag} {mg : Str → Option Value} {base : Heap} {C_Profile : Addr} {f : Addr} {fd : FuncData} (F : FunD K "end_surfaces" "end_surfaces" (defArgs s_end_surfaces) (defBody s_end_surfaces) (defScope s_end_surfaces) [] [] f fd) (cp_heights : CalP P w K mg base CX0 1 C_Profile "heights" (getSp C_Profile "column_heights")) (m_len : mg "len" = none) (m_range : mg "range" = none) (m_int : mg "int" = none) (m_max : mg "max" = none) (m_zip : mg "zip" = none) (m_min : mg "min" = none) : FnOk P w K mg base CX0 3 f fd ["profile"] (spEndS K C_Profile) :=
  F.ok sc_end_surfaces (fun vs H Q E h => by first | (obtain ⟨_, rfl, _⟩ := h; rfl) | (obtain ⟨_, _, rfl, _⟩ := h; rfl) | (obtain ⟨_, _, _, rfl, _⟩ := h; rfl) | (obtain ⟨_, _, _, _, rfl, _⟩ := h; rfl) | (obtain ⟨_, _, _, _, _, rfl, _⟩ := h; rfl) | (obtain ⟨_, _, _, _, _, _, rfl, _⟩ := h; rfl) | (obtain ⟨_, _, _, _, _, _, _, rfl, _⟩ := h; rfl) | (obtain ⟨_, _, _, _, _, _, _, _, rfl, _⟩ := h; rfl) | (obtain ⟨_, _, _, _, _, _, _, _, _, rfl, _⟩ := h; rfl) | (obtain ⟨_, _, _, _, _, _, _, _, _, _, rfl, _⟩ := h; rfl) | (obtain ⟨_, _, _, _, _, _, _, _, _, _, _, rfl, _⟩ := h; rfl) | (obtain ⟨_, _, _, _, _, _, _, _, _, _, _, _, rfl, _⟩ := h; rfl) | (obtain ⟨_, _, _, _, _, _, _, _, _, _, _, _, _, rfl, _⟩ := h; rfl) | (obtain ⟨_, _, _, _, _, _, _, _, _, _, _, _, _, _, rfl, _⟩ := h; rfl) | (obtain ⟨_, _, _, _, _, _, _, _, _, _, _, _, _, _, _, rfl, _⟩ := h; rfl) | (obtain ⟨_, _, _, _, _, _, _, _, _, _, _, _, _, _, _, _, rfl, _⟩ := h; rfl) | (obtain ⟨_, _, _, _, _, _, _, _, _, _, _, _, _, _, _, _, _, rfl, _⟩ := h; rfl) | (obtain ⟨_, _, _, _, _, _, _, _, _, _, _, _, _, _, _, _, _, _, rfl, _⟩ := h; rfl) | (obtain ⟨_, _, _, _, _, _, _, _, _, _, _, _, _, _, _, _, _, _, _, rfl, _⟩ := h; rfl) | (obtain ⟨_, _, _, _, _, _, _, _, _, _, _, _, _, _, _, _, _, _, _, _, rfl, _⟩ := h; rfl) | (obtain ⟨_, _, _, _, _, _, _, _, _, _, _, _, _, _, _, _, _, _, _, _, _, rfl, _⟩ := h; rfl) | (obtain ⟨_, _, _, _, _, _, _, _, _, _, _, _, _, _, _, _, _, _, _, _, _, _, rfl, _⟩ := h; rfl) | (obtain ⟨_, _, _, _, _, _, _, _, _, _, _, _, _, _, _, _, _, _, _, _, _, _, _, rfl, _⟩ := h; rfl) | (obtain ⟨_, _, _, _, _, _, _, _, _, _, _, _, _, _, _, _, _, _, _, _, _, _, _, _, rfl, _⟩ := h; rfl) | (obtain ⟨_, _, _, _, _, _, _, _, _, _, _, _, _, _, _, _, _, _, _, _, _, _, _, _, _, rfl, _⟩ := h; rfl)) (fun cdv A outer s H vs Q E hr h => ⟨_, d_end_surfaces cp_heights m_len m_range m_int m_max m_zip m_min hr, p_endS h⟩)
abbrev s_end_volume : Stmt := top 27
theorem sc_end_volume : FnScope ["profile", "depths", "surface", "height", "width", "depth"] ["profile"] (defScope s_end_volume) := ⟨rfl, rfl, rfl, by decide +kernel, rfl, by decide +kernel, by decide +kernel⟩
theorem d_end_volume {P : Program} {w : World} {K : PySem.W.Frag} {mg : Str → Option Value} {base : Heap} {C_Profile : Addr} {C_Ratio : Addr} {CX : CXT} {f : Addr} {cdv : Value} {A : Around} {outer : List Env} {s : Shared} {H : Hp} {E : XK} (cp_heights : CalP P w K mg base CX0 1 C_Profile "heights" (getSp C_Profile "column_heights")) (c_end_surfaces : Cal P w K mg base CX0 3 "end_surfaces" ["profile"] (spEndS K C_Profile)) (m_zip : mg "zip" = none) (cp_widths : CalP P w K mg base CX0 1 C_Profile "widths" (getSp C_Profile "column_widths")) (m_sum : mg "sum" = none) (cm1_Ratio : CalM P w K mg base CX0 2 "Ratio" C_Ratio ["self", "numerator", "denominator"] (spRInit K C_Ratio) [.int 1])
    (hr : Room 3 (A.deeper (envOfC "end_volume" (defScope s_end_volume) s.heap.objs.size f cdv))) :
    PSs (cxOf CX P w K mg base ["profile", "depths", "surface", "height", "width", "depth"] "end_volume" (defScope s_end_volume) f cdv A outer s H E) (defBody s_end_volume) (t_end_volume K C_Profile C_Ratio) :=
  (pss_cons (ps_setLc (i := 1) (own := [("surface", 2), ("height", 3)]) (g := (gTup K 2 (gCons (gName 2) (gCons (gName 3) gNil)))) (tt := tYes) (te := (tOp oSub (tVar 2) (tVar 3))) rfl sc_end_volume.nd rfl rfl (sw_true rfl rfl rfl (by decide +kernel)) (pi_zipM (t1 := false) (t2 := true) (by rfl) m_zip (pa_cons (pe_cal c_end_surfaces (hr.mono (by decide)) rfl pass0 (pa_cons (pv 0) pa_nil)) (pa_cons (pe_calp cp_heights (hr.mono (by decide)) pass0 (pv 0) rfl) pa_nil))) (blkOk_by (N := ["profile", "depths", "surface", "height", "width", "depth"]) (sc := defScope s_end_volume) (by decide +kernel)) (fun _ _ _ _ _ => (pg_tup (by rfl) (pgs_cons (pg_name (i := 2) sc_end_volume.nd rfl (by first | exact Or.inl rfl | exact Or.inr rfl)) (pgs_cons (pg_name (i := 3) sc_end_volume.nd rfl (by first | exact Or.inl rfl | exact Or.inr rfl)) pgs_nil)))) (fun _ _ _ _ _ => pts_nil) (fun _ _ _ _ _ => (pe_op op_sub (pv 2) (pv 3))))
    (pss_one (ps_ret (pe_calm cm1_Ratio (hr.mono (by decide)) rfl pass0 (pa_cons (pe_callB (cr_sum rfl) (by rfl) m_sum (by decide +kernel) (pa_cons (pe_lc (own := [("width", 4), ("depth", 5)]) (g := (gTup K 2 (gCons (gName 4) (gCons (gName 5) gNil)))) (tt := tYes) (te := (tOp oMulW (tVar 4) (tVar 5))) rfl sc_end_volume.nd (pi_zipM (t1 := true) (t2 := false) (by rfl) m_zip (pa_cons (pe_calp cp_widths (hr.mono (by decide)) pass0 (pv 0) rfl) (pa_cons (pv 1) pa_nil))) (blkOk_by (N := ["profile", "depths", "surface", "height", "width", "depth"]) (sc := defScope s_end_volume) (by decide +kernel)) (fun _ _ _ _ _ => (pg_tup (by rfl) (pgs_cons (pg_name (i := 4) sc_end_volume.nd rfl (by first | exact Or.inl rfl | exact Or.inr rfl)) (pgs_cons (pg_name (i := 5) sc_end_volume.nd rfl (by first | exact Or.inl rfl | exact Or.inr rfl)) pgs_nil)))) (fun _ _ _ _ _ => pts_nil) (fun _ _ _ _ _ => (pe_op op_mulW (pv 4) (pv 5)))) pa_nil)) pa_nil)))))
theorem ok_end_volume {P : Program} {w : World} {K : PySem.W.Frag} {mg : Str → Option Value} {base : Heap} {C_Profile : Addr} {C_Ratio : Addr} {f : Addr} {fd : FuncData} (F : FunD K "end_volume" "end_volume" (defArgs s_end_volume) (defBody s_end_volume) (defScope s_end_volume) [] [] f fd) (cp_heights : CalP P w K mg base CX0 1 C_Profile "heights" (getSp C_Profile "column_heights")) (c_end_surfaces : Cal P w K mg base CX0 3 "end_surfaces" ["profile"] (spEndS K C_Profile)) (m_zip : mg "zip" = none) (cp_widths : CalP P w K mg base CX0 1 C_Profile "widths" (getSp C_Profile "column_widths")) (m_sum : mg "sum" = none) (cm1_Ratio : CalM P w K mg base CX0 2 "Ratio" C_Ratio ["self", "numerator", "denominator"] (spRInit K C_Ratio) [.int 1]) : FnOk P w K mg base CX0 4 f fd ["profile"] (spEndV K C_Profile C_Ratio) :=
  F.ok sc_end_volume (fun vs H Q E h => by first | (obtain ⟨_, rfl, _⟩ := h; rfl) | (obtain ⟨_, _, rfl, _⟩ := h; rfl) | (obtain ⟨_, _, _, rfl, _⟩ := h; rfl) | (obtain ⟨_, _, _, _, rfl, _⟩ := h; rfl) | (obtain ⟨_, _, _, _, _, rfl, _⟩ := h; rfl) | (obtain ⟨_, _, _, _, _, _, rfl, _⟩ := h; rfl) | (obtain ⟨_, _, _, _, _, _, _, rfl, _⟩ := h; rfl) | (obtain ⟨_, _, _, _, _, _, _, _, rfl, _⟩ := h; rfl) | (obtain ⟨_, _, _, _, _, _, _, _, _, rfl, _⟩ := h; rfl) | (obtain ⟨_, _, _, _, _, _, _, _, _, _, rfl, _⟩ := h; rfl) | (obtain ⟨_, _, _, _, _, _, _, _, _, _, _, rfl, _⟩ := h; rfl) | (obtain ⟨_, _, _, _, _, _, _, _, _, _, _, _, rfl, _⟩ := h; rfl) | (obtain ⟨_, _, _, _, _, _, _, _, _, _, _, _, _, rfl, _⟩ := h; rfl) | (obtain ⟨_, _, _, _, _, _, _, _, _, _, _, _, _, _, rfl, _⟩ := h; rfl) | (obtain ⟨_, _, _, _, _, _, _, _, _, _, _, _, _, _, _, rfl, _⟩ := h; rfl) | (obtain ⟨_, _, _, _, _, _, _, _, _, _, _, _, _, _, _, _, rfl, _⟩ := h; rfl) | (obtain ⟨_, _, _, _, _, _, _, _, _, _, _, _, _, _, _, _, _, rfl, _⟩ := h; rfl) | (obtain ⟨_, _, _, _, _, _, _, _, _, _, _, _, _, _, _, _, _, _, rfl, _⟩ := h; rfl) | (obtain ⟨_, _, _, _, _, _, _, _, _, _, _, _, _, _, _, _, _, _, _, rfl, _⟩ := h; rfl) | (obtain ⟨_, _, _, _, _, _, _, _, _, _, _, _, _, _, _, _, _, _, _, _, rfl, _⟩ := h; rfl) | (obtain ⟨_, _, _, _, _, _, _, _, _, _, _, _, _, _, _, _, _, _, _, _, _, rfl, _⟩ := h; rfl) | (obtain ⟨_, _, _, _, _, _, _, _, _, _, _, _, _, _, _, _, _, _, _, _, _, _, rfl, _⟩ := h; rfl) | (obtain ⟨_, _, _, _, _, _, _, _, _, _, _, _, _, _, _, _, _, _, _, _, _, _, _, rfl, _⟩ := h; rfl) | (obtain ⟨_, _, _, _, _, _, _, _, _, _, _, _, _, _, _, _, _, _, _, _, _, _, _, _, rfl, _⟩ := h; rfl) | (obtain ⟨_, _, _, _, _, _, _, _, _, _, _, _, _, _, _, _, _, _, _, _, _, _, _, _, _, rfl, _⟩ := h; rfl)) (fun cdv A outer s H vs Q E hr h => ⟨_, d_end_volume cp_heights c_end_surfaces m_zip cp_widths m_sum cm1_Ratio hr, p_endV h⟩)
abbrev s_dam_gain : Stmt := top 29
theorem sc_dam_gain : FnScope ["profile", "column", "height", "raised"] ["profile", "column", "height"] (defScope s_dam_gain) := ⟨rfl, rfl, rfl, by decide +kernel, rfl, by decide +kernel, by decide +kernel⟩
theorem d_dam_gain {P : Program} {w : World} {K : PySem.W.Frag} {mg : Str → Option Value} {base : Heap} {C_Profile : Addr} {C_Ratio : Addr} {CX : CXT} {f : Addr} {cdv : Value} {A : Around} {outer : List Env} {s : Shared} {H : Hp} {E : XK} (ct_raised : CalT P w K mg base CX0 8 C_Profile "raised" ["self", "column", "height"] (spRais K C_Profile)) (c_end_volume : Cal P w K mg base CX0 4 "end_volume" ["profile"] (spEndV K C_Profile C_Ratio)) (co_sub : CalO P w K mg base CX0 5 C_Ratio "__sub__" (spSub K C_Ratio)) (oc_R : OpC K C_Ratio)
    (hr : Room 8 (A.deeper (envOfC "dam_gain" (defScope s_dam_gain) s.heap.objs.size f cdv))) :
    PSs (cxOf CX P w K mg base ["profile", "column", "height", "raised"] "dam_gain" (defScope s_dam_gain) f cdv A outer s H E) (defBody s_dam_gain) (t_dam_gain K C_Profile C_Ratio) :=
  (pss_cons (ps_set (i := 3) sc_dam_gain.nd rfl (by first | exact Or.inl rfl | exact Or.inr rfl) (pe_calt ct_raised (hr.mono (by decide)) pass0 (pv 0) (pa_cons (pv 1) (pa_cons (pv 2) pa_nil))))
    (pss_one (ps_ret (pe_op (op_subO co_sub oc_R (hr.mono (by decide)) pass0) (pe_cal c_end_volume (hr.mono (by decide)) rfl pass0 (pa_cons (pv 3) pa_nil)) (pe_cal c_end_volume (hr.mono (by decide)) rfl pass0 (pa_cons (pv 0) pa_nil))))))
theorem ok_dam_gain {P : Program} {w : World} {K : PySem.W.Frag} {mg : Str → Option Value} {base : Heap} {C_Profile : Addr} {C_Ratio : Addr} {f : Addr} {fd : FuncData} (F : FunD K "dam_gain" "dam_gain" (defArgs s_dam_gain) (defBody s_dam_gain) (defScope s_dam_gain) [] [] f fd) (ct_raised : CalT P w K mg base CX0 8 C_Profile "raised" ["self", "column", "height"] (spRais K C_Profile)) (c_end_volume : Cal P w K mg base CX0 4 "end_volume" ["profile"] (spEndV K C_Profile C_Ratio)) (co_sub : CalO P w K mg base CX0 5 C_Ratio "__sub__" (spSub K C_Ratio)) (oc_R : OpC K C_Ratio) : FnOk P w K mg base CX0 9 f fd ["profile", "column", "height"] (spGain K C_Profile C_Ratio) :=
  F.ok sc_dam_gain (fun vs H Q E h => by first | (obtain ⟨_, rfl, _⟩ := h; rfl) | (obtain ⟨_, _, rfl, _⟩ := h; rfl) | (obtain ⟨_, _, _, rfl, _⟩ := h; rfl) | (obtain ⟨_, _, _, _, rfl, _⟩ := h; rfl) | (obtain ⟨_, _, _, _, _, rfl, _⟩ := h; rfl) | (obtain ⟨_, _, _, _, _, _, rfl, _⟩ := h; rfl) | (obtain ⟨_, _, _, _, _, _, _, rfl, _⟩ := h; rfl) | (obtain ⟨_, _, _, _, _, _, _, _, rfl, _⟩ := h; rfl) | (obtain ⟨_, _, _, _, _, _, _, _, _, rfl, _⟩ := h; rfl) | (obtain ⟨_, _, _, _, _, _, _, _, _, _, rfl, _⟩ := h; rfl) | (obtain ⟨_, _, _, _, _, _, _, _, _, _, _, rfl, _⟩ := h; rfl) | (obtain ⟨_, _, _, _, _, _, _, _, _, _, _, _, rfl, _⟩ := h; rfl) | (obtain ⟨_, _, _, _, _, _, _, _, _, _, _, _, _, rfl, _⟩ := h; rfl) | (obtain ⟨_, _, _, _, _, _, _, _, _, _, _, _, _, _, rfl, _⟩ := h; rfl) | (obtain ⟨_, _, _, _, _, _, _, _, _, _, _, _, _, _, _, rfl, _⟩ := h; rfl) | (obtain ⟨_, _, _, _, _, _, _, _, _, _, _, _, _, _, _, _, rfl, _⟩ := h; rfl) | (obtain ⟨_, _, _, _, _, _, _, _, _, _, _, _, _, _, _, _, _, rfl, _⟩ := h; rfl) | (obtain ⟨_, _, _, _, _, _, _, _, _, _, _, _, _, _, _, _, _, _, rfl, _⟩ := h; rfl) | (obtain ⟨_, _, _, _, _, _, _, _, _, _, _, _, _, _, _, _, _, _, _, rfl, _⟩ := h; rfl) | (obtain ⟨_, _, _, _, _, _, _, _, _, _, _, _, _, _, _, _, _, _, _, _, rfl, _⟩ := h; rfl) | (obtain ⟨_, _, _, _, _, _, _, _, _, _, _, _, _, _, _, _, _, _, _, _, _, rfl, _⟩ := h; rfl) | (obtain ⟨_, _, _, _, _, _, _, _, _, _, _, _, _, _, _, _, _, _, _, _, _, _, rfl, _⟩ := h; rfl) | (obtain ⟨_, _, _, _, _, _, _, _, _, _, _, _, _, _, _, _, _, _, _, _, _, _, _, rfl, _⟩ := h; rfl) | (obtain ⟨_, _, _, _, _, _, _, _, _, _, _, _, _, _, _, _, _, _, _, _, _, _, _, _, rfl, _⟩ := h; rfl) | (obtain ⟨_, _, _, _, _, _, _, _, _, _, _, _, _, _, _, _, _, _, _, _, _, _, _, _, _, rfl, _⟩ := h; rfl)) (fun cdv A outer s H vs Q E hr h => ⟨_, d_dam_gain ct_raised c_end_volume co_sub oc_R hr, p_gain h⟩)
abbrev s_best_dam : Stmt := top 30
theorem sc_best_dam : FnScope ["profile", "height", "best", "column", "old", "gain"] ["profile", "height"] (defScope s_best_dam) := ⟨rfl, rfl, rfl, by decide +kernel, rfl, by decide +kernel, by decide +kernel⟩
theorem d_best_dam {P : Program} {w : World} {K : PySem.W.Frag} {mg : Str → Option Value} {base : Heap} {C_Profile : Addr} {C_Ratio : Addr} {CX : CXT} {f : Addr} {cdv : Value} {A : Around} {outer : List Env} {s : Shared} {H : Hp} {E : XK} (m_GREATEST : ∃ u, mg "GREATEST" = some (.int 1000000000000000000000000000000 u)) (c_is_whole_within : Cal P w K mg base CX0 2 "is_whole_within" ["value", "least", "greatest"] (spWithin K)) (cp_heights : CalP P w K mg base CX0 1 C_Profile "heights" (getSp C_Profile "column_heights")) (m_enumerate : mg "enumerate" = none) (c_dam_gain : Cal P w K mg base CX0 9 "dam_gain" ["profile", "column", "height"] (spGain K C_Profile C_Ratio)) (co_gt : CalO P w K mg base CX0 5 C_Ratio "__gt__" (spGt K C_Ratio)) (oc_R : OpC K C_Ratio)
    (hr : Room 9 (A.deeper (envOfC "best_dam" (defScope s_best_dam) s.heap.objs.size f cdv))) :
    PSs (cxOf CX P w K mg base ["profile", "height", "best", "column", "old", "gain"] "best_dam" (defScope s_best_dam) f cdv A outer s H E) (defBody s_best_dam) (t_best_dam K C_Profile C_Ratio) :=
  (pss_cons (ps_if (pt_not (pt_val (pe_cal c_is_whole_within (hr.mono (by decide)) rfl pass0 (pa_cons (pv 1) (pa_cons pe_int (pa_cons (pe_gint m_GREATEST rfl) pa_nil)))))) (pss_one ps_never) pss_nil)
    (pss_cons (ps_set (i := 2) sc_best_dam.nd rfl (by first | exact Or.inl rfl | exact Or.inr rfl) pe_non)
    (pss_cons (ps_for (passes_of rfl) rfl (pi_enumA (by rfl) m_enumerate (pa_cons (pe_calp cp_heights (hr.mono (by decide)) pass0 (pv 0) rfl) pa_nil)) (pg_tup (by rfl) (pgs_cons (pg_name (i := 3) sc_best_dam.nd rfl (by first | exact Or.inl rfl | exact Or.inr rfl)) (pgs_cons (pg_name (i := 4) sc_best_dam.nd rfl (by first | exact Or.inl rfl | exact Or.inr rfl)) pgs_nil))) (pss_cons (ps_if (pt_cmpR op_gt (pe_op op_add (pv 4) (pv 1)) (pe_gint m_GREATEST rfl) (nomark _)) (pss_one ps_continue) pss_nil)
    (pss_cons (ps_set (i := 5) sc_best_dam.nd rfl (by first | exact Or.inl rfl | exact Or.inr rfl) (pe_cal c_dam_gain (hr.mono (by decide)) rfl pass0 (pa_cons (pv 0) (pa_cons (pv 3) (pa_cons (pv 1) pa_nil)))))
    (pss_one (ps_if (PW.pt (pw_or (pt_cmpR op_isN (pv 2) pe_non (nomark _)) (pw_or1 (pt_cmpR (op_ownC (fun _ _ => rfl) co_gt oc_R (hr.mono (by decide)) pass0) (pv 5) (pe_ix ix_tup (pv 2) pe_int (fun _ _ => rfl)) (nomark _))))) (pss_one (ps_set (i := 2) sc_best_dam.nd rfl (by first | exact Or.inl rfl | exact Or.inr rfl) (pe_tup (pa_cons (pv 3) (pa_cons (pv 5) pa_nil))))) pss_nil)))))
    (pss_one (ps_ret (pv 2))))))
theorem ok_best_dam {P : Program} {w : World} {K : PySem.W.Frag} {mg : Str → Option Value} {base : Heap} {C_Profile : Addr} {C_Ratio : Addr} {f : Addr} {fd : FuncData} (F : FunD K "best_dam" "best_dam" (defArgs s_best_dam) (defBody s_best_dam) (defScope s_best_dam) [] [] f fd) (m_GREATEST : ∃ u, mg "GREATEST" = some (.int 1000000000000000000000000000000 u)) (c_is_whole_within : Cal P w K mg base CX0 2 "is_whole_within" ["value", "least", "greatest"] (spWithin K)) (cp_heights : CalP P w K mg base CX0 1 C_Profile "heights" (getSp C_Profile "column_heights")) (m_enumerate : mg "enumerate" = none) (c_dam_gain : Cal P w K mg base CX0 9 "dam_gain" ["profile", "column", "height"] (spGain K C_Profile C_Ratio)) (co_gt : CalO P w K mg base CX0 5 C_Ratio "__gt__" (spGt K C_Ratio)) (oc_R : OpC K C_Ratio) : FnOk P w K mg base CX0 10 f fd ["profile", "height"] (spBest67 K C_Profile C_Ratio) :=
  F.ok sc_best_dam (fun vs H Q E h => by first | (obtain ⟨_, rfl, _⟩ := h; rfl) | (obtain ⟨_, _, rfl, _⟩ := h; rfl) | (obtain ⟨_, _, _, rfl, _⟩ := h; rfl) | (obtain ⟨_, _, _, _, rfl, _⟩ := h; rfl) | (obtain ⟨_, _, _, _, _, rfl, _⟩ := h; rfl) | (obtain ⟨_, _, _, _, _, _, rfl, _⟩ := h; rfl) | (obtain ⟨_, _, _, _, _, _, _, rfl, _⟩ := h; rfl) | (obtain ⟨_, _, _, _, _, _, _, _, rfl, _⟩ := h; rfl) | (obtain ⟨_, _, _, _, _, _, _, _, _, rfl, _⟩ := h; rfl) | (obtain ⟨_, _, _, _, _, _, _, _, _, _, rfl, _⟩ := h; rfl) | (obtain ⟨_, _, _, _, _, _, _, _, _, _, _, rfl, _⟩ := h; rfl) | (obtain ⟨_, _, _, _, _, _, _, _, _, _, _, _, rfl, _⟩ := h; rfl) | (obtain ⟨_, _, _, _, _, _, _, _, _, _, _, _, _, rfl, _⟩ := h; rfl) | (obtain ⟨_, _, _, _, _, _, _, _, _, _, _, _, _, _, rfl, _⟩ := h; rfl) | (obtain ⟨_, _, _, _, _, _, _, _, _, _, _, _, _, _, _, rfl, _⟩ := h; rfl) | (obtain ⟨_, _, _, _, _, _, _, _, _, _, _, _, _, _, _, _, rfl, _⟩ := h; rfl) | (obtain ⟨_, _, _, _, _, _, _, _, _, _, _, _, _, _, _, _, _, rfl, _⟩ := h; rfl) | (obtain ⟨_, _, _, _, _, _, _, _, _, _, _, _, _, _, _, _, _, _, rfl, _⟩ := h; rfl) | (obtain ⟨_, _, _, _, _, _, _, _, _, _, _, _, _, _, _, _, _, _, _, rfl, _⟩ := h; rfl) | (obtain ⟨_, _, _, _, _, _, _, _, _, _, _, _, _, _, _, _, _, _, _, _, rfl, _⟩ := h; rfl) | (obtain ⟨_, _, _, _, _, _, _, _, _, _, _, _, _, _, _, _, _, _, _, _, _, rfl, _⟩ := h; rfl) | (obtain ⟨_, _, _, _, _, _, _, _, _, _, _, _, _, _, _, _, _, _, _, _, _, _, rfl, _⟩ := h; rfl) | (obtain ⟨_, _, _, _, _, _, _, _, _, _, _, _, _, _, _, _, _, _, _, _, _, _, _, rfl, _⟩ := h; rfl) | (obtain ⟨_, _, _, _, _, _, _, _, _, _, _, _, _, _, _, _, _, _, _, _, _, _, _, _, rfl, _⟩ := h; rfl) | (obtain ⟨_, _, _, _, _, _, _, _, _, _, _, _, _, _, _, _, _, _, _, _, _, _, _, _, _, rfl, _⟩ := h; rfl)) (fun cdv A outer s H vs Q E hr h => ⟨_, d_best_dam m_GREATEST c_is_whole_within cp_heights m_enumerate c_dam_gain co_gt oc_R hr, p_best67 h⟩)
abbrev s__law_heights : Stmt := top 34
theorem sc__law_heights : FnScope ["_law_draws_here", "_law_many", "_law_size", "_law_heights_here", "_law_k", "_law_one"] ["_law_draws_here"] (defScope s__law_heights) := ⟨rfl, rfl, rfl, by decide +kernel, rfl, by decide +kernel, by decide +kernel⟩
theorem d__law_heights {P : Program} {w : World} {K : PySem.W.Frag} {mg : Str → Option Value} {base : Heap} {CX : CXT} {f : Addr} {cdv : Value} {A : Around} {outer : List Env} {s : Shared} {H : Hp} {E : XK} (c__law_draw : Cal P w K mg base CX0 1 "_law_draw" ["_law_draws_here", "_law_many"] (spDraw K)) (m_range : mg "range" = none)
    (hr : Room 1 (A.deeper (envOfC "_law_heights" (defScope s__law_heights) s.heap.objs.size f cdv))) :
    PSs (cxOf CX P w K mg base ["_law_draws_here", "_law_many", "_law_size", "_law_heights_here", "_law_k", "_law_one"] "_law_heights" (defScope s__law_heights) f cdv A outer s H E) (defBody s__law_heights) (t__law_heights67 K) :=
  (pss_cons (ps_set (i := 1) sc__law_heights.nd rfl (by first | exact Or.inl rfl | exact Or.inr rfl) (pe_op op_add pe_int (pe_cal c__law_draw (hr.mono (by decide)) rfl pass0 (pa_cons (pv 0) (pa_cons (pe_ix ix_list (pe_lst (pa_cons pe_int (pa_cons pe_int (pa_cons pe_int (pa_cons pe_int (pa_cons pe_int pa_nil)))))) (pe_cal c__law_draw (hr.mono (by decide)) rfl pass0 (pa_cons (pv 0) (pa_cons pe_int pa_nil))) (fun _ _ => rfl)) pa_nil)))))
    (pss_cons (ps_set (i := 2) sc__law_heights.nd rfl (by first | exact Or.inl rfl | exact Or.inr rfl) (pe_ix ix_list (pe_lst (pa_cons pe_int (pa_cons pe_int (pa_cons (pe_op op_pow pe_int pe_int) (pa_cons (pe_op op_pow pe_int pe_int) pa_nil))))) (pe_cal c__law_draw (hr.mono (by decide)) rfl pass0 (pa_cons (pv 0) (pa_cons pe_int pa_nil))) (fun _ _ => rfl)))
    (pss_cons (ps_setLc (i := 3) (own := [("_law_k", 4)]) (g := (gName 4)) (tt := tYes) (te := (tOp oSub (tCall (spDraw K) [] E0 (tCons (tVar 0) (tCons (tOp oAdd (tOp oMul (tC (.int 2)) (tVar 2)) (tC (.int 1))) tNil))) (tVar 2))) rfl sc__law_heights.nd rfl rfl (sw_true rfl rfl rfl (by decide +kernel)) (pi_range1 rfl m_range (pa_cons (pv 1) pa_nil)) (blkOk_by (N := ["_law_draws_here", "_law_many", "_law_size", "_law_heights_here", "_law_k", "_law_one"]) (sc := defScope s__law_heights) (by decide +kernel)) (fun _ _ _ _ _ => (pg_name (i := 4) sc__law_heights.nd rfl (by first | exact Or.inl rfl | exact Or.inr rfl))) (fun _ _ _ _ _ => pts_nil) (fun _ _ _ _ _ => (pe_op op_sub (pe_cal c__law_draw (hr.mono (by decide)) rfl pass0 (pa_cons (pv 0) (pa_cons (pe_op op_add (pe_op op_mul pe_int (pv 2)) pe_int) pa_nil))) (pv 2))))
    (pss_cons (ps_if (pt_cmpR op_eq (pe_cal c__law_draw (hr.mono (by decide)) rfl pass0 (pa_cons (pv 0) (pa_cons pe_int pa_nil))) pe_int (nomark _)) (pss_one (ps_setLc (i := 3) (own := [("_law_one", 5)]) (g := (gName 5)) (tt := tYes) (te := (tOp oSub (tOp oPow (tC (.int 10)) (tC (.int 30))) (tOp oMod (tVar 5) (tC (.int 9))))) rfl sc__law_heights.nd rfl rfl (sw_true rfl rfl rfl (by decide +kernel)) (pi_list (pv 3)) (blkOk_by (N := ["_law_draws_here", "_law_many", "_law_size", "_law_heights_here", "_law_k", "_law_one"]) (sc := defScope s__law_heights) (by decide +kernel)) (fun _ _ _ _ _ => (pg_name (i := 5) sc__law_heights.nd rfl (by first | exact Or.inl rfl | exact Or.inr rfl))) (fun _ _ _ _ _ => pts_nil) (fun _ _ _ _ _ => (pe_op op_sub (pe_op op_pow pe_int pe_int) (pe_op op_mod (pv 5) pe_int))))) pss_nil)
    (pss_one (ps_ret (pv 3)))))))
theorem ok__law_heights {P : Program} {w : World} {K : PySem.W.Frag} {mg : Str → Option Value} {base : Heap} {f : Addr} {fd : FuncData} (F : FunD K "_law_heights" "_law_heights" (defArgs s__law_heights) (defBody s__law_heights) (defScope s__law_heights) [] [] f fd) (c__law_draw : Cal P w K mg base CX0 1 "_law_draw" ["_law_draws_here", "_law_many"] (spDraw K)) (m_range : mg "range" = none) : FnOk P w K mg base CX0 2 f fd ["_law_draws_here"] (spHeights K) :=
  F.ok sc__law_heights (fun vs H Q E h => by first | (obtain ⟨_, rfl, _⟩ := h; rfl) | (obtain ⟨_, _, rfl, _⟩ := h; rfl) | (obtain ⟨_, _, _, rfl, _⟩ := h; rfl) | (obtain ⟨_, _, _, _, rfl, _⟩ := h; rfl) | (obtain ⟨_, _, _, _, _, rfl, _⟩ := h; rfl) | (obtain ⟨_, _, _, _, _, _, rfl, _⟩ := h; rfl) | (obtain ⟨_, _, _, _, _, _, _, rfl, _⟩ := h; rfl) | (obtain ⟨_, _, _, _, _, _, _, _, rfl, _⟩ := h; rfl) | (obtain ⟨_, _, _, _, _, _, _, _, _, rfl, _⟩ := h; rfl) | (obtain ⟨_, _, _, _, _, _, _, _, _, _, rfl, _⟩ := h; rfl) | (obtain ⟨_, _, _, _, _, _, _, _, _, _, _, rfl, _⟩ := h; rfl) | (obtain ⟨_, _, _, _, _, _, _, _, _, _, _, _, rfl, _⟩ := h; rfl) | (obtain ⟨_, _, _, _, _, _, _, _, _, _, _, _, _, rfl, _⟩ := h; rfl) | (obtain ⟨_, _, _, _, _, _, _, _, _, _, _, _, _, _, rfl, _⟩ := h; rfl) | (obtain ⟨_, _, _, _, _, _, _, _, _, _, _, _, _, _, _, rfl, _⟩ := h; rfl) | (obtain ⟨_, _, _, _, _, _, _, _, _, _, _, _, _, _, _, _, rfl, _⟩ := h; rfl) | (obtain ⟨_, _, _, _, _, _, _, _, _, _, _, _, _, _, _, _, _, rfl, _⟩ := h; rfl) | (obtain ⟨_, _, _, _, _, _, _, _, _, _, _, _, _, _, _, _, _, _, rfl, _⟩ := h; rfl) | (obtain ⟨_, _, _, _, _, _, _, _, _, _, _, _, _, _, _, _, _, _, _, rfl, _⟩ := h; rfl) | (obtain ⟨_, _, _, _, _, _, _, _, _, _, _, _, _, _, _, _, _, _, _, _, rfl, _⟩ := h; rfl) | (obtain ⟨_, _, _, _, _, _, _, _, _, _, _, _, _, _, _, _, _, _, _, _, _, rfl, _⟩ := h; rfl) | (obtain ⟨_, _, _, _, _, _, _, _, _, _, _, _, _, _, _, _, _, _, _, _, _, _, rfl, _⟩ := h; rfl) | (obtain ⟨_, _, _, _, _, _, _, _, _, _, _, _, _, _, _, _, _, _, _, _, _, _, _, rfl, _⟩ := h; rfl) | (obtain ⟨_, _, _, _, _, _, _, _, _, _, _, _, _, _, _, _, _, _, _, _, _, _, _, _, rfl, _⟩ := h; rfl) | (obtain ⟨_, _, _, _, _, _, _, _, _, _, _, _, _, _, _, _, _, _, _, _, _, _, _, _, _, rfl, _⟩ := h; rfl)) (fun cdv A outer s H vs Q E hr h => ⟨_, d__law_heights c__law_draw m_range hr, p_hts67 h⟩)
abbrev s__law_end : Stmt := top 35
theorem sc__law_end : FnScope ["_law_heights_here", "_law_shares", "_law_found", "_law_at", "_law_left", "_law_one", "_law_right"] ["_law_heights_here", "_law_shares"] (defScope s__law_end) := ⟨rfl, rfl, rfl, by decide +kernel, rfl, by decide +kernel, by decide +kernel⟩
theorem d__law_end {P : Program} {w : World} {K : PySem.W.Frag} {mg : Str → Option Value} {base : Heap} {CX : CXT} {f : Addr} {cdv : Value} {A : Around} {outer : List Env} {s : Shared} {H : Hp} {E : XK} (m_len : mg "len" = none) (m_range : mg "range" = none)
    (hr : Room 0 (A.deeper (envOfC "_law_end" (defScope s__law_end) s.heap.objs.size f cdv))) :
    PSs (cxOf CX P w K mg base ["_law_heights_here", "_law_shares", "_law_found", "_law_at", "_law_left", "_law_one", "_law_right"] "_law_end" (defScope s__law_end) f cdv A outer s H E) (defBody s__law_end) (t__law_end K) :=
  (pss_cons (ps_set (i := 2) sc__law_end.nd rfl (by first | exact Or.inl rfl | exact Or.inr rfl) pe_int)
    (pss_cons (ps_for (passes_of rfl) rfl (pi_range1 rfl m_range (pa_cons (pe_callB call_len_seq (by rfl) m_len (by decide +kernel) (pa_cons (pv 0) pa_nil)) pa_nil)) (pg_name (i := 3) sc__law_end.nd rfl (by first | exact Or.inl rfl | exact Or.inr rfl)) (pss_cons (ps_set (i := 4) sc__law_end.nd rfl (by first | exact Or.inl rfl | exact Or.inr rfl) (pe_ix ix_list (pv 0) (pv 3) (fun _ _ => rfl)))
    (pss_cons (ps_for (passes_of rfl) rfl (pi_list (pe_slice sl_list (pv 0) po_none (po_some (pv 3)))) (pg_name (i := 5) sc__law_end.nd rfl (by first | exact Or.inl rfl | exact Or.inr rfl)) (pss_one (ps_if (pt_cmpR op_gt (pv 5) (pv 4) (nomark _)) (pss_one (ps_set (i := 4) sc__law_end.nd rfl (by first | exact Or.inl rfl | exact Or.inr rfl) (pv 5))) pss_nil)))
    (pss_cons (ps_set (i := 6) sc__law_end.nd rfl (by first | exact Or.inl rfl | exact Or.inr rfl) (pe_ix ix_list (pv 0) (pv 3) (fun _ _ => rfl)))
    (pss_cons (ps_for (passes_of rfl) rfl (pi_list (pe_slice sl_list (pv 0) (po_some (pv 3)) po_none)) (pg_name (i := 5) sc__law_end.nd rfl (by first | exact Or.inl rfl | exact Or.inr rfl)) (pss_one (ps_if (pt_cmpR op_gt (pv 5) (pv 6) (nomark _)) (pss_one (ps_set (i := 6) sc__law_end.nd rfl (by first | exact Or.inl rfl | exact Or.inr rfl) (pv 5))) pss_nil)))
    (pss_cons (ps_if (pt_cmpR op_lt (pv 6) (pv 4) (nomark _)) (pss_one (ps_set (i := 4) sc__law_end.nd rfl (by first | exact Or.inl rfl | exact Or.inr rfl) (pv 6))) pss_nil)
    (pss_one (ps_set (i := 2) sc__law_end.nd rfl (by first | exact Or.inl rfl | exact Or.inr rfl) (pe_op op_add (pv 2) (pe_op op_mulW (pe_ix ix_list (pv 1) (pv 3) (fun _ _ => rfl)) (pe_op op_sub (pv 4) (pe_ix ix_list (pv 0) (pv 3) (fun _ _ => rfl)))))))))))))
    (pss_one (ps_ret (pv 2)))))
theorem ok__law_end {P : Program} {w : World} {K : PySem.W.Frag} {mg : Str → Option Value} {base : Heap} {f : Addr} {fd : FuncData} (F : FunD K "_law_end" "_law_end" (defArgs s__law_end) (defBody s__law_end) (defScope s__law_end) [] [] f fd) (m_len : mg "len" = none) (m_range : mg "range" = none) : FnOk P w K mg base CX0 1 f fd ["_law_heights_here", "_law_shares"] (spLEnd K) :=
  F.ok sc__law_end (fun vs H Q E h => by first | (obtain ⟨_, rfl, _⟩ := h; rfl) | (obtain ⟨_, _, rfl, _⟩ := h; rfl) | (obtain ⟨_, _, _, rfl, _⟩ := h; rfl) | (obtain ⟨_, _, _, _, rfl, _⟩ := h; rfl) | (obtain ⟨_, _, _, _, _, rfl, _⟩ := h; rfl) | (obtain ⟨_, _, _, _, _, _, rfl, _⟩ := h; rfl) | (obtain ⟨_, _, _, _, _, _, _, rfl, _⟩ := h; rfl) | (obtain ⟨_, _, _, _, _, _, _, _, rfl, _⟩ := h; rfl) | (obtain ⟨_, _, _, _, _, _, _, _, _, rfl, _⟩ := h; rfl) | (obtain ⟨_, _, _, _, _, _, _, _, _, _, rfl, _⟩ := h; rfl) | (obtain ⟨_, _, _, _, _, _, _, _, _, _, _, rfl, _⟩ := h; rfl) | (obtain ⟨_, _, _, _, _, _, _, _, _, _, _, _, rfl, _⟩ := h; rfl) | (obtain ⟨_, _, _, _, _, _, _, _, _, _, _, _, _, rfl, _⟩ := h; rfl) | (obtain ⟨_, _, _, _, _, _, _, _, _, _, _, _, _, _, rfl, _⟩ := h; rfl) | (obtain ⟨_, _, _, _, _, _, _, _, _, _, _, _, _, _, _, rfl, _⟩ := h; rfl) | (obtain ⟨_, _, _, _, _, _, _, _, _, _, _, _, _, _, _, _, rfl, _⟩ := h; rfl) | (obtain ⟨_, _, _, _, _, _, _, _, _, _, _, _, _, _, _, _, _, rfl, _⟩ := h; rfl) | (obtain ⟨_, _, _, _, _, _, _, _, _, _, _, _, _, _, _, _, _, _, rfl, _⟩ := h; rfl) | (obtain ⟨_, _, _, _, _, _, _, _, _, _, _, _, _, _, _, _, _, _, _, rfl, _⟩ := h; rfl) | (obtain ⟨_, _, _, _, _, _, _, _, _, _, _, _, _, _, _, _, _, _, _, _, rfl, _⟩ := h; rfl) | (obtain ⟨_, _, _, _, _, _, _, _, _, _, _, _, _, _, _, _, _, _, _, _, _, rfl, _⟩ := h; rfl) | (obtain ⟨_, _, _, _, _, _, _, _, _, _, _, _, _, _, _, _, _, _, _, _, _, _, rfl, _⟩ := h; rfl) | (obtain ⟨_, _, _, _, _, _, _, _, _, _, _, _, _, _, _, _, _, _, _, _, _, _, _, rfl, _⟩ := h; rfl) | (obtain ⟨_, _, _, _, _, _, _, _, _, _, _, _, _, _, _, _, _, _, _, _, _, _, _, _, rfl, _⟩ := h; rfl) | (obtain ⟨_, _, _, _, _, _, _, _, _, _, _, _, _, _, _, _, _, _, _, _, _, _, _, _, _, rfl, _⟩ := h; rfl)) (fun cdv A outer s H vs Q E hr h => ⟨_, d__law_end m_len m_range hr, p_lend h⟩)
abbrev s__law_best : Stmt := top 36
theorem sc__law_best : FnScope ["_law_heights_here", "_law_shares", "_law_rise", "_law_base", "_law_best_here", "_law_at", "_law_raised", "_law_gain"] ["_law_heights_here", "_law_shares", "_law_rise"] (defScope s__law_best) := ⟨rfl, rfl, rfl, by decide +kernel, rfl, by decide +kernel, by decide +kernel⟩
theorem d__law_best {P : Program} {w : World} {K : PySem.W.Frag} {mg : Str → Option Value} {base : Heap} {CX : CXT} {f : Addr} {cdv : Value} {A : Around} {outer : List Env} {s : Shared} {H : Hp} {E : XK} (c__law_end : Cal P w K mg base CX0 1 "_law_end" ["_law_heights_here", "_law_shares"] (spLEnd K)) (m_len : mg "len" = none) (m_range : mg "range" = none) (m_list : mg "list" = none)
    (hr : Room 1 (A.deeper (envOfC "_law_best" (defScope s__law_best) s.heap.objs.size f cdv))) :
    PSs (cxOf CX P w K mg base ["_law_heights_here", "_law_shares", "_law_rise", "_law_base", "_law_best_here", "_law_at", "_law_raised", "_law_gain"] "_law_best" (defScope s__law_best) f cdv A outer s H E) (defBody s__law_best) (t__law_best K) :=
  (pss_cons (ps_set (i := 3) sc__law_best.nd rfl (by first | exact Or.inl rfl | exact Or.inr rfl) (pe_cal c__law_end (hr.mono (by decide)) rfl pass0 (pa_cons (pv 0) (pa_cons (pv 1) pa_nil))))
    (pss_cons (ps_set (i := 4) sc__law_best.nd rfl (by first | exact Or.inl rfl | exact Or.inr rfl) (pe_tup pa_nil))
    (pss_cons (ps_for (passes_of rfl) rfl (pi_range1 rfl m_range (pa_cons (pe_callB call_len_seq (by rfl) m_len (by decide +kernel) (pa_cons (pv 0) pa_nil)) pa_nil)) (pg_name (i := 5) sc__law_best.nd rfl (by first | exact Or.inl rfl | exact Or.inr rfl)) (pss_one (ps_if (pt_cmpR op_le (pe_op op_add (pe_ix ix_list (pv 0) (pv 5) (fun _ _ => rfl)) (pv 2)) (pe_op op_pow pe_int pe_int) (nomark _)) (pss_cons (ps_set (i := 6) sc__law_best.nd rfl (by first | exact Or.inl rfl | exact Or.inr rfl) (pe_callTy call_list_of (by rfl) m_list (by decide +kernel) (pa_cons (pv 0) pa_nil)))
    (pss_cons (ps_asg (pe_op op_add (pe_ix ix_list (pv 6) (pv 5) (fun _ _ => rfl)) (pv 2)) (pg_sub (pv 6) (pv 5) set_list))
    (pss_cons (ps_set (i := 7) sc__law_best.nd rfl (by first | exact Or.inl rfl | exact Or.inr rfl) (pe_op op_sub (pe_cal c__law_end (hr.mono (by decide)) rfl pass0 (pa_cons (pv 6) (pa_cons (pv 1) pa_nil))) (pv 3)))
    (pss_one (ps_if (PW.pt (pw_or (pt_cmpR (op_eqD hr.units) (pv 4) (pe_tup pa_nil) (nomark _)) (pw_or1 (pt_cmpR op_gt (pv 7) (pe_ix ix_tup (pv 4) pe_int (fun _ _ => rfl)) (nomark _))))) (pss_one (ps_set (i := 4) sc__law_best.nd rfl (by first | exact Or.inl rfl | exact Or.inr rfl) (pe_tup (pa_cons (pv 5) (pa_cons (pv 7) pa_nil))))) pss_nil))))) pss_nil)))
    (pss_one (ps_ret (pv 4))))))
theorem ok__law_best {P : Program} {w : World} {K : PySem.W.Frag} {mg : Str → Option Value} {base : Heap} {f : Addr} {fd : FuncData} (F : FunD K "_law_best" "_law_best" (defArgs s__law_best) (defBody s__law_best) (defScope s__law_best) [] [] f fd) (c__law_end : Cal P w K mg base CX0 1 "_law_end" ["_law_heights_here", "_law_shares"] (spLEnd K)) (m_len : mg "len" = none) (m_range : mg "range" = none) (m_list : mg "list" = none) : FnOk P w K mg base CX0 2 f fd ["_law_heights_here", "_law_shares", "_law_rise"] (spLBest67 K) :=
  F.ok sc__law_best (fun vs H Q E h => by first | (obtain ⟨_, rfl, _⟩ := h; rfl) | (obtain ⟨_, _, rfl, _⟩ := h; rfl) | (obtain ⟨_, _, _, rfl, _⟩ := h; rfl) | (obtain ⟨_, _, _, _, rfl, _⟩ := h; rfl) | (obtain ⟨_, _, _, _, _, rfl, _⟩ := h; rfl) | (obtain ⟨_, _, _, _, _, _, rfl, _⟩ := h; rfl) | (obtain ⟨_, _, _, _, _, _, _, rfl, _⟩ := h; rfl) | (obtain ⟨_, _, _, _, _, _, _, _, rfl, _⟩ := h; rfl) | (obtain ⟨_, _, _, _, _, _, _, _, _, rfl, _⟩ := h; rfl) | (obtain ⟨_, _, _, _, _, _, _, _, _, _, rfl, _⟩ := h; rfl) | (obtain ⟨_, _, _, _, _, _, _, _, _, _, _, rfl, _⟩ := h; rfl) | (obtain ⟨_, _, _, _, _, _, _, _, _, _, _, _, rfl, _⟩ := h; rfl) | (obtain ⟨_, _, _, _, _, _, _, _, _, _, _, _, _, rfl, _⟩ := h; rfl) | (obtain ⟨_, _, _, _, _, _, _, _, _, _, _, _, _, _, rfl, _⟩ := h; rfl) | (obtain ⟨_, _, _, _, _, _, _, _, _, _, _, _, _, _, _, rfl, _⟩ := h; rfl) | (obtain ⟨_, _, _, _, _, _, _, _, _, _, _, _, _, _, _, _, rfl, _⟩ := h; rfl) | (obtain ⟨_, _, _, _, _, _, _, _, _, _, _, _, _, _, _, _, _, rfl, _⟩ := h; rfl) | (obtain ⟨_, _, _, _, _, _, _, _, _, _, _, _, _, _, _, _, _, _, rfl, _⟩ := h; rfl) | (obtain ⟨_, _, _, _, _, _, _, _, _, _, _, _, _, _, _, _, _, _, _, rfl, _⟩ := h; rfl) | (obtain ⟨_, _, _, _, _, _, _, _, _, _, _, _, _, _, _, _, _, _, _, _, rfl, _⟩ := h; rfl) | (obtain ⟨_, _, _, _, _, _, _, _, _, _, _, _, _, _, _, _, _, _, _, _, _, rfl, _⟩ := h; rfl) | (obtain ⟨_, _, _, _, _, _, _, _, _, _, _, _, _, _, _, _, _, _, _, _, _, _, rfl, _⟩ := h; rfl) | (obtain ⟨_, _, _, _, _, _, _, _, _, _, _, _, _, _, _, _, _, _, _, _, _, _, _, rfl, _⟩ := h; rfl) | (obtain ⟨_, _, _, _, _, _, _, _, _, _, _, _, _, _, _, _, _, _, _, _, _, _, _, _, rfl, _⟩ := h; rfl) | (obtain ⟨_, _, _, _, _, _, _, _, _, _, _, _, _, _, _, _, _, _, _, _, _, _, _, _, _, rfl, _⟩ := h; rfl)) (fun cdv A outer s H vs Q E hr h => ⟨_, d__law_best c__law_end m_len m_range m_list hr, p_lbest67 h⟩)
abbrev s_law : Stmt := top 37
theorem sc_law : FnScope ["_law_script", "_law_draws_here", "_law_rise", "_law_heights_here", "_law_size", "_law_shares", "_law_ground", "_law_told", "_law_due", "_law_one"] ["_law_script"] (defScope s_law) := ⟨rfl, rfl, rfl, by decide +kernel, rfl, by decide +kernel, by decide +kernel⟩
theorem d_law {P : Program} {w : World} {K : PySem.W.Frag} {mg : Str → Option Value} {base : Heap} {C_Profile : Addr} {C_Ratio : Addr} {CX : CXT} {f : Addr} {cdv : Value} {A : Around} {outer : List Env} {s : Shared} {H : Hp} {E : XK} (c__law_draws : Cal P w K mg base CX0 1 "_law_draws" ["_law_script"] (spDraws K)) (c__law_draw : Cal P w K mg base CX0 1 "_law_draw" ["_law_draws_here", "_law_many"] (spDraw K)) (c__law_heights : Cal P w K mg base CX0 2 "_law_heights" ["_law_draws_here"] (spHeights K)) (cm2_Profile : CalM P w K mg base CX0 5 "Profile" C_Profile ["self", "heights", "widths"] (spInit K C_Profile) []) (c_best_dam : Cal P w K mg base CX0 10 "best_dam" ["profile", "height"] (spBest67 K C_Profile C_Ratio)) (c__law_best : Cal P w K mg base CX0 2 "_law_best" ["_law_heights_here", "_law_shares", "_law_rise"] (spLBest67 K)) (m_tuple : mg "tuple" = none) (m_isinstance : mg "isinstance" = none) (m_len : mg "len" = none) (g_Ratio : mg "Ratio" = some (.ref C_Ratio)) (m_int : mg "int" = none) (m_bool : mg "bool" = none) (cp_bottom : CalP P w K mg base CX0 1 C_Ratio "bottom" (getSp C_Ratio "reduced_bottom")) (cp_top : CalP P w K mg base CX0 1 C_Ratio "top" (getSp C_Ratio "reduced_top")) (ct_mirrored : CalT P w K mg base CX0 7 C_Profile "mirrored" ["self"] (spMirr K C_Profile)) (co_ne : CalO P w K mg base CX0 6 C_Ratio "__ne__" (spNe67 K C_Ratio)) (oc_R : OpC K C_Ratio) (c_dam_gain : Cal P w K mg base CX0 9 "dam_gain" ["profile", "column", "height"] (spGain K C_Profile C_Ratio)) (co_eq : CalO P w K mg base CX0 5 C_Ratio "__eq__" (spEq67 K C_Ratio)) (ce_Profile : CalE P w K mg base CX0 1 C_Profile (PEq K C_Profile))
    (hr : Room 10 (A.deeper (envOfC "law" (defScope s_law) s.heap.objs.size f cdv))) :
    PSs (cxOf CX P w K mg base ["_law_script", "_law_draws_here", "_law_rise", "_law_heights_here", "_law_size", "_law_shares", "_law_ground", "_law_told", "_law_due", "_law_one"] "law" (defScope s_law) f cdv A outer s H E) (defBody s_law) (t_law67 K C_Profile C_Ratio) :=
  (pss_cons (ps_set (i := 1) sc_law.nd rfl (by first | exact Or.inl rfl | exact Or.inr rfl) (pe_cal c__law_draws (hr.mono (by decide)) rfl pass0 (pa_cons (pv 0) pa_nil)))
    (pss_cons (ps_set (i := 2) sc_law.nd rfl (by first | exact Or.inl rfl | exact Or.inr rfl) (pe_cal c__law_draw (hr.mono (by decide)) rfl pass0 (pa_cons (pv 1) (pa_cons (pe_ix ix_list (pe_lst (pa_cons pe_int (pa_cons pe_int (pa_cons (pe_op op_pow pe_int pe_int) (pa_cons (pe_op op_add (pe_op op_pow pe_int pe_int) pe_int) pa_nil))))) (pe_cal c__law_draw (hr.mono (by decide)) rfl pass0 (pa_cons (pv 1) (pa_cons pe_int pa_nil))) (fun _ _ => rfl)) pa_nil))))
    (pss_cons (ps_set (i := 3) sc_law.nd rfl (by first | exact Or.inl rfl | exact Or.inr rfl) (pe_cal c__law_heights (hr.mono (by decide)) rfl pass0 (pa_cons (pv 1) pa_nil)))
    (pss_cons (ps_set (i := 4) sc_law.nd rfl (by first | exact Or.inl rfl | exact Or.inr rfl) (pe_ix ix_list (pe_lst (pa_cons pe_int (pa_cons pe_int (pa_cons (pe_op op_pow pe_int pe_int) pa_nil)))) (pe_cal c__law_draw (hr.mono (by decide)) rfl pass0 (pa_cons (pv 1) (pa_cons pe_int pa_nil))) (fun _ _ => rfl)))
    (pss_cons (ps_setLc (i := 5) (own := [("_law_one", 9)]) (g := (gName 9)) (tt := tYes) (te := (tOp oAdd (tC (.int 1)) (tCall (spDraw K) [] E0 (tCons (tVar 1) (tCons (tVar 4) tNil))))) rfl sc_law.nd rfl rfl (sw_true rfl rfl rfl (by decide +kernel)) (pi_list (pv 3)) (blkOk_by (N := ["_law_script", "_law_draws_here", "_law_rise", "_law_heights_here", "_law_size", "_law_shares", "_law_ground", "_law_told", "_law_due", "_law_one"]) (sc := defScope s_law) (by decide +kernel)) (fun _ _ _ _ _ => (pg_name (i := 9) sc_law.nd rfl (by first | exact Or.inl rfl | exact Or.inr rfl))) (fun _ _ _ _ _ => pts_nil) (fun _ _ _ _ _ => (pe_op op_add pe_int (pe_cal c__law_draw (hr.mono (by decide)) rfl pass0 (pa_cons (pv 1) (pa_cons (pv 4) pa_nil))))))
    (pss_cons (ps_set (i := 6) sc_law.nd rfl (by first | exact Or.inl rfl | exact Or.inr rfl) (pe_calm cm2_Profile (hr.mono (by decide)) rfl pass0 (pa_cons (pv 3) (pa_cons (pv 5) pa_nil))))
    (pss_cons (ps_set (i := 7) sc_law.nd rfl (by first | exact Or.inl rfl | exact Or.inr rfl) (pe_cal c_best_dam (hr.mono (by decide)) rfl pass0 (pa_cons (pv 6) (pa_cons (pv 2) pa_nil))))
    (pss_cons (ps_set (i := 8) sc_law.nd rfl (by first | exact Or.inl rfl | exact Or.inr rfl) (pe_cal c__law_best (hr.mono (by decide)) rfl pass0 (pa_cons (pv 3) (pa_cons (pv 5) (pa_cons (pv 2) pa_nil)))))
    (pss_cons (ps_if (pt_cmpR (op_eqD hr.units) (pv 8) (pe_tup pa_nil) (nomark _)) (pss_one (ps_ret (pe_cmpR op_isN (pv 7) pe_non (nomark _)))) pss_nil)
    (pss_cons (ps_if (PW.pt (pw_or (pt_not (pt_val (pe_callB call_isi (by rfl) m_isinstance (by decide +kernel) (pa_cons (pv 7) (pa_cons (pe_bltn (by rfl) m_tuple (by decide +kernel) rfl) pa_nil))))) (pw_or (pt_cmpR op_ne (pe_callB call_len_seq (by rfl) m_len (by decide +kernel) (pa_cons (pv 7) pa_nil)) pe_int (nomark _)) (pw_or1 (pt_not (pt_val (pe_callB call_isi (by rfl) m_isinstance (by decide +kernel) (pa_cons (pe_ix ix_tup (pv 7) pe_int (fun _ _ => rfl)) (pa_cons (pe_glob rfl g_Ratio rfl) pa_nil))))))))) (pss_one (ps_ret pe_bl)) pss_nil)
    (pss_cons (ps_if (PW.pt (pw_or (pt_not (pt_val (pe_callB call_isi (by rfl) m_isinstance (by decide +kernel) (pa_cons (pe_ix ix_tup (pv 7) pe_int (fun _ _ => rfl)) (pa_cons (pe_bltn (by rfl) m_int (by decide +kernel) rfl) pa_nil))))) (pw_or (pt_val (pe_callB call_isi (by rfl) m_isinstance (by decide +kernel) (pa_cons (pe_ix ix_tup (pv 7) pe_int (fun _ _ => rfl)) (pa_cons (pe_bltn (by rfl) m_bool (by decide +kernel) rfl) pa_nil)))) (pw_or1 (pt_cmpR op_ne (pe_ix ix_tup (pv 7) pe_int (fun _ _ => rfl)) (pe_ix ix_tup (pv 8) pe_int (fun _ _ => rfl)) (nomark _)))))) (pss_one (ps_ret pe_bl)) pss_nil)
    (pss_cons (ps_if (PW.pt (pw_or (pt_cmpR op_ne (pe_calp cp_bottom (hr.mono (by decide)) pass0 (pe_ix ix_tup (pv 7) pe_int (fun _ _ => rfl)) rfl) pe_int (nomark _)) (pw_or1 (pt_cmpR op_ne (pe_calp cp_top (hr.mono (by decide)) pass0 (pe_ix ix_tup (pv 7) pe_int (fun _ _ => rfl)) rfl) (pe_ix ix_tup (pv 8) pe_int (fun _ _ => rfl)) (nomark _))))) (pss_one (ps_ret pe_bl)) pss_nil)
    (pss_cons (ps_if (pt_cmpR (op_ownC (fun _ _ => rfl) co_ne oc_R (hr.mono (by decide)) pass0) (pe_ix ix_tup (pe_cal c_best_dam (hr.mono (by decide)) rfl pass0 (pa_cons (pe_calt0 ct_mirrored (hr.mono (by decide)) pass0 (pv 6)) (pa_cons (pv 2) pa_nil))) pe_int (fun _ _ => rfl)) (pe_ix ix_tup (pv 7) pe_int (fun _ _ => rfl)) (nomark _)) (pss_one (ps_ret pe_bl)) pss_nil)
    (pss_one (ps_ret (pe_and (pe_cmpR (op_ownC (fun _ _ => rfl) co_eq oc_R (hr.mono (by decide)) pass0) (pe_cal c_dam_gain (hr.mono (by decide)) rfl pass0 (pa_cons (pv 6) (pa_cons (pe_ix ix_tup (pv 8) pe_int (fun _ _ => rfl)) (pa_cons (pv 2) pa_nil)))) (pe_ix ix_tup (pv 7) pe_int (fun _ _ => rfl)) (nomark _)) (pe_one (pe_cmpR (op_cale ce_Profile (hr.mono (by decide)) pass0) (pv 6) (pe_calm cm2_Profile (hr.mono (by decide)) rfl pass0 (pa_cons (pv 3) (pa_cons (pv 5) pa_nil))) (nomark _)))))))))))))))))))
theorem ok_law {P : Program} {w : World} {K : PySem.W.Frag} {mg : Str → Option Value} {base : Heap} {C_Profile : Addr} {C_Ratio : Addr} {f : Addr} {fd : FuncData} (F : FunD K "law" "law" (defArgs s_law) (defBody s_law) (defScope s_law) [] [] f fd) (c__law_draws : Cal P w K mg base CX0 1 "_law_draws" ["_law_script"] (spDraws K)) (c__law_draw : Cal P w K mg base CX0 1 "_law_draw" ["_law_draws_here", "_law_many"] (spDraw K)) (c__law_heights : Cal P w K mg base CX0 2 "_law_heights" ["_law_draws_here"] (spHeights K)) (cm2_Profile : CalM P w K mg base CX0 5 "Profile" C_Profile ["self", "heights", "widths"] (spInit K C_Profile) []) (c_best_dam : Cal P w K mg base CX0 10 "best_dam" ["profile", "height"] (spBest67 K C_Profile C_Ratio)) (c__law_best : Cal P w K mg base CX0 2 "_law_best" ["_law_heights_here", "_law_shares", "_law_rise"] (spLBest67 K)) (m_tuple : mg "tuple" = none) (m_isinstance : mg "isinstance" = none) (m_len : mg "len" = none) (g_Ratio : mg "Ratio" = some (.ref C_Ratio)) (m_int : mg "int" = none) (m_bool : mg "bool" = none) (cp_bottom : CalP P w K mg base CX0 1 C_Ratio "bottom" (getSp C_Ratio "reduced_bottom")) (cp_top : CalP P w K mg base CX0 1 C_Ratio "top" (getSp C_Ratio "reduced_top")) (ct_mirrored : CalT P w K mg base CX0 7 C_Profile "mirrored" ["self"] (spMirr K C_Profile)) (co_ne : CalO P w K mg base CX0 6 C_Ratio "__ne__" (spNe67 K C_Ratio)) (oc_R : OpC K C_Ratio) (c_dam_gain : Cal P w K mg base CX0 9 "dam_gain" ["profile", "column", "height"] (spGain K C_Profile C_Ratio)) (co_eq : CalO P w K mg base CX0 5 C_Ratio "__eq__" (spEq67 K C_Ratio)) (ce_Profile : CalE P w K mg base CX0 1 C_Profile (PEq K C_Profile)) : FnOk P w K mg base CX0 11 f fd ["_law_script"] (spLaw67 K C_Profile C_Ratio) :=
  F.ok sc_law (fun vs H Q E h => by first | (obtain ⟨_, rfl, _⟩ := h; rfl) | (obtain ⟨_, _, rfl, _⟩ := h; rfl) | (obtain ⟨_, _, _, rfl, _⟩ := h; rfl) | (obtain ⟨_, _, _, _, rfl, _⟩ := h; rfl) | (obtain ⟨_, _, _, _, _, rfl, _⟩ := h; rfl) | (obtain ⟨_, _, _, _, _, _, rfl, _⟩ := h; rfl) | (obtain ⟨_, _, _, _, _, _, _, rfl, _⟩ := h; rfl) | (obtain ⟨_, _, _, _, _, _, _, _, rfl, _⟩ := h; rfl) | (obtain ⟨_, _, _, _, _, _, _, _, _, rfl, _⟩ := h; rfl) | (obtain ⟨_, _, _, _, _, _, _, _, _, _, rfl, _⟩ := h; rfl) | (obtain ⟨_, _, _, _, _, _, _, _, _, _, _, rfl, _⟩ := h; rfl) | (obtain ⟨_, _, _, _, _, _, _, _, _, _, _, _, rfl, _⟩ := h; rfl) | (obtain ⟨_, _, _, _, _, _, _, _, _, _, _, _, _, rfl, _⟩ := h; rfl) | (obtain ⟨_, _, _, _, _, _, _, _, _, _, _, _, _, _, rfl, _⟩ := h; rfl) | (obtain ⟨_, _, _, _, _, _, _, _, _, _, _, _, _, _, _, rfl, _⟩ := h; rfl) | (obtain ⟨_, _, _, _, _, _, _, _, _, _, _, _, _, _, _, _, rfl, _⟩ := h; rfl) | (obtain ⟨_, _, _, _, _, _, _, _, _, _, _, _, _, _, _, _, _, rfl, _⟩ := h; rfl) | (obtain ⟨_, _, _, _, _, _, _, _, _, _, _, _, _, _, _, _, _, _, rfl, _⟩ := h; rfl) | (obtain ⟨_, _, _, _, _, _, _, _, _, _, _, _, _, _, _, _, _, _, _, rfl, _⟩ := h; rfl) | (obtain ⟨_, _, _, _, _, _, _, _, _, _, _, _, _, _, _, _, _, _, _, _, rfl, _⟩ := h; rfl) | (obtain ⟨_, _, _, _, _, _, _, _, _, _, _, _, _, _, _, _, _, _, _, _, _, rfl, _⟩ := h; rfl) | (obtain ⟨_, _, _, _, _, _, _, _, _, _, _, _, _, _, _, _, _, _, _, _, _, _, rfl, _⟩ := h; rfl) | (obtain ⟨_, _, _, _, _, _, _, _, _, _, _, _, _, _, _, _, _, _, _, _, _, _, _, rfl, _⟩ := h; rfl) | (obtain ⟨_, _, _, _, _, _, _, _, _, _, _, _, _, _, _, _, _, _, _, _, _, _, _, _, rfl, _⟩ := h; rfl) | (obtain ⟨_, _, _, _, _, _, _, _, _, _, _, _, _, _, _, _, _, _, _, _, _, _, _, _, _, rfl, _⟩ := h; rfl)) (fun cdv A outer s H vs Q E hr h => ⟨_, d_law c__law_draws c__law_draw c__law_heights cm2_Profile c_best_dam c__law_best m_tuple m_isinstance m_len g_Ratio m_int m_bool cp_bottom cp_top ct_mirrored co_ne oc_R c_dam_gain co_eq ce_Profile hr, p_law67 h⟩)
def D__law_draws : He.DefD := ⟨("_law_draws", none), "_law_draws", "_law_draws", defArgs s__law_draws, defBody s__law_draws, defScope s__law_draws, [], []⟩
def D__law_draw : He.DefD := ⟨("_law_draw", none), "_law_draw", "_law_draw", defArgs s__law_draw, defBody s__law_draw, defScope s__law_draw, [], []⟩
def D_is_whole : He.DefD := ⟨("is_whole", none), "is_whole", "is_whole", defArgs s_is_whole, defBody s_is_whole, defScope s_is_whole, [], []⟩
def D_is_whole_within : He.DefD := ⟨("is_whole_within", none), "is_whole_within", "is_whole_within", defArgs s_is_whole_within, defBody s_is_whole_within, defScope s_is_whole_within, [], []⟩
def D_first_outside : He.DefD := ⟨("first_outside", none), "first_outside", "first_outside", defArgs s_first_outside, defBody s_first_outside, defScope s_first_outside, [], []⟩
def D_is_row : He.DefD := ⟨("is_row", none), "is_row", "is_row", defArgs s_is_row, defBody s_is_row, defScope s_is_row, [], []⟩
def D_check_heights : He.DefD := ⟨("check_heights", none), "check_heights", "check_heights", defArgs s_check_heights, defBody s_check_heights, defScope s_check_heights, [], []⟩
def D_check_widths : He.DefD := ⟨("check_widths", none), "check_widths", "check_widths", defArgs s_check_widths, defBody s_check_widths, defScope s_check_widths, [], []⟩
def D_Profile___init__ : He.DefD := ⟨("Profile", some "__init__"), "__init__", "Profile.__init__", defArgs s_Profile___init__, defBody s_Profile___init__, defScope s_Profile___init__, [.non], []⟩
def D_grown_profile : He.DefD := ⟨("grown_profile", none), "grown_profile", "grown_profile", defArgs s_grown_profile, defBody s_grown_profile, defScope s_grown_profile, [], []⟩
def D_Profile___len__ : He.DefD := ⟨("Profile", some "__len__"), "__len__", "Profile.__len__", defArgs s_Profile___len__, defBody s_Profile___len__, defScope s_Profile___len__, [], []⟩
def D_Profile___eq__ : He.DefD := ⟨("Profile", some "__eq__"), "__eq__", "Profile.__eq__", defArgs s_Profile___eq__, defBody s_Profile___eq__, defScope s_Profile___eq__, [], []⟩
def D_Profile_mirrored : He.DefD := ⟨("Profile", some "mirrored"), "mirrored", "Profile.mirrored", defArgs s_Profile_mirrored, defBody s_Profile_mirrored, defScope s_Profile_mirrored, [], []⟩
def D_Profile_raised : He.DefD := ⟨("Profile", some "raised"), "raised", "Profile.raised", defArgs s_Profile_raised, defBody s_Profile_raised, defScope s_Profile_raised, [], []⟩
def D_common_divisor : He.DefD := ⟨("common_divisor", none), "common_divisor", "common_divisor", defArgs s_common_divisor, defBody s_common_divisor, defScope s_common_divisor, [], []⟩
def D_gap : He.DefD := ⟨("gap", none), "gap", "gap", defArgs s_gap, defBody s_gap, defScope s_gap, [], []⟩
def D_Ratio___init__ : He.DefD := ⟨("Ratio", some "__init__"), "__init__", "Ratio.__init__", defArgs s_Ratio___init__, defBody s_Ratio___init__, defScope s_Ratio___init__, [.int 1], []⟩
def D_as_ratio : He.DefD := ⟨("as_ratio", none), "as_ratio", "as_ratio", defArgs s_as_ratio, defBody s_as_ratio, defScope s_as_ratio, [], []⟩
def D_Ratio___sub__ : He.DefD := ⟨("Ratio", some "__sub__"), "__sub__", "Ratio.__sub__", defArgs s_Ratio___sub__, defBody s_Ratio___sub__, defScope s_Ratio___sub__, [], []⟩
def D_Ratio___eq__ : He.DefD := ⟨("Ratio", some "__eq__"), "__eq__", "Ratio.__eq__", defArgs s_Ratio___eq__, defBody s_Ratio___eq__, defScope s_Ratio___eq__, [], []⟩
def D_Ratio___ne__ : He.DefD := ⟨("Ratio", some "__ne__"), "__ne__", "Ratio.__ne__", defArgs s_Ratio___ne__, defBody s_Ratio___ne__, defScope s_Ratio___ne__, [], []⟩
def D_Ratio___gt__ : He.DefD := ⟨("Ratio", some "__gt__"), "__gt__", "Ratio.__gt__", defArgs s_Ratio___gt__, defBody s_Ratio___gt__, defScope s_Ratio___gt__, [], []⟩
def D_end_surfaces : He.DefD := ⟨("end_surfaces", none), "end_surfaces", "end_surfaces", defArgs s_end_surfaces, defBody s_end_surfaces, defScope s_end_surfaces, [], []⟩
def D_end_volume : He.DefD := ⟨("end_volume", none), "end_volume", "end_volume", defArgs s_end_volume, defBody s_end_volume, defScope s_end_volume, [], []⟩
def D_dam_gain : He.DefD := ⟨("dam_gain", none), "dam_gain", "dam_gain", defArgs s_dam_gain, defBody s_dam_gain, defScope s_dam_gain, [], []⟩
def D_best_dam : He.DefD := ⟨("best_dam", none), "best_dam", "best_dam", defArgs s_best_dam, defBody s_best_dam, defScope s_best_dam, [], []⟩
def D__law_heights : He.DefD := ⟨("_law_heights", none), "_law_heights", "_law_heights", defArgs s__law_heights, defBody s__law_heights, defScope s__law_heights, [], []⟩
def D__law_end : He.DefD := ⟨("_law_end", none), "_law_end", "_law_end", defArgs s__law_end, defBody s__law_end, defScope s__law_end, [], []⟩
def D__law_best : He.DefD := ⟨("_law_best", none), "_law_best", "_law_best", defArgs s__law_best, defBody s__law_best, defScope s__law_best, [], []⟩
def D_law : He.DefD := ⟨("law", none), "law", "law", defArgs s_law, defBody s_law, defScope s_law, [], []⟩
def fn : List He.DefD := [D__law_draws, D__law_draw, D_is_whole, D_is_whole_within, D_first_outside, D_is_row, D_check_heights, D_check_widths, D_Profile___init__, D_grown_profile, D_Profile___len__, D_Profile___eq__, D_Profile_mirrored, D_Profile_raised, D_common_divisor, D_gap, D_Ratio___init__, D_as_ratio, D_Ratio___sub__, D_Ratio___eq__, D_Ratio___ne__, D_Ratio___gt__, D_end_surfaces, D_end_volume, D_dam_gain, D_best_dam, D__law_heights, D__law_end, D__law_best, D_law]
def loose : List PySem.Str := [("_wall" : PySem.Str), ("__name__" : PySem.Str), ("RainError" : PySem.Str), ("InvalidNumber" : PySem.Str), ("InvalidProfile" : PySem.Str), ("InvalidWidths" : PySem.Str), ("InvalidColumn" : PySem.Str), ("LimitExceeded" : PySem.Str), ("is_whole" : PySem.Str), ("is_whole_within" : PySem.Str), ("first_outside" : PySem.Str), ("MOST_COLUMNS" : PySem.Str), ("GREATEST" : PySem.Str), ("is_row" : PySem.Str), ("check_heights" : PySem.Str), ("check_widths" : PySem.Str), ("grown_profile" : PySem.Str), ("Profile" : PySem.Str), ("common_divisor" : PySem.Str), ("as_ratio" : PySem.Str), ("gap" : PySem.Str), ("Ratio" : PySem.Str), ("end_surfaces" : PySem.Str), ("end_volume" : PySem.Str), ("dam_gain" : PySem.Str), ("best_dam" : PySem.Str), ("_law_draws" : PySem.Str), ("_law_draw" : PySem.Str), ("_law_heights" : PySem.Str), ("_law_end" : PySem.Str), ("_law_best" : PySem.Str)]
def fa : List He.Fa := [.free "len", .free "int", .free "isinstance", .free "bool", .free "enumerate", .free "tuple", .free "list", .int "MOST_COLUMNS" 60, .int "GREATEST" 1000000000000000000000000000000, .free "abs", .free "range", .free "max", .free "zip", .free "min", .free "sum", .glo "Profile", .cls "Profile", .glo "Ratio", .cls "Ratio", .noat "Profile" "column_heights", .noat "Profile" "column_widths", .mkr "Profile", .noat "Ratio" "reduced_top", .noat "Ratio" "reduced_bottom", .mkr "Ratio", .glo "_law_draws", .glo "_law_draw", .glo "is_whole", .glo "is_whole_within", .glo "first_outside", .glo "is_row", .glo "check_heights", .glo "check_widths", .glo "grown_profile", .meth "Profile" "__len__", .meth "Profile" "__eq__", .meth "Profile" "mirrored", .meth "Profile" "raised", .glo "common_divisor", .glo "gap", .glo "as_ratio", .meth "Ratio" "__sub__", .meth "Ratio" "__eq__", .meth "Ratio" "__ne__", .meth "Ratio" "__gt__", .glo "end_surfaces", .glo "end_volume", .glo "dam_gain", .glo "best_dam", .glo "_law_heights", .glo "_law_end", .glo "_law_best", .glo "law"]
abbrev s_get_heights : Stmt := inClass (top 19) 1
theorem sc_get_heights : FnScope ["self"] ["self"] (defScope s_get_heights) := ⟨rfl, rfl, rfl, by decide +kernel, rfl, by decide +kernel, by decide +kernel⟩
def G_heights : Gt := ⟨"Profile", "heights", "Profile.heights", defArgs s_get_heights, defBody s_get_heights, defScope s_get_heights⟩
theorem ok_get_heights {P : Program} {w : World} {K : PySem.W.Frag} {mg : Str → Option Value} {base : Heap} {C f : Addr} {fd : FuncData} (F : FunD K "heights" "Profile.heights" (defArgs s_get_heights) (defBody s_get_heights) (defScope s_get_heights) [] [] f fd) (c : Cls K C) (n : NoAttr K C "column_heights") : FnOk P w K mg base CX0 1 f fd ["self"] (getSp C "column_heights") := by
  obtain ⟨oc, od, dV, kV, doc, pm, an, cdv, ct, osl, rfl, lk, hcd, _, _⟩ := F.ex
  exact fn_getter (N := ["self"]) lk hcd sc_get_heights rfl rfl c n
abbrev s_get_widths : Stmt := inClass (top 19) 2
theorem sc_get_widths : FnScope ["self"] ["self"] (defScope s_get_widths) := ⟨rfl, rfl, rfl, by decide +kernel, rfl, by decide +kernel, by decide +kernel⟩
def G_widths : Gt := ⟨"Profile", "widths", "Profile.widths", defArgs s_get_widths, defBody s_get_widths, defScope s_get_widths⟩
theorem ok_get_widths {P : Program} {w : World} {K : PySem.W.Frag} {mg : Str → Option Value} {base : Heap} {C f : Addr} {fd : FuncData} (F : FunD K "widths" "Profile.widths" (defArgs s_get_widths) (defBody s_get_widths) (defScope s_get_widths) [] [] f fd) (c : Cls K C) (n : NoAttr K C "column_widths") : FnOk P w K mg base CX0 1 f fd ["self"] (getSp C "column_widths") := by
  obtain ⟨oc, od, dV, kV, doc, pm, an, cdv, ct, osl, rfl, lk, hcd, _, _⟩ := F.ex
  exact fn_getter (N := ["self"]) lk hcd sc_get_widths rfl rfl c n
abbrev s_get_top : Stmt := inClass (top 24) 2
theorem sc_get_top : FnScope ["self"] ["self"] (defScope s_get_top) := ⟨rfl, rfl, rfl, by decide +kernel, rfl, by decide +kernel, by decide +kernel⟩
def G_top : Gt := ⟨"Ratio", "top", "Ratio.top", defArgs s_get_top, defBody s_get_top, defScope s_get_top⟩
theorem ok_get_top {P : Program} {w : World} {K : PySem.W.Frag} {mg : Str → Option Value} {base : Heap} {C f : Addr} {fd : FuncData} (F : FunD K "top" "Ratio.top" (defArgs s_get_top) (defBody s_get_top) (defScope s_get_top) [] [] f fd) (c : Cls K C) (n : NoAttr K C "reduced_top") : FnOk P w K mg base CX0 1 f fd ["self"] (getSp C "reduced_top") := by
  obtain ⟨oc, od, dV, kV, doc, pm, an, cdv, ct, osl, rfl, lk, hcd, _, _⟩ := F.ex
  exact fn_getter (N := ["self"]) lk hcd sc_get_top rfl rfl c n
abbrev s_get_bottom : Stmt := inClass (top 24) 3
theorem sc_get_bottom : FnScope ["self"] ["self"] (defScope s_get_bottom) := ⟨rfl, rfl, rfl, by decide +kernel, rfl, by decide +kernel, by decide +kernel⟩
def G_bottom : Gt := ⟨"Ratio", "bottom", "Ratio.bottom", defArgs s_get_bottom, defBody s_get_bottom, defScope s_get_bottom⟩
theorem ok_get_bottom {P : Program} {w : World} {K : PySem.W.Frag} {mg : Str → Option Value} {base : Heap} {C f : Addr} {fd : FuncData} (F : FunD K "bottom" "Ratio.bottom" (defArgs s_get_bottom) (defBody s_get_bottom) (defScope s_get_bottom) [] [] f fd) (c : Cls K C) (n : NoAttr K C "reduced_bottom") : FnOk P w K mg base CX0 1 f fd ["self"] (getSp C "reduced_bottom") := by
  obtain ⟨oc, od, dV, kV, doc, pm, an, cdv, ct, osl, rfl, lk, hcd, _, _⟩ := F.ex
  exact fn_getter (N := ["self"]) lk hcd sc_get_bottom rfl rfl c n
def gts : List Gt := [G_heights, G_widths, G_top, G_bottom]
def exB (K : PySem.W.Frag) : Bool := prB K "Profile" "heights" && (prB K "Profile" "widths" && (prB K "Ratio" "top" && (prB K "Ratio" "bottom" && (clB K "Profile" && (clB K "Ratio" && (kiB K "Ratio" && (opcB K "Ratio")))))))
theorem exb_heights {K : PySem.W.Frag} (h : exB K = true) : prB K "Profile" "heights" = true := (He.ba h).1
theorem exb_widths {K : PySem.W.Frag} (h : exB K = true) : prB K "Profile" "widths" = true := (He.ba (He.ba h).2).1
theorem exb_top {K : PySem.W.Frag} (h : exB K = true) : prB K "Ratio" "top" = true := (He.ba (He.ba (He.ba h).2).2).1
theorem exb_bottom {K : PySem.W.Frag} (h : exB K = true) : prB K "Ratio" "bottom" = true := (He.ba (He.ba (He.ba (He.ba h).2).2).2).1
theorem exb_cls {K : PySem.W.Frag} (h : exB K = true) : clB K "Profile" = true := (He.ba (He.ba (He.ba (He.ba (He.ba h).2).2).2).2).1
theorem exb_clsR {K : PySem.W.Frag} (h : exB K = true) : clB K "Ratio" = true := (He.ba (He.ba (He.ba (He.ba (He.ba (He.ba h).2).2).2).2).2).1
theorem exb_ki {K : PySem.W.Frag} (h : exB K = true) : kiB K "Ratio" = true := (He.ba (He.ba (He.ba (He.ba (He.ba (He.ba (He.ba h).2).2).2).2).2).2).1
theorem exb_opc {K : PySem.W.Frag} (h : exB K = true) : opcB K "Ratio" = true := (He.ba (He.ba (He.ba (He.ba (He.ba (He.ba (He.ba h).2).2).2).2).2).2).2
abbrev RR : PySem.W.OpenRow := PySem.W.OpenLaw.row PySem.Challenge.rw_rainvalleys_k67_whole_best_dams
abbrev hk : PySem.W.Hook := hookR 6 fa fn gts exB
def ob (s : PySem.W.SharedT) : AlR := obsRG 6 fa fn gts exB (HandSHeadRun.getT s)
theorem ob_eq (s : PySem.W.SharedT) : ob s = hk.obs s.abs := obsRG_eq (HandSHeadRun.getT_eq s)
theorem run (w : World) : HandSHeadRun.RunEq RR (PySem.W.view RR.prog [37]) hk ob 12000 loose w := by
  intro os
  kernel_rfl
theorem facts {P : Program} {w : World} {K : PySem.W.Frag} {h : Heap} {mg : Str → Option Value} {f : Addr} (X : K.In h) (G : h.Ns mainGlobals mg) (hfa : mg ("law" : Str) = some (.ref f)) (c : SaysR fa fn gts exB K) :
    ∃ fd : FuncData, (∀ (s : Shared) (v : Value), BindsTo s fd ⟨[v], []⟩ [("_law_script", v)]) ∧ (PCls K (He.ga K "Profile") ∧ RCls K (He.ga K "Ratio")) ∧ ∀ base : Heap, K.In base → base.Ns mainGlobals mg → FnOk P w K mg base CX0 11 f fd ["_law_script"] (spLaw67 K (He.ga K "Profile") (He.ga K "Ratio")) := by
  obtain ⟨fd0, F0⟩ := c.d.def_ 0 (d := D__law_draws) rfl
  obtain ⟨fd1, F1⟩ := c.d.def_ 1 (d := D__law_draw) rfl
  obtain ⟨fd2, F2⟩ := c.d.def_ 2 (d := D_is_whole) rfl
  obtain ⟨fd3, F3⟩ := c.d.def_ 3 (d := D_is_whole_within) rfl
  obtain ⟨fd4, F4⟩ := c.d.def_ 4 (d := D_first_outside) rfl
  obtain ⟨fd5, F5⟩ := c.d.def_ 5 (d := D_is_row) rfl
  obtain ⟨fd6, F6⟩ := c.d.def_ 6 (d := D_check_heights) rfl
  obtain ⟨fd7, F7⟩ := c.d.def_ 7 (d := D_check_widths) rfl
  obtain ⟨fd8, F8⟩ := c.d.def_ 8 (d := D_Profile___init__) rfl
  obtain ⟨fd9, F9⟩ := c.d.def_ 9 (d := D_grown_profile) rfl
  obtain ⟨fd10, F10⟩ := c.d.def_ 10 (d := D_Profile___len__) rfl
  obtain ⟨fd11, F11⟩ := c.d.def_ 11 (d := D_Profile___eq__) rfl
  obtain ⟨fd12, F12⟩ := c.d.def_ 12 (d := D_Profile_mirrored) rfl
  obtain ⟨fd13, F13⟩ := c.d.def_ 13 (d := D_Profile_raised) rfl
  obtain ⟨fd14, F14⟩ := c.d.def_ 14 (d := D_common_divisor) rfl
  obtain ⟨fd15, F15⟩ := c.d.def_ 15 (d := D_gap) rfl
  obtain ⟨fd16, F16⟩ := c.d.def_ 16 (d := D_Ratio___init__) rfl
  obtain ⟨fd17, F17⟩ := c.d.def_ 17 (d := D_as_ratio) rfl
  obtain ⟨fd18, F18⟩ := c.d.def_ 18 (d := D_Ratio___sub__) rfl
  obtain ⟨fd19, F19⟩ := c.d.def_ 19 (d := D_Ratio___eq__) rfl
  obtain ⟨fd20, F20⟩ := c.d.def_ 20 (d := D_Ratio___ne__) rfl
  obtain ⟨fd21, F21⟩ := c.d.def_ 21 (d := D_Ratio___gt__) rfl
  obtain ⟨fd22, F22⟩ := c.d.def_ 22 (d := D_end_surfaces) rfl
  obtain ⟨fd23, F23⟩ := c.d.def_ 23 (d := D_end_volume) rfl
  obtain ⟨fd24, F24⟩ := c.d.def_ 24 (d := D_dam_gain) rfl
  obtain ⟨fd25, F25⟩ := c.d.def_ 25 (d := D_best_dam) rfl
  obtain ⟨fd26, F26⟩ := c.d.def_ 26 (d := D__law_heights) rfl
  obtain ⟨fd27, F27⟩ := c.d.def_ 27 (d := D__law_end) rfl
  obtain ⟨fd28, F28⟩ := c.d.def_ 28 (d := D__law_best) rfl
  obtain ⟨fd29, F29⟩ := c.d.def_ 29 (d := D_law) rfl
  have e := hfa.symm.trans (He.glo_ok X G (c.d.fact 52 (f := .glo "law") rfl))
  cases e
  have b := FunD.bindsA (ps := ["_law_script"]) F29 fun _ _ _ _ _ _ us hl => match us, hl with | [_], _ => rfl
  have sdP : PCls K (He.ga K "Profile") := pcls_of (He.cls_ok (c.d.fact 16 (f := .cls "Profile") rfl)) (He.noat_ok (c.d.fact 19 (f := .noat "Profile" "column_heights") rfl)) (He.noat_ok (c.d.fact 20 (f := .noat "Profile" "column_widths") rfl)) (exb_cls c.x)
  have sdR : RCls K (He.ga K "Ratio") := rcls_of (He.cls_ok (c.d.fact 18 (f := .cls "Ratio") rfl)) (He.noat_ok (c.d.fact 22 (f := .noat "Ratio" "reduced_top") rfl)) (He.noat_ok (c.d.fact 23 (f := .noat "Ratio" "reduced_bottom") rfl)) (exb_clsR c.x) (exb_ki c.x)
  have sd := And.intro sdP sdR
  refine ⟨fd29, fun s v => b s [v] rfl, sd, fun base _ _ => ?_⟩
  have m_len := He.free_ok X G (c.d.fact 0 (f := .free "len") rfl)
  have m_int := He.free_ok X G (c.d.fact 1 (f := .free "int") rfl)
  have m_isinstance := He.free_ok X G (c.d.fact 2 (f := .free "isinstance") rfl)
  have m_bool := He.free_ok X G (c.d.fact 3 (f := .free "bool") rfl)
  have m_enumerate := He.free_ok X G (c.d.fact 4 (f := .free "enumerate") rfl)
  have m_tuple := He.free_ok X G (c.d.fact 5 (f := .free "tuple") rfl)
  have m_list := He.free_ok X G (c.d.fact 6 (f := .free "list") rfl)
  have m_MOST_COLUMNS := He.int_ok X G (c.d.fact 7 (f := .int "MOST_COLUMNS" 60) rfl)
  have m_GREATEST := He.int_ok X G (c.d.fact 8 (f := .int "GREATEST" 1000000000000000000000000000000) rfl)
  have m_abs := He.free_ok X G (c.d.fact 9 (f := .free "abs") rfl)
  have m_range := He.free_ok X G (c.d.fact 10 (f := .free "range") rfl)
  have m_max := He.free_ok X G (c.d.fact 11 (f := .free "max") rfl)
  have m_zip := He.free_ok X G (c.d.fact 12 (f := .free "zip") rfl)
  have m_min := He.free_ok X G (c.d.fact 13 (f := .free "min") rfl)
  have m_sum := He.free_ok X G (c.d.fact 14 (f := .free "sum") rfl)
  have g_Profile := He.glo_ok X G (c.d.fact 15 (f := .glo "Profile") rfl)
  have k_Profile := He.cls_ok (c.d.fact 16 (f := .cls "Profile") rfl)
  have g_Ratio := He.glo_ok X G (c.d.fact 17 (f := .glo "Ratio") rfl)
  have k_Ratio := He.cls_ok (c.d.fact 18 (f := .cls "Ratio") rfl)
  have nH := He.noat_ok (c.d.fact 19 (f := .noat "Profile" "column_heights") rfl)
  have nW := He.noat_ok (c.d.fact 20 (f := .noat "Profile" "column_widths") rfl)
  have mk := He.mkr_ok (c.d.fact 21 (f := .mkr "Profile") rfl)
  have nT := He.noat_ok (c.d.fact 22 (f := .noat "Ratio" "reduced_top") rfl)
  have nB := He.noat_ok (c.d.fact 23 (f := .noat "Ratio" "reduced_bottom") rfl)
  have mkR := He.mkr_ok (c.d.fact 24 (f := .mkr "Ratio") rfl)
  obtain ⟨fg0, Fg0⟩ := c.g 0 (g := G_heights) rfl
  have cp_heights : CalP P w K mg base CX0 1 (He.ga K "Profile") "heights" (getSp (He.ga K "Profile") "column_heights") := ⟨_, _, fg0, ok_get_heights Fg0 k_Profile nH, k_Profile, pr_of (exb_heights c.x), Fg0.bindsN fun _ _ _ _ _ _ us hl => match us, hl with | [_], _ => rfl⟩
  obtain ⟨fg1, Fg1⟩ := c.g 1 (g := G_widths) rfl
  have cp_widths : CalP P w K mg base CX0 1 (He.ga K "Profile") "widths" (getSp (He.ga K "Profile") "column_widths") := ⟨_, _, fg1, ok_get_widths Fg1 k_Profile nW, k_Profile, pr_of (exb_widths c.x), Fg1.bindsN fun _ _ _ _ _ _ us hl => match us, hl with | [_], _ => rfl⟩
  obtain ⟨fg2, Fg2⟩ := c.g 2 (g := G_top) rfl
  have cp_top : CalP P w K mg base CX0 1 (He.ga K "Ratio") "top" (getSp (He.ga K "Ratio") "reduced_top") := ⟨_, _, fg2, ok_get_top Fg2 k_Ratio nT, k_Ratio, pr_of (exb_top c.x), Fg2.bindsN fun _ _ _ _ _ _ us hl => match us, hl with | [_], _ => rfl⟩
  obtain ⟨fg3, Fg3⟩ := c.g 3 (g := G_bottom) rfl
  have cp_bottom : CalP P w K mg base CX0 1 (He.ga K "Ratio") "bottom" (getSp (He.ga K "Ratio") "reduced_bottom") := ⟨_, _, fg3, ok_get_bottom Fg3 k_Ratio nB, k_Ratio, pr_of (exb_bottom c.x), Fg3.bindsN fun _ _ _ _ _ _ us hl => match us, hl with | [_], _ => rfl⟩
  have oc_R := opc_of (exb_opc c.x)
  have c__law_draws : Cal P w K mg base CX0 1 "_law_draws" ["_law_script"] (spDraws K) := ⟨_, fd0, ok__law_draws F0 , He.glo_ok X G (c.d.fact 25 (f := .glo "_law_draws") rfl), F0.kp, F0.bindsN fun _ _ _ _ _ _ us hl => match us, hl with | [_], _ => rfl⟩
  have c__law_draw : Cal P w K mg base CX0 1 "_law_draw" ["_law_draws_here", "_law_many"] (spDraw K) := ⟨_, fd1, ok__law_draw F1 m_len, He.glo_ok X G (c.d.fact 26 (f := .glo "_law_draw") rfl), F1.kp, F1.bindsN fun _ _ _ _ _ _ us hl => match us, hl with | [_, _], _ => rfl⟩
  have c_is_whole : Cal P w K mg base CX0 1 "is_whole" ["value"] (spWhole K) := ⟨_, fd2, ok_is_whole F2 m_int m_isinstance m_bool, He.glo_ok X G (c.d.fact 27 (f := .glo "is_whole") rfl), F2.kp, F2.bindsN fun _ _ _ _ _ _ us hl => match us, hl with | [_], _ => rfl⟩
  have c_is_whole_within : Cal P w K mg base CX0 2 "is_whole_within" ["value", "least", "greatest"] (spWithin K) := ⟨_, fd3, ok_is_whole_within F3 c_is_whole, He.glo_ok X G (c.d.fact 28 (f := .glo "is_whole_within") rfl), F3.kp, F3.bindsN fun _ _ _ _ _ _ us hl => match us, hl with | [_, _, _], _ => rfl⟩
  have c_first_outside : Cal P w K mg base CX0 3 "first_outside" ["values", "least", "greatest"] (spOutside K) := ⟨_, fd4, ok_first_outside F4 m_enumerate c_is_whole_within, He.glo_ok X G (c.d.fact 29 (f := .glo "first_outside") rfl), F4.kp, F4.bindsN fun _ _ _ _ _ _ us hl => match us, hl with | [_, _, _], _ => rfl⟩
  have c_is_row : Cal P w K mg base CX0 1 "is_row" ["values", "least", "most"] (spRow K) := ⟨_, fd5, ok_is_row F5 m_tuple m_list m_isinstance m_len, He.glo_ok X G (c.d.fact 30 (f := .glo "is_row") rfl), F5.kp, F5.bindsN fun _ _ _ _ _ _ us hl => match us, hl with | [_, _, _], _ => rfl⟩
  have c_check_heights : Cal P w K mg base CX0 4 "check_heights" ["heights"] (spCheckH K) := ⟨_, fd6, ok_check_heights F6 m_MOST_COLUMNS c_is_row m_GREATEST c_first_outside, He.glo_ok X G (c.d.fact 31 (f := .glo "check_heights") rfl), F6.kp, F6.bindsN fun _ _ _ _ _ _ us hl => match us, hl with | [_], _ => rfl⟩
  have c_check_widths : Cal P w K mg base CX0 4 "check_widths" ["widths", "many"] (spCheckW K) := ⟨_, fd7, ok_check_widths F7 c_is_row m_GREATEST c_first_outside, He.glo_ok X G (c.d.fact 32 (f := .glo "check_widths") rfl), F7.kp, F7.bindsN fun _ _ _ _ _ _ us hl => match us, hl with | [_, _], _ => rfl⟩
  obtain ⟨ds1, v1, b1⟩ := F8.binds1 (ps := ["self", "heights", "widths"]) 2 0 (show ([V.non] : List V) ≠ [] from List.cons_ne_nil _ _) rfl (fun _ _ _ _ _ _ _ us its h1 h2 => match us, its, h1, h2 with | [_, _], [_], _, _ => ⟨_, rfl, rfl⟩)
  obtain ⟨ds2, v2, b2⟩ := F8.binds1 (ps := ["self", "heights", "widths"]) 3 1 (show ([V.non] : List V) ≠ [] from List.cons_ne_nil _ _) rfl (fun _ _ _ _ _ _ _ us its h1 h2 => match us, its, h1, h2 with | [_, _, _], [_], _, _ => ⟨_, rfl, rfl⟩)
  have cm1_Profile : CalM P w K mg base CX0 5 "Profile" (He.ga K "Profile") ["self", "heights", "widths"] (spInit K (He.ga K "Profile")) [.non] := ⟨_, fd8, ds1, ok_Profile___init__ F8 c_check_heights m_len c_check_widths m_tuple, mk, g_Profile, b1, v1⟩
  have cm2_Profile : CalM P w K mg base CX0 5 "Profile" (He.ga K "Profile") ["self", "heights", "widths"] (spInit K (He.ga K "Profile")) [] := ⟨_, fd8, ds2, ok_Profile___init__ F8 c_check_heights m_len c_check_widths m_tuple, mk, g_Profile, b2, v2⟩
  have c_grown_profile : Cal P w K mg base CX0 7 "grown_profile" ["heights", "widths"] (spGrown K (He.ga K "Profile")) := ⟨_, fd9, ok_grown_profile F9 m_GREATEST c_first_outside cm2_Profile, He.glo_ok X G (c.d.fact 33 (f := .glo "grown_profile") rfl), F9.kp, F9.bindsN fun _ _ _ _ _ _ us hl => match us, hl with | [_, _], _ => rfl⟩
  have me_len := He.meth_ok (c.d.fact 34 (f := .meth "Profile" "__len__") rfl)
  have cu_len : CalU P w K mg base CX0 1 (He.ga K "Profile") "__len__" (spPLen K (He.ga K "Profile")) := ⟨_, fd10, ok_Profile___len__ F10 m_len, me_len.at_, me_len.fn, F10.bindsN fun _ _ _ _ _ _ us hl => match us, hl with | [_], _ => rfl⟩
  have me := He.meth_ok (c.d.fact 35 (f := .meth "Profile" "__eq__") rfl)
  have ce_Profile : CalE P w K mg base CX0 1 (He.ga K "Profile") (PEq K (He.ga K "Profile")) := ⟨_, fd11, ok_Profile___eq__ F11 g_Profile m_isinstance, me.at_, me.fn, F11.bindsN fun _ _ _ _ _ _ us hl => match us, hl with | [_, _], _ => rfl⟩
  have me_mirrored := He.meth_ok (c.d.fact 36 (f := .meth "Profile" "mirrored") rfl)
  have ct_mirrored : CalT P w K mg base CX0 7 (He.ga K "Profile") "mirrored" ["self"] (spMirr K (He.ga K "Profile")) := ⟨_, fd12, ok_Profile_mirrored F12 cm2_Profile, k_Profile, me_mirrored, F12.bindsN fun _ _ _ _ _ _ us hl => match us, hl with | [_], _ => rfl⟩
  have me_raised := He.meth_ok (c.d.fact 37 (f := .meth "Profile" "raised") rfl)
  have ct_raised : CalT P w K mg base CX0 8 (He.ga K "Profile") "raised" ["self", "column", "height"] (spRais K (He.ga K "Profile")) := ⟨_, fd13, ok_Profile_raised F13 m_len cu_len c_is_whole_within m_GREATEST m_list c_grown_profile, k_Profile, me_raised, F13.bindsN fun _ _ _ _ _ _ us hl => match us, hl with | [_, _, _], _ => rfl⟩
  have c_common_divisor : Cal P w K mg base CX0 1 "common_divisor" ["first", "second"] (spGcd K) := ⟨_, fd14, ok_common_divisor F14 , He.glo_ok X G (c.d.fact 38 (f := .glo "common_divisor") rfl), F14.kp, F14.bindsN fun _ _ _ _ _ _ us hl => match us, hl with | [_, _], _ => rfl⟩
  have c_gap : Cal P w K mg base CX0 1 "gap" ["left", "right"] (spGap K (He.ga K "Ratio")) := ⟨_, fd15, ok_gap F15 , He.glo_ok X G (c.d.fact 39 (f := .glo "gap") rfl), F15.kp, F15.bindsN fun _ _ _ _ _ _ us hl => match us, hl with | [_, _], _ => rfl⟩
  obtain ⟨dr1, vr1, br1⟩ := F16.binds1 (ps := ["self", "numerator", "denominator"]) 2 0 (show ([V.int 1] : List V) ≠ [] from List.cons_ne_nil _ _) rfl (fun _ _ _ _ _ _ _ us its h1 h2 => match us, its, h1, h2 with | [_, _], [_], _, _ => ⟨_, rfl, rfl⟩)
  obtain ⟨dr2, vr2, br2⟩ := F16.binds1 (ps := ["self", "numerator", "denominator"]) 3 1 (show ([V.int 1] : List V) ≠ [] from List.cons_ne_nil _ _) rfl (fun _ _ _ _ _ _ _ us its h1 h2 => match us, its, h1, h2 with | [_, _, _], [_], _, _ => ⟨_, rfl, rfl⟩)
  have cm1_Ratio : CalM P w K mg base CX0 2 "Ratio" (He.ga K "Ratio") ["self", "numerator", "denominator"] (spRInit K (He.ga K "Ratio")) [.int 1] := ⟨_, fd16, dr1, ok_Ratio___init__ F16 c_is_whole m_abs c_common_divisor, mkR, g_Ratio, br1, vr1⟩
  have cm2_Ratio : CalM P w K mg base CX0 2 "Ratio" (He.ga K "Ratio") ["self", "numerator", "denominator"] (spRInit K (He.ga K "Ratio")) [] := ⟨_, fd16, dr2, ok_Ratio___init__ F16 c_is_whole m_abs c_common_divisor, mkR, g_Ratio, br2, vr2⟩
  have c_as_ratio : Cal P w K mg base CX0 4 "as_ratio" ["value"] (spAsR K (He.ga K "Ratio")) := ⟨_, fd17, ok_as_ratio F17 g_Ratio m_isinstance c_is_whole cm1_Ratio, He.glo_ok X G (c.d.fact 40 (f := .glo "as_ratio") rfl), F17.kp, F17.bindsN fun _ _ _ _ _ _ us hl => match us, hl with | [_], _ => rfl⟩
  have me_sub := He.meth_ok (c.d.fact 41 (f := .meth "Ratio" "__sub__") rfl)
  have co_sub : CalO P w K mg base CX0 5 (He.ga K "Ratio") "__sub__" (spSub K (He.ga K "Ratio")) := ⟨_, fd18, ok_Ratio___sub__ F18 c_as_ratio c_gap cm2_Ratio, me_sub.at_, me_sub.fn, F18.bindsN fun _ _ _ _ _ _ us hl => match us, hl with | [_, _], _ => rfl⟩
  have me_eq := He.meth_ok (c.d.fact 42 (f := .meth "Ratio" "__eq__") rfl)
  have co_eq : CalO P w K mg base CX0 5 (He.ga K "Ratio") "__eq__" (spEq67 K (He.ga K "Ratio")) := ⟨_, fd19, ok_Ratio___eq__ F19 g_Ratio m_isinstance c_is_whole, me_eq.at_, me_eq.fn, F19.bindsN fun _ _ _ _ _ _ us hl => match us, hl with | [_, _], _ => rfl⟩
  have me_ne := He.meth_ok (c.d.fact 43 (f := .meth "Ratio" "__ne__") rfl)
  have co_ne : CalO P w K mg base CX0 6 (He.ga K "Ratio") "__ne__" (spNe67 K (He.ga K "Ratio")) := ⟨_, fd20, ok_Ratio___ne__ F20 co_eq oc_R, me_ne.at_, me_ne.fn, F20.bindsN fun _ _ _ _ _ _ us hl => match us, hl with | [_, _], _ => rfl⟩
  have me_gt := He.meth_ok (c.d.fact 44 (f := .meth "Ratio" "__gt__") rfl)
  have co_gt : CalO P w K mg base CX0 5 (He.ga K "Ratio") "__gt__" (spGt K (He.ga K "Ratio")) := ⟨_, fd21, ok_Ratio___gt__ F21 c_as_ratio c_gap, me_gt.at_, me_gt.fn, F21.bindsN fun _ _ _ _ _ _ us hl => match us, hl with | [_, _], _ => rfl⟩
  have c_end_surfaces : Cal P w K mg base CX0 3 "end_surfaces" ["profile"] (spEndS K (He.ga K "Profile")) := ⟨_, fd22, ok_end_surfaces F22 cp_heights m_len m_range m_int m_max m_zip m_min, He.glo_ok X G (c.d.fact 45 (f := .glo "end_surfaces") rfl), F22.kp, F22.bindsN fun _ _ _ _ _ _ us hl => match us, hl with | [_], _ => rfl⟩
  have c_end_volume : Cal P w K mg base CX0 4 "end_volume" ["profile"] (spEndV K (He.ga K "Profile") (He.ga K "Ratio")) := ⟨_, fd23, ok_end_volume F23 cp_heights c_end_surfaces m_zip cp_widths m_sum cm1_Ratio, He.glo_ok X G (c.d.fact 46 (f := .glo "end_volume") rfl), F23.kp, F23.bindsN fun _ _ _ _ _ _ us hl => match us, hl with | [_], _ => rfl⟩
  have c_dam_gain : Cal P w K mg base CX0 9 "dam_gain" ["profile", "column", "height"] (spGain K (He.ga K "Profile") (He.ga K "Ratio")) := ⟨_, fd24, ok_dam_gain F24 ct_raised c_end_volume co_sub oc_R, He.glo_ok X G (c.d.fact 47 (f := .glo "dam_gain") rfl), F24.kp, F24.bindsN fun _ _ _ _ _ _ us hl => match us, hl with | [_, _, _], _ => rfl⟩
  have c_best_dam : Cal P w K mg base CX0 10 "best_dam" ["profile", "height"] (spBest67 K (He.ga K "Profile") (He.ga K "Ratio")) := ⟨_, fd25, ok_best_dam F25 m_GREATEST c_is_whole_within cp_heights m_enumerate c_dam_gain co_gt oc_R, He.glo_ok X G (c.d.fact 48 (f := .glo "best_dam") rfl), F25.kp, F25.bindsN fun _ _ _ _ _ _ us hl => match us, hl with | [_, _], _ => rfl⟩
  have c__law_heights : Cal P w K mg base CX0 2 "_law_heights" ["_law_draws_here"] (spHeights K) := ⟨_, fd26, ok__law_heights F26 c__law_draw m_range, He.glo_ok X G (c.d.fact 49 (f := .glo "_law_heights") rfl), F26.kp, F26.bindsN fun _ _ _ _ _ _ us hl => match us, hl with | [_], _ => rfl⟩
  have c__law_end : Cal P w K mg base CX0 1 "_law_end" ["_law_heights_here", "_law_shares"] (spLEnd K) := ⟨_, fd27, ok__law_end F27 m_len m_range, He.glo_ok X G (c.d.fact 50 (f := .glo "_law_end") rfl), F27.kp, F27.bindsN fun _ _ _ _ _ _ us hl => match us, hl with | [_, _], _ => rfl⟩
  have c__law_best : Cal P w K mg base CX0 2 "_law_best" ["_law_heights_here", "_law_shares", "_law_rise"] (spLBest67 K) := ⟨_, fd28, ok__law_best F28 c__law_end m_len m_range m_list, He.glo_ok X G (c.d.fact 51 (f := .glo "_law_best") rfl), F28.kp, F28.bindsN fun _ _ _ _ _ _ us hl => match us, hl with | [_, _, _], _ => rfl⟩
  exact ok_law F29 c__law_draws c__law_draw c__law_heights cm2_Profile c_best_dam c__law_best m_tuple m_isinstance m_len g_Ratio m_int m_bool cp_bottom cp_top ct_mirrored co_ne oc_R c_dam_gain co_eq ce_Profile
end Rv
open PySem PySem.W PySem.Calls PyProof.Rows
theorem PySem.Challenge.cw_rainvalleys_k67_whole_best_dams_holds : PySem.Challenge.rw_rainvalleys_k67_whole_best_dams.Holds := by
  w_on; o_law
  refine HandSHeadRun.head_any (r := OpenLaw.row PySem.Challenge.rw_rainvalleys_k67_whole_best_dams) (q := view (OpenLaw.row PySem.Challenge.rw_rainvalleys_k67_whole_best_dams).prog [37]) (H := Rv.hk) (ob := Rv.ob) (M := 12000) (loose := Rv.loose) (d := HandSHeadRun.topDef (OpenLaw.row PySem.Challenge.rw_rainvalleys_k67_whole_best_dams).prog 37) (kwd := []) Rv.ob_eq
    (by kernel_rfl) (fun s => by kernel_rfl) Rv.run (by kernel_rfl) (by kernel_rfl) (by kernel_rfl) (by rfl) (by first | assumption | decide +kernel) (by decide +kernel) ⟨rfl, rfl, rfl, rfl, rfl, by decide +kernel⟩ ?hw ?hc
  case hw => w_witness2
  case hc =>
    refine L2.walk_ofE (l := PySem.Challenge.rw_rainvalleys_k67_whole_best_dams) (n := 63) (k := 11) (x := "_law_script") (CX := L2.CX0) rfl (by decide) (by kernel_rfl) ⟨rfl, by decide, by decide⟩ ?F (fun _ _ _ _ z => z)
    intro w mg fa h Y G hmg0
    obtain ⟨K, KX, c⟩ := Y
    have hmg : mg ("law" : PySem.Str) = some (.ref fa) := by
      have e : (HandSHeadRun.topDef (OpenLaw.row PySem.Challenge.rw_rainvalleys_k67_whole_best_dams).prog 37).name = ("law" : PySem.Str) := by kernel_rfl
      rw [← e]
      exact hmg0
    obtain ⟨fd, hb, sd, hF⟩ := Rv.facts (P := (PySem.Challenge.rw_rainvalleys_k67_whole_best_dams).prog) (w := w) KX G hmg c
    exact ⟨K, fd, _, KX, hb, fun H a ns hl hO hS => ⟨a, ns, rfl, hS, sd.1, sd.2, fun _ => rfl⟩, hF⟩
