import PyProof.Rows.All
import Wide.All
import OpenK.AllK
import Wide.FinOn
import KE.KStateDown
import HandS.ForMost
import HandS.ForExc
import HandS.Defaults
import HandS.Property
import HandS.MakeKw
import HandS.IsInst
import HandS.Flow
import HandS.Style
import HandS.Wide
import HandS.OwnEq
import HandS.Conv
import HandS.Deep
import HandS.Head0
import HandS.Head1
import HandS.Head2
import HandS.HeadEnd
import HandS.HeadHook1
import HandS.HeadHook2
import KE.GoesMore
import OpenK.KOps
import KE.KOpsOwn
import HandS.MakeKwOnly
import HandS.FStr
import HandS.List
import HandS.TupAny
import HandS.More
import HandS.ExcInit
import KE.KExcInit
import HandS.Exc
import HandS.ExcOwn
import HandS.ExcIs
import HandS.ExcField
import KE.KExcIs
import HandS.HotCalls
import HandS.SetFor
import HandS.Strs
import HandS.Zip
import HandS.Zip0
import KE.GoesZip
import PySem.Challenge.RW_rainvalleys_k68_dams_refused
set_option Elab.async false
set_option linter.all false
set_option maxRecDepth 100000
set_option maxHeartbeats 4000000
/-! Words of this proof: operators on values by short names, the steps of a reading, what a call of a def asks. -/
namespace Rv
open PySem PySem.Spec PyProof.Rows L2
abbrev oAdd : R2 := rI0 fun i j => .int (i + j)
abbrev oSub : R2 := rI0 fun i j => .int (i - j)
abbrev oMul : R2 := rI CMul fun i j => .int (i * j)
abbrev oMulW : R2 := rI CMulW fun i j => .int (i * j)
abbrev oDiv : R2 := rI CDivW fun i j => .int (i / j)
abbrev oMod : R2 := rI (fun _ j => 0 < j) fun i j => .int (i % j)
abbrev oPow : R2 := rI CPow fun i j => .int (i ^ j.toNat)
abbrev oLt : R2 := rI0 fun i j => .bl (decide (i < j))
abbrev oLe : R2 := rI0 fun i j => .bl (decide (i ≤ j))
abbrev oGt : R2 := rI0 fun i j => .bl (decide (j < i))
abbrev oGe : R2 := rI0 fun i j => .bl (decide (j ≤ i))
abbrev oIsN : R2 := fun x y H Q => y = .non ∧ Q (.bl (decide (x = .non))) H
abbrev oNotN : R2 := fun x y H Q => y = .non ∧ Q (.bl (!decide (x = .non))) H
abbrev cLen (K : PySem.W.Frag) : List V → Hp → VK → Prop := fun xs H Q => ∃ p ys, xs = [.ref p] ∧ (SqL K H p ys ∨ SqT K H p ys) ∧ Q (.int ys.length) H
abbrev cInt : List V → Hp → VK → Prop := fun xs H Q => (∃ i, xs = [.int i] ∧ Q (.int i) H) ∨ ∃ k, xs = [.bl k] ∧ Q (.int (if k then 1 else 0)) H
abbrev cAbs : List V → Hp → VK → Prop := fun xs H Q => ∃ i, xs = [.int i] ∧ Q (.int (if i < 0 then -i else i)) H
abbrev cList (K : PySem.W.Frag) : List V → Hp → VK → Prop := fun xs H Q => ∃ p ys, xs = [.ref p] ∧ (SqL K H p ys ∨ SqT K H p ys) ∧ ∀ l, H l = none → Q (.ref l) (upd H l (.lst ys))
abbrev cTuple (K : PySem.W.Frag) : List V → Hp → VK → Prop := fun xs H Q => ∃ p ys, xs = [.ref p] ∧ ((SqL K H p ys ∧ ∀ l, H l = none → Q (.ref l) (upd H l (.tup ys))) ∨ (SqT K H p ys ∧ Q (.ref p) H))
abbrev cMin2 : List V → Hp → VK → Prop := fun xs H Q => ∃ i j, xs = [.int i, .int j] ∧ Q (.int (if j < i then j else i)) H
/-- a def of the module as its callers see it -/
structure Cal (P : Program) (w : World) (K : PySem.W.Frag) (mg : Str → Option Value) (base : Heap) (CX : CXT) (k : Nat) (x : Str) (ps : List Str) (sp : Sp) : Prop where
  ex : ∃ f fd, FnOk P w K mg base CX k f fd ps sp ∧ mg x = some (.ref f) ∧ PySem.W.keepIn K (.ref f) = true ∧ Binds K fd ps []
section
variable {X : Cx} {CX : CXT} {k : Nat} {x : Str} {ps : List Str} {sp : Sp} {E : XK} {p pos : Pos} {e : Expr} {es : List Expr} {t : TA}
theorem pe_cal (c : Cal X.prog X.w X.K X.mg X.base CX k x ps sp) (hr : Room k X.A) (hg : Gl X x) (hx : Passes CX X E) (ha : PA X (e :: es) t) (hdb : (x == ("__debug__" : Str)) = false := by decide)
    (he : starEach (e :: es) X.env = (false, eval e X.env) :: starEach es X.env := by rfl) (hpl : (backTo pos (starEach es X.env)).any (·.1) = false := by rfl) :
    PE X (.Call (.Name x p) (e :: es) [] pos) (tCall sp [] E t) := by
  obtain ⟨f, fd, F, hm, hk, hb⟩ := c.ex
  first
    | exact pe_call F hr hg hm hk hb .nil hx ha hdb he hpl
    | exact pe_call F hr hg hm hk hb .nil hx ha
end
section
variable {K : PySem.W.Frag} {σ : L2.St} {H : Hp} {Q : VK} {D : Ends} {v x y : V} {i j : Int} {n : Nat} {ta tb te to ti : TE} {t u c : TT} {tr : TA} {b : Bool} {r : R2} {s1 s2 : TS} {g : TG} {p : Addr} {xs : List V} {TQ : Bool → Hp → Prop} {AQ : List V → Hp → Prop} {HQ : Hp → Prop} {GQ : L2.St → Hp → Prop}
theorem w_var (h : σ[n]? = some (some v)) (q : Q v H) : tVar n σ H Q := ⟨v, h, q⟩
theorem w_c (q : Q v H) : tC v σ H Q := q
theorem w_op (q : ta σ H fun x H1 => tb σ H1 fun y H2 => r x y H2 Q) : tOp r ta tb σ H Q := q
theorem w_un {r : V → Hp → VK → Prop} (q : ta σ H fun x H1 => r x H1 Q) : tUn r ta σ H Q := q
theorem w_U {g : Int → V} (q : Q (g i) H) : rU g (.int i) H Q := ⟨i, rfl, q⟩
theorem w_test (q : ta σ H fun x H' => ∃ k, x = .bl k ∧ TQ k H') : tTest ta σ H TQ := q
theorem w_tB (q : ta σ H fun x H' => ∃ k, x = .bl k ∧ TQ k H') : tB ta σ H TQ := q
theorem w_bl (q : TQ b H) : ∃ k, V.bl b = .bl k ∧ TQ k H := ⟨b, rfl, q⟩
theorem w_I0 {g : Int → Int → V} (q : Q (g i j) H) : rI0 g (.int i) (.int j) H Q := ⟨i, j, rfl, rfl, q⟩
theorem w_I {C : Int → Int → Prop} {g : Int → Int → V} (hc : C i j) (q : Q (g i j) H) : rI C g (.int i) (.int j) H Q := ⟨i, j, rfl, rfl, hc, q⟩
theorem w_eqI (q : Q (.bl (decide (i = j))) H) : rEq (.int i) (.int j) H Q := ⟨rfl, by
  have e : decide (V.int i = V.int j) = decide (i = j) := by
    by_cases h : i = j
    · rw [h, decide_eq_true rfl, decide_eq_true rfl]
    · rw [decide_eq_false h, decide_eq_false (fun z => h (V.int.inj z))]
  rw [e]
  exact q⟩
theorem w_neI (q : Q (.bl (!decide (i = j))) H) : rNe (.int i) (.int j) H Q := ⟨rfl, by
  have e : decide (V.int i = V.int j) = decide (i = j) := by
    by_cases h : i = j
    · rw [h, decide_eq_true rfl, decide_eq_true rfl]
    · rw [decide_eq_false h, decide_eq_false (fun z => h (V.int.inj z))]
  rw [e]
  exact q⟩
theorem w_cons (q : ta σ H fun x H1 => tr σ H1 fun xs H2 => AQ (x :: xs) H2) : tCons ta tr σ H AQ := q
theorem w_nil (q : AQ [] H) : tNil σ H AQ := q
theorem w_seq (q : s1 { D with nx := s2 D } σ H) : tSeq s1 s2 D σ H := q
theorem w_seqA (q : te σ H fun x H1 => g x σ H1 (s2 D)) : tSeq (tAsg te g) s2 D σ H := q
theorem w_seqD (q : te σ H fun _ H1 => s2 D σ H1) : tSeq (tDrop te) s2 D σ H := q
theorem w_seqP {m : Nat} (q : tr σ H fun vs H1 => ∃ v w, vs = [v, w] ∧ s2 D ((σ.set n (some v)).set m (some w)) H1) : tSeq (tPar n m tr) s2 D σ H := q
/-- behind s1 the word W holds, whatever way was gone -/
theorem w_cut (W : L2.St → Hp → Prop) (h : ∀ N : L2.St → Hp → Prop, (∀ σ' H', W σ' H' → N σ' H') → s1 { D with nx := N } σ H) (k : ∀ σ' H', W σ' H' → s2 D σ' H') : tSeq s1 s2 D σ H := h _ k
theorem w_next (q : D.nx σ H) : tNext D σ H := q
theorem w_asg (q : te σ H fun x H1 => g x σ H1 D.nx) : tAsg te g D σ H := q
theorem w_gn (q : GQ (σ.set n (some v)) H) : gName n v σ H GQ := q
theorem w_gsub {s : TSet} (q : to σ H fun o H1 => ti σ H1 fun i H2 => s o i v H2 fun H3 => GQ σ H3) : gSub to ti s v σ H GQ := q
theorem w_setL {k : Int} {j : Nat} (h : H p = some (.lst xs)) (hj : ixN xs.length k = some j) (q : HQ (upd H p (.lst (xs.set j v)))) : rSetL (.ref p) (.int k) v H HQ := ⟨p, xs, k, j, rfl, rfl, h, hj, q⟩
theorem w_ret (q : te σ H D.rt) : tRet te D σ H := q
theorem w_drop (q : te σ H fun _ H1 => D.nx σ H1) : tDrop te D σ H := q
theorem w_ifs (q : c σ H fun b H1 => if b = true then s1 D σ H1 else s2 D σ H1) : tIfS c s1 s2 D σ H := q
theorem w_if (q : c σ H fun b H1 => if b = true then ta σ H1 Q else tb σ H1 Q) : tIf c ta tb σ H Q := q
theorem w_and (q : t σ H fun c H1 => if c = true then u σ H1 TQ else TQ false H1) : tAnd t u σ H TQ := q
theorem w_or (q : t σ H fun c H1 => if c = true then TQ true H1 else u σ H1 TQ) : tOr t u σ H TQ := q
theorem w_not (q : t σ H fun c H1 => TQ (!c) H1) : tNot t σ H TQ := q
theorem w_andV (q : ta σ H fun x H1 => ∃ c, x = .bl c ∧ if c = true then tb σ H1 Q else Q (.bl false) H1) : tAndV ta tb σ H Q := q
theorem w_orV (q : ta σ H fun x H1 => ∃ c, x = .bl c ∧ if c = true then Q (.bl true) H1 else tb σ H1 Q) : tOrV ta tb σ H Q := q
theorem w_notV (q : ta σ H fun x H1 => ∃ c, x = .bl c ∧ Q (.bl (!c)) H1) : tNotV ta σ H Q := q
theorem w_ixL (h : SqL K H p xs) (ha : atI xs i = some v) (q : Q v H) : rIxL K (.ref p) (.int i) H Q := ⟨p, xs, i, v, rfl, rfl, h, ha, q⟩
theorem w_ixT (h : SqT K H p xs) (ha : atI xs i = some v) (q : Q v H) : rIxT K (.ref p) (.int i) H Q := ⟨p, xs, i, v, rfl, rfl, h, ha, q⟩
theorem w_cb {r : List V → Hp → VK → Prop} (q : tr σ H fun vs H1 => r vs H1 Q) : tCB r tr σ H Q := q
theorem w_lenL (h : SqL K H p xs) (q : Q (.int xs.length) H) : cLen K [.ref p] H Q := ⟨p, xs, rfl, .inl h, q⟩
theorem w_lenT (h : SqT K H p xs) (q : Q (.int xs.length) H) : cLen K [.ref p] H Q := ⟨p, xs, rfl, .inr h, q⟩
theorem w_intB (q : Q (.int (if b then 1 else 0)) H) : cInt [.bl b] H Q := .inr ⟨b, rfl, q⟩
theorem w_intI (q : Q (.int i) H) : cInt [.int i] H Q := .inl ⟨i, rfl, q⟩
theorem w_abs (q : Q (.int (if i < 0 then -i else i)) H) : cAbs [.int i] H Q := ⟨i, rfl, q⟩
theorem w_call {sp : Sp} {dvs : List V} {E : XK} (q : tr σ H fun vs H1 => sp (vs ++ dvs) H1 Q E) : tCall sp dvs E tr σ H Q := q
theorem w_lst (q : tr σ H fun xs H1 => xs.length ≤ sizeLine ∧ ∀ p, H1 p = none → Q (.ref p) (upd H1 p (.lst xs))) : tLst tr σ H Q := q
theorem w_tup (q : tr σ H fun xs H1 => xs.length ≤ sizeLine ∧ ∀ p, H1 p = none → Q (.ref p) (upd H1 p (.tup xs))) : tTup tr σ H Q := q
theorem w_par {m : Nat} (q : tr σ H fun vs H1 => ∃ v w, vs = [v, w] ∧ D.nx ((σ.set n (some v)).set m (some w)) H1) : tPar n m tr D σ H := q
theorem w_sl {r : V → Option Int → Option Int → Hp → VK → Prop} {tl th : TO} (q : te σ H fun x H1 => tl σ H1 fun l H2 => th σ H2 fun u H3 => r x l u H3 Q) : tSl r te tl th σ H Q := q
theorem w_slL {lo hi : Option Int} (h : SqL K H p xs) (q : ∀ q', H q' = none → Q (.ref q') (upd H q' (.lst (cutV xs lo hi)))) : rSlL K (.ref p) lo hi H Q := ⟨p, xs, rfl, h, q⟩
theorem w_noPart {OQ : Option Int → Hp → Prop} (q : OQ none H) : tNoPart σ H OQ := q
theorem w_part {OQ : Option Int → Hp → Prop} (q : te σ H fun x H1 => ∃ i, x = .int i ∧ OQ (some i) H1) : tPart te σ H OQ := q
theorem w_ex1 {P : Int → Prop} (q : P i) : ∃ j, V.int i = .int j ∧ P j := ⟨i, rfl, q⟩
theorem w_exb {P : Bool → Prop} (q : P b) : ∃ j, V.bl b = .bl j ∧ P j := ⟨b, rfl, q⟩
theorem w_nx {f : L2.St → Hp → Prop} {r : VK} {k c : L2.St → Hp → Prop} {σ : L2.St} {H : Hp} (q : f σ H) : Ends.nx ⟨f, r, k, c⟩ σ H := q
theorem w_rt {f : L2.St → Hp → Prop} {r : VK} {k c : L2.St → Hp → Prop} {v : V} {H : Hp} (q : r v H) : Ends.rt ⟨f, r, k, c⟩ v H := q
theorem w_yes {TQ : Bool → Hp → Prop} {σ : L2.St} {H : Hp} (q : TQ true H) : tYes σ H TQ := q
theorem iteNT {A B : Prop} (h : B) : if (!true) = true then A else B := iteF h
theorem iteNF {A B : Prop} (h : A) : if (!false) = true then A else B := iteT h
theorem iteRf {α : Type} [DecidableEq α] {z : α} {A B : Prop} (h : A) : if decide (z = z) = true then A else B := by
  rw [decide_eq_true rfl]
  exact iteT h
theorem iteNRf {α : Type} [DecidableEq α] {z : α} {A B : Prop} (h : B) : if (!decide (z = z)) = true then A else B := by
  rw [decide_eq_true rfl]
  exact iteF h
/-- a test whose answer is open: both ways -/
theorem w_both {c A B : Prop} [Decidable c] (h1 : c → A) (h2 : ¬ c → B) : if decide c = true then A else B := by
  by_cases h : c
  · rw [decide_eq_true h]
    exact iteT (h1 h)
  · rw [decide_eq_false h]
    exact iteF (h2 h)
theorem w_bothN {c A B : Prop} [Decidable c] (h1 : ¬ c → A) (h2 : c → B) : if (!decide c) = true then A else B := by
  by_cases h : c
  · rw [decide_eq_true h]
    exact iteF (h2 h)
  · rw [decide_eq_false h]
    exact iteT (h1 h)
end
theorem pow_c {i j : Int} (h : 0 ≤ j) (h2 : j ≤ 1000000) (h3 : -18446744073709551616 < i) (h4 : i < 18446744073709551616) : CPow i j := ⟨h, h2, by
  have e : (2 : Nat) ^ 64 = 18446744073709551616 := by decide
  omega⟩
theorem mul_l {i j : Int} (h3 : -18446744073709551616 < i) (h4 : i < 18446744073709551616) : CMul i j := .inl ⟨by
  have e : (2 : Int) ^ 64 = 18446744073709551616 := by decide
  omega, by
  have e : (2 : Int) ^ 64 = 18446744073709551616 := by decide
  omega⟩
theorem mul_r {i j : Int} (h3 : -18446744073709551616 < j) (h4 : j < 18446744073709551616) : CMul i j := .inr ⟨by
  have e : (2 : Int) ^ 64 = 18446744073709551616 := by decide
  omega, by
  have e : (2 : Int) ^ 64 = 18446744073709551616 := by decide
  omega⟩
/-- all that H tracked, but the object at d, stands as it was -/
def But (d : Addr) (H H' : Hp) : Prop := ∀ b o, b ≠ d → H b = some o → H' b = some o
theorem But.refl (d : Addr) (H : Hp) : But d H H := fun _ _ _ h => h
theorem But.trans {d : Addr} {H H1 H2 : Hp} (a : But d H H1) (b : But d H1 H2) : But d H H2 := fun c o n h => b c o n (a c o n h)
theorem But.wr {d : Addr} {H H' : Hp} {o : HO} (a : But d H H') : But d H (upd H' d o) := fun c u n h => by
  rw [upd_ne n]
  exact a c u n h
theorem But.new {d p : Addr} {H H' : Hp} {o : HO} (a : But d H H') (h : H' p = none) : But d H (upd H' p o) := fun c u n z => by
  have q := a c u n z
  rw [upd_ne (ne_of_none q h)]
  exact q
theorem But.same {d : Addr} {H H' : Hp} (a : Same H H') : But d H H' := fun c u _ z => a c u z
theorem same_new {p : Addr} {H H' : Hp} {o : HO} (a : Same H H') (h : H' p = none) : Same H (upd H' p o) := fun c u z => by
  have q := a c u z
  rw [upd_ne (ne_of_none q h)]
  exact q
theorem But.free {d : Addr} {H H' : Hp} (e : But d H H') {l : Addr} (n : l ≠ d) (h : H' l = none) : H l = none := by
  cases q : H l with
  | none => rfl
  | some o =>
    rw [e l o n q] at h
    cases h
theorem sq_lst {K : PySem.W.Frag} {H : Hp} {a : Addr} {xs : List V} (h : H a = some (.lst xs)) : SqL K H a xs := .inl (.inl h)
theorem sq_tup {K : PySem.W.Frag} {H : Hp} {a : Addr} {xs : List V} (h : H a = some (.tup xs)) : SqT K H a xs := .inl (.inl h)
theorem at_nat {xs : List V} {j : Nat} {v : V} (h : xs[j]? = some v) : atI xs (j : Int) = some v := atI_nat h
theorem szl {n : Nat} (h : n ≤ 100000) : n ≤ sizeLine := Nat.le_trans h (by decide)
end Rv
namespace Rv
open PySem PySem.Spec PyProof.Rows L2
/-- a module's name that holds an int -/
theorem pe_gint {X : Cx} {x : Str} {i : Int} {pos : Pos} (h : ∃ u, X.mg x = some (.int i u)) (hg : Gl X x) (hd : (x == ("__debug__" : Str)) = false := by decide) : PE X (.Name x pos) (tC (.int i)) := by
  obtain ⟨u, h⟩ := h
  exact pe_glob hg h ⟨u, rfl⟩ hd
/-- a class of the module whose instances are made by its __init__ (dvs: the defaults that fill up) -/
structure CalM (P : Program) (w : World) (K : PySem.W.Frag) (mg : Str → Option Value) (base : Heap) (CX : CXT) (k : Nat) (x : Str) (C : Addr) (ps : List Str) (sp : Sp) (dvs : List V) : Prop where
  ex : ∃ f fd ds, FnOk P w K mg base CX k f fd ps sp ∧ Mk K C f ∧ mg x = some (.ref C) ∧ Binds K fd ps ds ∧ Vals dvs ds
/-- a property of a class that hands back a field -/
structure CalP (P : Program) (w : World) (K : PySem.W.Frag) (mg : Str → Option Value) (base : Heap) (CX : CXT) (k : Nat) (C : Addr) (f : Str) (sp : Sp) : Prop where
  ex : ∃ p g fd, FnOk P w K mg base CX k g fd ["self"] sp ∧ Cls K C ∧ PropOf K C f p g ∧ Binds K fd ["self"] []
/-- a method of a class -/
structure CalT (P : Program) (w : World) (K : PySem.W.Frag) (mg : Str → Option Value) (base : Heap) (CX : CXT) (k : Nat) (C : Addr) (m : Str) (ps : List Str) (sp : Sp) : Prop where
  ex : ∃ f fd, FnOk P w K mg base CX k f fd ps sp ∧ Cls K C ∧ Meth K C m f ∧ Binds K fd ps []
section
variable {X : Cx} {CX : CXT} {k : Nat} {x f m : Str} {ps : List Str} {sp : Sp} {E : XK} {p pos apos : Pos} {e o : Expr} {es : List Expr} {t : TA} {ta : TE} {C : Addr} {dvs : List V}
theorem pe_calm (c : CalM X.prog X.w X.K X.mg X.base CX k x C ps sp dvs) (hr : Room (k + 1) X.A) (hg : Gl X x) (hx : Passes CX X E) (ha : PA X (e :: es) t) (hdb : (x == ("__debug__" : Str)) = false := by decide)
    (he : starEach (e :: es) X.env = (false, eval e X.env) :: starEach es X.env := by rfl) (hpl : (backTo pos (starEach es X.env)).any (·.1) = false := by rfl) :
    PE X (.Call (.Name x p) (e :: es) [] pos) (tMake C sp dvs E t) := by
  obtain ⟨f, fd, ds, F, M, hm, hb, hd⟩ := c.ex
  exact pe_make M F hr hg hm hb hd hx ha hdb he hpl
theorem pe_calp (c : CalP X.prog X.w X.K X.mg X.base CX k C f sp) (hr : Room (k + 1) X.A) (hx : Passes CX X.nox E) (ha : PE X e ta) (hab : attributeBase e f X.env (eval e X.env) = eval e X.env) :
    PE X (.Attribute e f pos) (tProp C sp [] E ta) := by
  obtain ⟨q, g, fd, F, cl, hp, hb⟩ := c.ex
  exact pe_prop ha cl hp F hr hb .nil hx hab
theorem pe_calt {pl : Sem Bool} (c : CalT X.prog X.w X.K X.mg X.base CX k C m ps sp) (hr : Room k X.A) (hx : Passes CX X E) (ho : PE X o ta) (ha : PA X (e :: es) t)
    (he : starEach (e :: es) X.env = (false, eval e X.env) :: starEach es X.env := by rfl) (hpl : (backTo pos (starEach es X.env)).any (·.1) = false := by rfl)
    (ht : eval (.Call (.Attribute o m apos) (e :: es) [] pos) X.env = (do let ov ← eval o X.env; standAt apos.atName; let (f, first) ← holding [ov] (getMethod ov m pl); callWith pos f first (backTo pos (starEach (e :: es) X.env)) (backToKw pos (keywordEach [] X.env))) := by rfl) :
    PE X (.Call (.Attribute o m apos) (e :: es) [] pos) (tMeth C m sp [] E ta t) := by
  obtain ⟨f, fd, F, cl, hm, hb⟩ := c.ex
  exact pe_meth ho cl hm F hr hb .nil hx ha he hpl ht
end
end Rv
namespace Rv
open PySem PySem.Spec PyProof.Rows L2
section
variable {K : PySem.W.Frag} {σ : L2.St} {H : Hp} {Q : VK} {D : Ends} {v x y : V} {i j : Int} {n slot : Nat} {ta tb tc te to ti tv tl : TE} {t u c tt : TT} {tr : TA} {b : Bool} {r r' : R2} {s1 s2 : TS} {g : TG} {p a d C dx : Addr} {xs : List V} {f : Str} {fs : List (Str × V)} {GQ2 : Hp → Prop}
theorem w_chain (q : ta σ H fun x H1 => tb σ H1 fun y H2 => r x y H2 fun z H3 => ∃ k, z = .bl k ∧ (if k = true then tc σ H3 fun w' H4 => r' y w' H4 Q else Q (.bl false) H3)) : tChain r r' ta tb tc σ H Q := q
theorem w_fld (hn : σ[n]? = some (some (.ref a))) (ho : H a = some (.ins C dx fs)) (hc : Cls K C) (hf : NoAttr K C f) (hl : fs.lookup f = some v) (q : Q v H) : tFld K (tVar n) f σ H Q := ⟨_, hn, a, C, dx, fs, v, rfl, ho, hc, hf, hl, q⟩
theorem w_prop {sp : Sp} {E : XK} (hn : σ[n]? = some (some (.ref a))) (ho : H a = some (.ins C dx fs)) (q : sp [.ref a] H Q E) : tProp C sp [] E (tVar n) σ H Q := ⟨_, hn, a, dx, fs, rfl, ho, q⟩
theorem w_sfld (q : tv σ H fun y H1 => to σ H1 fun x H2 => ∃ a C dx fs, x = .ref a ∧ H2 a = some (.ins C dx fs) ∧ Cls K C ∧ NoAttr K C f ∧ fs.length < 1000 ∧ D.nx σ (upd H2 a (.ins C dx (putF f y fs)))) : sFld K to tv f D σ H := q
theorem w_put (ho : H a = some (.ins C dx fs)) (hc : Cls K C) (hf : NoAttr K C f) (hl : fs.length < 1000) (q : GQ2 (upd H a (.ins C dx (putF f y fs)))) : ∃ a' C' dx' fs', V.ref a = .ref a' ∧ H a' = some (.ins C' dx' fs') ∧ Cls K C' ∧ NoAttr K C' f ∧ fs'.length < 1000 ∧ GQ2 (upd H a' (.ins C' dx' (putF f y fs'))) := ⟨a, C, dx, fs, rfl, ho, hc, hf, hl, q⟩
/-- a call of a maker -/
theorem w_make {sp : Sp} {dvs : List V} {E : XK} (q : tr σ H fun vs H1 => ∀ x dx, H1 x = none → H1 dx = none → dx ≠ x → sp (.ref x :: (vs ++ dvs)) (upd (upd H1 dx (.own x)) x (.ins C dx [])) (fun v H2 => v = .non ∧ Q (.ref x) H2) E) : tMake C sp dvs E tr σ H Q := q
/-- for i in range(n) -/
theorem w_forR {n : Nat} (hn : n ≤ 100000) (ha : ∀ AQ : List V → Hp → Prop, AQ [.int (n : Int)] H → tr σ H AQ) (Pv : Nat → L2.St → Hp → Prop) (h0 : Pv 0 σ H)
    (hs : ∀ i σ' H', i < n → Pv i σ' H' → s1 { D with nx := Pv (i + 1), ct := Pv (i + 1), bk := D.nx } (σ'.set slot (some (.int (i : Int)))) H') (hd : ∀ σ' H', Pv n σ' H' → D.nx σ' H') : tFor (iRng1 tr) (gName slot) s1 D σ H := by
  refine ha _ ⟨(n : Int), rfl, by omega, by omega, ?_⟩
  rw [show ((n : Int)).toNat = n from Int.toNat_natCast n]
  refine for_range Pv h0 (fun i σ' H' hi q => ?_) hd
  show s1 _ (σ'.set slot (some (.int (0 + (i : Int))))) H'
  rw [Int.zero_add]
  exact hs i σ' H' hi q
/-- while -/
theorem w_while (W : Nat → L2.St → Hp → Prop) {m : Nat} (h0 : W m σ H) (hs : ∀ m σ' H', W m σ' H' → c σ' H' fun b H1 => if b = true then (∃ N : L2.St → Hp → Prop, (∀ σ2 H2, N σ2 H2 → ∃ m', m' < m ∧ W m' σ2 H2) ∧ s1 { D with nx := N, ct := N, bk := D.nx } σ' H1) else D.nx σ' H1) : tWhile c s1 D σ H := ⟨W, ⟨m, h0⟩, hs⟩
theorem w_turn {W : Nat → L2.St → Hp → Prop} {m : Nat} {σ' : L2.St} {H1 : Hp} {D2 : Ends} (h : s1 { D2 with nx := fun σ2 H2 => ∃ m', m' < m ∧ W m' σ2 H2, ct := fun σ2 H2 => ∃ m', m' < m ∧ W m' σ2 H2, bk := D2.nx } σ' H1) :
    ∃ N : L2.St → Hp → Prop, (∀ σ2 H2, N σ2 H2 → ∃ m', m' < m ∧ W m' σ2 H2) ∧ s1 { D2 with nx := N, ct := N, bk := D2.nx } σ' H1 := ⟨_, fun _ _ z => z, h⟩
/-- [e for x in range(n)] -/
theorem w_lcR {n : Nat} (hn : n ≤ 100000) (ha : ∀ AQ : List V → Hp → Prop, AQ [.int (n : Int)] H → tr σ H AQ) (J : Addr → List V → Hp → Prop) (h0 : ∀ D, H D = none → J D [] (upd H D (.lst [])))
    (hs : ∀ D acc H1, acc.length < n → J D acc H1 → te ((σ.set slot none).set slot (some (.int (acc.length : Int)))) H1 fun y H2 => ∃ bcc, H2 D = some (.lst bcc) ∧ bcc.length < sizeLine ∧ ∃ ccc, ccc.length = acc.length + 1 ∧ J D ccc (upd H2 D (.lst (bcc ++ [y]))))
    (hd : ∀ D acc H1, acc.length = n → J D acc H1 → Q (.ref D) H1) : tLc (iRng1 tr) (gName slot) tYes te [slot] σ H Q := by
  refine ha _ ⟨(n : Int), rfl, by omega, by omega, ?_⟩
  rw [show ((n : Int)).toNat = n from Int.toNat_natCast n]
  intro D nD
  refine lc_range (fun i H1 => ∃ acc, acc.length = i ∧ J D acc H1) ⟨[], rfl, h0 D nD⟩ ?_ (fun H1 ⟨acc, e, q⟩ => hd D acc H1 e q)
  rintro i H1 hi ⟨acc, rfl, q⟩
  refine ⟨?_, ?_⟩
  · show ((σ.set slot none).set slot _).set slot none = σ.set slot none
    rw [List.set_set, List.set_set]
  · show te _ H1 _
    rw [Int.zero_add]
    exact hs D acc H1 hi q
/-- what a turn of a comprehension ends with -/
theorem w_app {J : Addr → List V → Hp → Prop} {D2 : Addr} {acc : List V} {H2 : Hp} (h : H2 D2 = some (.lst acc)) (hl : acc.length ≤ 100000) (q : J D2 (acc ++ [y]) (upd H2 D2 (.lst (acc ++ [y])))) :
    ∃ bcc, H2 D2 = some (.lst bcc) ∧ bcc.length < sizeLine ∧ ∃ ccc, ccc.length = acc.length + 1 ∧ J D2 ccc (upd H2 D2 (.lst (bcc ++ [y]))) :=
  ⟨acc, h, Nat.lt_of_lt_of_le (by omega : acc.length < 100001) (by decide), acc ++ [y], by rw [List.length_append]; rfl, q⟩
end
end Rv
namespace Rv
open PySem PySem.Spec PyProof.Rows L2
section
variable {K : PySem.W.Frag} {σ : L2.St} {H : Hp} {Q : VK} {D : Ends} {v x y : V} {i j : Int} {n slot : Nat} {ta tb tc te to ti tv tl : TE} {t u c tt : TT} {tr : TA} {b b2 : Bool} {g : TG} {p a l : Addr} {xs ys : List V} {vs : List Nat}
/-- a list, two lists that are at hand -/
def iAt (K : PySem.W.Frag) (a : Addr) : TI := fun _ H R => (∃ xs, SqL K H a xs) ∧ R (Itl K a) H
theorem w_lcl (q : tl σ H fun x H1 => ∃ a, x = .ref a ∧ tLc (iAt K a) g tt te vs σ H1 Q) : tLc (iList K tl) g tt te vs σ H Q := q
theorem w_lcA (hx : SqL K H a xs) (J : Addr → Nat → List V → Hp → Prop) (h0 : ∀ D, H D = none → J D 0 [] (upd H D (.lst []))) (hl : ∀ D i acc H1, J D i acc H1 → SqL K H1 a xs)
    (hs : ∀ D i acc x H1, xs[i]? = some x → J D i acc H1 → g x (wipe σ vs) H1 fun σ2 H2 => wipe σ2 vs = wipe σ vs ∧ tt σ2 H2 fun b H3 => if b = true then te σ2 H3 fun y H4 => ∃ bcc, H4 D = some (.lst bcc) ∧ bcc.length < sizeLine ∧ ∃ ccc, J D (i + 1) ccc (upd H4 D (.lst (bcc ++ [y]))) else ∃ ccc, J D (i + 1) ccc H3)
    (hd : ∀ D acc H1, J D xs.length acc H1 → Q (.ref D) H1) : tLc (iAt K a) g tt te vs σ H Q := by
  refine ⟨⟨xs, hx⟩, fun D nD => ?_⟩
  exact lc_list (fun i H1 => ∃ acc, J D i acc H1) ⟨[], h0 D nD⟩ (fun i H1 _ ⟨acc, q⟩ => hl D i acc H1 q) (fun i x H1 hx ⟨acc, q⟩ => hs D i acc x H1 hx q) fun H1 ⟨acc, q⟩ => hd D acc H1 q
end
end Rv
namespace Rv
open PySem PySem.Spec PyProof.Rows L2
/-! what the top leaves behind, beyond defs and methods: properties, an own ==, getters -/
def prA (K : PySem.W.Frag) (x f : Str) : Addr := He.ma K (He.ga K x) f
def gtA (K : PySem.W.Frag) (x f : Str) : Addr := match PySem.W.recIn K (prA K x f) "property" with
  | some (.ref g :: _) => g
  | _ => 0
def prB (K : PySem.W.Frag) (x f : Str) : Bool := He.eqO (PySem.W.findIn K (.ref (He.ga K x)) f) (some (some (.ref (prA K x f)))) &&
  (He.eqO (PySem.W.specialIn K (.ref (prA K x f)) "__get__") (some (some (.builtin "property.__get__"))) && (decide (PySem.W.takesIn K (.ref (prA K x f)) = some true) &&
    (match PySem.W.recIn K (prA K x f) "property" with
      | some (.ref _ :: _) => true
      | _ => false)))
theorem pr_of {K : PySem.W.Frag} {x f : Str} (h : prB K x f = true) : PropOf K (He.ga K x) f (prA K x f) (gtA K x f) := by
  obtain ⟨h1, h⟩ := He.ba h
  obtain ⟨h2, h⟩ := He.ba h
  obtain ⟨h3, h4⟩ := He.ba h
  refine ⟨He.eqO_ok h1, He.eqO_ok h2, of_decide_eq_true h3, ?_⟩
  unfold gtA
  cases q : PySem.W.recIn K (prA K x f) "property" with
  | none =>
    rw [q] at h4
    cases h4
  | some l =>
    rw [q] at h4
    match l, h4 with
    | .ref g :: r, _ => exact ⟨r, rfl⟩
/-- the class x has no __class__ of its own -/
def clB (K : PySem.W.Frag) (x : Str) : Bool := He.eqO (PySem.W.findIn K (.ref (He.ga K x)) "__class__") (some (some (.builtin "object.__class__"))) &&
  (He.eqO (PySem.W.specialIn K (.builtin "object.__class__") "__get__") (some (some (.builtin "getset_descriptor.__get__"))) && (decide (PySem.W.takesIn K (.builtin "object.__class__") = some true) && decide (PySem.W.mroIn K (He.ga K x) (.type "object") = some true)))
/-- the text of a function at an address -/
def txt (K : PySem.W.Frag) (a : Addr) : He.FnW := match K.lookup a with
  | some o => (match o.data with
    | .func z => some (z.name, z.qualname, z.params, z.body, z.scope, z.globals, z.closure, z.builtins)
    | _ => none)
  | none => none
def isNn : Value → Bool
  | .none => true
  | _ => false
def txB (K : PySem.W.Frag) (a : Addr) (q : Str) : Bool := PySem.W.keepIn K (.ref a) && (match K.lookup a with
  | some o => (match o.data with
    | .func z => PySem.W.codeIn K z.code q && isNn z.defaults
    | _ => false)
  | none => false)
/-- a getter: its class, the property's name, its function's text -/
structure Gt where
  cl : Str
  pr : Str
  qual : Str
  params : Arguments
  body : List Stmt
  scope : Scope
def Gt.val (g : Gt) : He.FnW := some (g.pr, g.qual, g.params, .stmts g.body, g.scope, mainGlobals, [], builtinsNs)
theorem gt_fun {K : PySem.W.Frag} {g : Gt} {a : Addr} (e : txt K a = g.val) (c : txB K a g.qual = true) : ∃ z, FunD K g.pr g.qual g.params g.body g.scope [] [] a z := by
  obtain ⟨kp, c⟩ := He.ba c
  unfold txt at e
  cases q : K.lookup a with
  | none =>
    rw [q] at e
    cases e
  | some o =>
    obtain ⟨o1, o2, o3, o4⟩ := o
    rw [q] at e c
    cases o3 with
    | func z =>
      obtain ⟨z1, z2, z3, z4, z5, z6, z7, z8, z9, z10, z11, z12, z13, z14, z15⟩ := z
      have e2 : (some (z1, z2, z3, z4, z5, z6, z7, z15) : He.FnW) = some (g.pr, g.qual, g.params, .stmts g.body, g.scope, mainGlobals, [], builtinsNs) := e
      simp only [Option.some.injEq, Prod.mk.injEq] at e2
      obtain ⟨r1, r2, r3, r4, r5, r6, r7, r8⟩ := e2
      subst r1 r2 r3 r4 r5 r6 r7 r8
      obtain ⟨u1, u2⟩ := He.ba (show (PySem.W.codeIn K z13 _ && isNn z8) = true from c)
      cases z8 with
      | none => exact ⟨_, ⟨o1, o2, _, z9, z10, z11, z12, z13, z14, o4, rfl, q, u1, .inl ⟨rfl, rfl⟩, .inl rfl⟩, kp⟩
      | _ => cases u2
    | _ => cases c
/-! the hook: facts, defs, getters, one more test -/
abbrev AlR : Type := He.AlD × (Bool × List He.FnW)
def obsR (fa : List He.Fa) (fn : List He.DefD) (gs : List Gt) (ex : PySem.W.Frag → Bool) (K : PySem.W.Frag) : AlR :=
  (He.obsD fa fn K, (ex K && gs.all fun g => txB K (gtA K g.cl g.pr) g.qual, gs.map fun g => txt K (gtA K g.cl g.pr)))
def valR (fn : List He.DefD) (gs : List Gt) : AlR := (He.valD fn, (true, gs.map Gt.val))
def SaysR (fa : List He.Fa) (fn : List He.DefD) (gs : List Gt) (ex : PySem.W.Frag → Bool) (K : PySem.W.Frag) : Prop := obsR fa fn gs ex K = valR fn gs
def obsRG (n : Nat) (fa : List He.Fa) (fn : List He.DefD) (gs : List Gt) (ex : PySem.W.Frag → Bool) (g : Addr → Option Obj) : AlR := obsR fa fn gs ex (He.frG g (cStatics :: He.asD g n))
def hookR (n : Nat) (fa : List He.Fa) (fn : List He.DefD) (gs : List Gt) (ex : PySem.W.Frag → Bool) : PySem.W.Hook where
  α := AlR
  obs := fun s => obsRG n fa fn gs ex s.heap.get?
  val := fun _ => valR fn gs
  says := fun _ h => ∃ K : PySem.W.Frag, K.In h ∧ SaysR fa fn gs ex K
  of := fun _ _ e => ⟨_, He.frG_in, e⟩
  keeps := fun _ _ _ ⟨K, hK, c⟩ k => ⟨K, PySem.W.Frag.In.keeps hK k, c⟩
theorem obsRG_eq {n : Nat} {fa : List He.Fa} {fn : List He.DefD} {gs : List Gt} {ex : PySem.W.Frag → Bool} {g : Addr → Option Obj} {s : Shared} (h : ∀ a, g a = s.heap.get? a) : obsRG n fa fn gs ex g = (hookR n fa fn gs ex).obs s := by
  have e : g = s.heap.get? := funext h
  rw [e] <;> rfl
section
variable {fa : List He.Fa} {fn : List He.DefD} {gs : List Gt} {ex : PySem.W.Frag → Bool} {K : PySem.W.Frag}
theorem SaysR.d (c : SaysR fa fn gs ex K) : He.SaysD fa fn K := congrArg (fun z : AlR => z.1) c
theorem SaysR.x (c : SaysR fa fn gs ex K) : ex K = true := (He.ba (show (ex K && gs.all fun g => txB K (gtA K g.cl g.pr) g.qual) = true from congrArg (fun z : AlR => z.2.1) c)).1
theorem SaysR.g (c : SaysR fa fn gs ex K) (i : Nat) {g : Gt} (h : gs[i]? = some g := by rfl) : ∃ z, FunD K g.pr g.qual g.params g.body g.scope [] [] (gtA K g.cl g.pr) z := by
  have c1 := (He.ba (show (ex K && gs.all fun g => txB K (gtA K g.cl g.pr) g.qual) = true from congrArg (fun z : AlR => z.2.1) c)).2
  have e : gs.map (fun g => txt K (gtA K g.cl g.pr)) = gs.map Gt.val := congrArg (fun z : AlR => z.2.2) c
  have e2 : (gs.map fun g => txt K (gtA K g.cl g.pr))[i]? = (gs.map Gt.val)[i]? := by rw [e]
  rw [List.getElem?_map, List.getElem?_map, h] at e2
  exact gt_fun (Option.some.inj e2) (List.all_eq_true.mp c1 g (List.mem_of_getElem? h))
end
end Rv
namespace Rv
open PySem PySem.Spec PyProof.Rows L2
/-! ### the law's draws: a list of the cells, a place, a number in use, a seed -/
def DrawsAt (H : Hp) (d c : Addr) : Prop := ∃ (ns : List Int) (pos num seed : Int), H d = some (.lst [.ref c, .int pos, .int num, .int seed]) ∧ H c = some (.lst (ns.map V.int)) ∧ c ≠ d ∧ 0 ≤ pos ∧ 0 ≤ num ∧ 0 ≤ seed ∧ seed < 2147483647
theorem DrawsAt.new {H H' : Hp} {d c : Addr} (h : DrawsAt H d c) (e : Same H H') : DrawsAt H' d c := by
  obtain ⟨ns, pos, num, seed, h1, h2, h3⟩ := h
  exact ⟨ns, pos, num, seed, e _ _ h1, e _ _ h2, h3⟩
theorem DrawsAt.wr {H : Hp} {d c a : Addr} {o : HO} (h : DrawsAt H d c) (n1 : a ≠ d) (n2 : a ≠ c) : DrawsAt (upd H a o) d c := by
  obtain ⟨ns, pos, num, seed, h1, h2, h3⟩ := h
  exact ⟨ns, pos, num, seed, by rw [upd_ne n1.symm]; exact h1, by rw [upd_ne n2.symm]; exact h2, h3⟩
theorem DrawsAt.nd {H : Hp} {d c a : Addr} (h : DrawsAt H d c) (n : H a = none) : a ≠ d := by
  obtain ⟨ns, pos, num, seed, h1, h2, h3⟩ := h
  intro e
  rw [e, h1] at n
  cases n
theorem DrawsAt.nc {H : Hp} {d c a : Addr} (h : DrawsAt H d c) (n : H a = none) : a ≠ c := by
  obtain ⟨ns, pos, num, seed, h1, h2, h3⟩ := h
  intro e
  rw [e, h2] at n
  cases n
def spDraw (K : PySem.W.Frag) : Sp := fun vs H Q _ => ∃ (d c : Addr) (many : Int), vs = [.ref d, .int many] ∧ DrawsAt H d c ∧ 0 < many ∧ many < 2 ^ 200 ∧
  ∀ r H', 0 ≤ r → r < many → But d H H' → DrawsAt H' d c → Q (.int r) H'
def spDraws (K : PySem.W.Frag) : Sp := fun vs H Q _ => ∃ (a : Addr) (ns : List Int), vs = [.ref a] ∧ SqL K H a (ns.map V.int) ∧ ∀ d c H', H d = none → H c = none → Same H H' → DrawsAt H' d c → Q (.ref d) H'
theorem map_int_at {ns : List Int} {j : Nat} (h : j < ns.length) : (ns.map V.int)[j]? = some (V.int ns[j]) := by
  rw [List.getElem?_map, List.getElem?_eq_getElem h]
  rfl
theorem cell_at {ns : List Int} {z : Int} (h0 : 0 ≤ z) (h : z < ((ns.map V.int).length : Int)) : ∃ y, atI (ns.map V.int) z = some (V.int y) := by
  rw [List.length_map] at h
  have e : z = ((z.toNat : Nat) : Int) := (Int.toNat_of_nonneg h0).symm
  have q : (ns.map V.int)[z.toNat]? = some (V.int (ns[z.toNat]'(by omega))) := map_int_at (by omega)
  exact ⟨_, at_of e q⟩
theorem divw {i j : Int} (h : 0 < j) (hb : j < 2 ^ 200) : CDivW i j := by
  refine wide_div (b := 201) h ?_ (by decide) (by decide)
  have e : (2 : Int) ^ 200 = ((2 ^ 200 : Nat) : Int) := rfl
  have e2 : (2 ^ 200 : Nat) < 2 ^ 201 := by decide
  omega
theorem cut_map (ns : List Int) (lo hi : Option Int) : ∃ ms : List Int, cutV (ns.map V.int) lo hi = ms.map V.int := by
  unfold cutV
  rw [← List.map_drop, ← List.map_take]
  exact ⟨_, rfl⟩
def t__law_draws (K : PySem.W.Frag) : TS :=
  (tRet (tLst (tCons (tSl (rSlL K) (tVar 0) tNoPart (tPart (tC (.int 63)))) (tCons (tC (.int 0)) (tCons (tC (.int 0)) (tCons (tC (.int 5)) tNil))))))
def t__law_draw (K : PySem.W.Frag) : TS :=
  (tSeq (tAsg (tOp (rIxL K) (tVar 0) (tC (.int 0))) (gName 2))
    (tSeq (tIfS (tAnd (tTest (tOp rEq (tOp (rIxL K) (tVar 0) (tC (.int 2))) (tC (.int 0)))) (tAnd (tTest (tOp oLt (tOp (rIxL K) (tVar 0) (tC (.int 1))) (tCB (cLen K) (tCons (tVar 2) tNil)))) (tTest (tOp oGe (tOp (rIxL K) (tVar 2) (tOp (rIxL K) (tVar 0) (tC (.int 1)))) (tOp oPow (tC (.int 10)) (tC (.int 18))))))) (tSeq (tAsg (tOp (rIxL K) (tVar 2) (tOp (rIxL K) (tVar 0) (tC (.int 1)))) (gSub (tVar 0) (tC (.int 2)) rSetL))
    (tAsg (tOp oAdd (tOp (rIxL K) (tVar 0) (tC (.int 1))) (tC (.int 1))) (gSub (tVar 0) (tC (.int 1)) rSetL))) tNext)
    (tSeq (tIfS (tTest (tOp oGt (tOp (rIxL K) (tVar 0) (tC (.int 2))) (tC (.int 0)))) (tSeq (tAsg (tOp oMod (tOp (rIxL K) (tVar 0) (tC (.int 2))) (tVar 1)) (gName 3))
    (tSeq (tAsg (tOp oDiv (tOp (rIxL K) (tVar 0) (tC (.int 2))) (tVar 1)) (gSub (tVar 0) (tC (.int 2)) rSetL))
    (tRet (tVar 3)))) tNext)
    (tSeq (tAsg (tC (.int 0)) (gName 4))
    (tSeq (tIfS (tTest (tOp oLt (tOp (rIxL K) (tVar 0) (tC (.int 1))) (tCB (cLen K) (tCons (tVar 2) tNil)))) (tSeq (tAsg (tOp (rIxL K) (tVar 2) (tOp (rIxL K) (tVar 0) (tC (.int 1)))) (gName 4))
    (tAsg (tOp oAdd (tOp (rIxL K) (tVar 0) (tC (.int 1))) (tC (.int 1))) (gSub (tVar 0) (tC (.int 1)) rSetL))) tNext)
    (tSeq (tAsg (tOp oMod (tOp oAdd (tOp oAdd (tOp oMul (tOp (rIxL K) (tVar 0) (tC (.int 3))) (tC (.int 48271))) (tOp oMod (tVar 4) (tC (.int 1999993)))) (tC (.int 11))) (tC (.int 2147483647))) (gSub (tVar 0) (tC (.int 3)) rSetL))
    (tSeq (tAsg (tOp oMod (tOp oPow (tOp (rIxL K) (tVar 0) (tC (.int 3))) (tC (.int 5))) (tC (.int 2147483647))) (gName 5))
    (tSeq (tIfS (tTest (tOp oGt (tVar 1) (tOp oPow (tC (.int 10)) (tC (.int 9))))) (tAsg (tOp oAdd (tOp oPow (tVar 5) (tC (.int 4))) (tVar 5)) (gName 5)) tNext)
    (tRet (tOp oMod (tVar 5) (tVar 1)))))))))))
local macro_rules | `(tactic| walk_at "rv st") => `(tactic| first
  | with_reducible refine iteT ?_ | with_reducible refine iteF ?_ | with_reducible refine w_nx ?_ | with_reducible refine w_yes ?_ | with_reducible refine w_rt ?_ | with_reducible refine iteNT ?_ | with_reducible refine iteNF ?_ | with_reducible refine iteNRf ?_ | with_reducible refine iteRf ?_ | with_reducible refine w_seqA ?_ | with_reducible refine w_seqD ?_ | with_reducible refine w_seqP ?_ | with_reducible refine w_asg ?_ | with_reducible refine w_ret ?_ | with_reducible refine w_drop ?_ | with_reducible refine w_ifs ?_ | with_reducible refine w_next ?_ | with_reducible refine w_par ?_
  | with_reducible refine w_op ?_ | with_reducible refine w_un ?_ | ((with_reducible show tVar _ _ _ _); refine' w_var ?hv ?_; (case hv => exact rfl)) | with_reducible refine w_c ?_ | with_reducible refine w_test ?_ | with_reducible refine w_tB ?_
  | with_reducible refine w_bl ?_ | with_reducible refine w_I0 ?_ | with_reducible refine w_U ?_ | with_reducible refine w_eqI ?_ | with_reducible refine w_neI ?_
  | with_reducible refine w_cons ?_ | with_reducible refine w_nil ?_ | with_reducible refine w_gn ?_ | with_reducible refine w_gsub ?_ | with_reducible refine w_and ?_ | with_reducible refine w_or ?_ | with_reducible refine w_not ?_
  | with_reducible refine w_andV ?_ | with_reducible refine w_orV ?_ | with_reducible refine w_notV ?_ | with_reducible refine w_if ?_ | with_reducible refine w_cb ?_ | with_reducible refine w_call ?_ | with_reducible refine w_lst ?_ | with_reducible refine w_tup ?_
  | with_reducible refine w_sl ?_ | with_reducible refine w_noPart ?_ | with_reducible refine w_part ?_ | with_reducible refine w_ex1 ?_ | with_reducible refine w_exb ?_ | with_reducible refine w_intB ?_ | with_reducible refine w_intI ?_ | with_reducible refine w_abs ?_)
local macro_rules | `(tactic| walk_at "rv ix") => `(tactic| ((with_reducible show rIxL _ _ _ _ _); refine' w_ixL (sq_lst ?ha) ?hb ?_; (case ha => first | exact upd_same | assumption); (case hb => first | exact rfl | assumption)))
local macro_rules | `(tactic| walk_at "rv ar") => `(tactic| first
  | (refine' w_I ?hc ?_; (case hc => first | (show (0 : Int) < _; first | assumption | decide | omega) | exact pow_c (by decide) (by decide) (by first | decide | omega) (by first | decide | omega) | exact mul_r (by first | decide | omega) (by first | decide | omega) | exact mul_l (by first | decide | omega) (by first | decide | omega) | exact divw (by first | assumption | decide | omega) (by first | assumption | decide | omega))))
local macro_rules | `(tactic| walk_at "rv go") => `(tactic| repeat first | walk_at "rv st" | walk_at "rv ix" | ((with_reducible show rI _ _ _ _ _ _); walk_at "rv ar"))
theorem p_draws {K : PySem.W.Frag} {vs : List V} {H : Hp} {Q : VK} {E : XK} (h : spDraws K vs H Q E) : t__law_draws K { nx := fun _ H' => Q .non H', rt := Q } (start ["_law_script"] vs) H := by
  obtain ⟨a, ns, rfl, hS, k⟩ := h
  unfold t__law_draws
  walk_at "rv go"
  refine w_slL hS fun p np => ?_
  walk_at "rv go"
  refine ⟨szl (by simp), fun q nq => ?_⟩
  have npq : p ≠ q := fun e => by
    rw [e, upd_same] at nq
    cases nq
  have nH : H q = none := by
    rw [upd_ne npq.symm] at nq
    exact nq
  obtain ⟨ms, em⟩ := cut_map ns none (some 63)
  refine k q p _ nH np (same_new (same_new (Same.refl H) np) nq) ⟨ms, 0, 0, 5, upd_same, ?_, npq, by decide, by decide, by decide, by decide⟩
  rw [upd_ne npq, upd_same, em]
theorem p_draw {K : PySem.W.Frag} {vs : List V} {H : Hp} {Q : VK} {E : XK} (h : spDraw K vs H Q E) : t__law_draw K { nx := fun _ H' => Q .non H', rt := Q } (start ["_law_draws_here", "_law_many", "_law_cells", "_law_value", "_law_cell", "_law_mixed"] vs) H := by
  obtain ⟨d, c, many, rfl, ⟨ns, pos, num, seed, hd, hc, ncd, hp, hn, hs, hs2⟩, hm, hm2, k⟩ := h
  have e18 : (0 : Int) < 10 ^ (18 : Int).toNat := by decide
  have sqc : ∀ {H1 : Hp}, But d H H1 → SqL K H1 c (ns.map V.int) := fun e => sq_lst (e _ _ ncd hc)
  unfold t__law_draw
  walk_at "rv go"
  -- a number is taken from the cells, or not
  refine w_cut (fun σ' H1 => ∃ pos num : Int, σ' = [some (.ref d), some (.int many), some (.ref c), none, none, none] ∧ H1 d = some (.lst [.ref c, .int pos, .int num, .int seed]) ∧ But d H H1 ∧ 0 ≤ pos ∧ 0 ≤ num) (fun N key => ?_) ?_
  · refine w_ifs ?_
    walk_at "rv go"
    refine w_both (fun h1 => ?_) (fun h1 => ?_)
    · walk_at "rv go"
      refine w_lenL (sq_lst hc) ?_
      walk_at "rv go"
      refine w_both (fun h2 => ?_) (fun h2 => ?_)
      · obtain ⟨y, hy⟩ := cell_at hp h2
        walk_at "rv go"
        refine w_both (fun h3 => ?_) (fun h3 => ?_)
        · walk_at "rv go"
          refine w_setL hd rfl ?_
          walk_at "rv go"
          refine w_setL upd_same rfl ?_
          refine key _ _ ⟨pos + 1, y, rfl, upd_same, (But.refl d H).wr.wr, by omega, by omega⟩
        · walk_at "rv go"
          exact key _ _ ⟨pos, num, rfl, hd, But.refl d H, hp, hn⟩
      · walk_at "rv go"
        exact key _ _ ⟨pos, num, rfl, hd, But.refl d H, hp, hn⟩
    · walk_at "rv go"
      exact key _ _ ⟨pos, num, rfl, hd, But.refl d H, hp, hn⟩
  · rintro σ1 H1 ⟨pos, num, rfl, hd, b1, hp, hn⟩
    refine w_seq ?_
    walk_at "rv go"
    refine w_both (fun h1 => ?_) (fun h1 => ?_)
    · -- a digit of the number
      walk_at "rv go"
      refine w_setL hd rfl ?_
      walk_at "rv go"
      refine k _ _ (Int.emod_nonneg _ (by omega)) (Int.emod_lt_of_pos _ hm) b1.wr ⟨ns, pos, num / many, seed, upd_same, b1.wr _ _ ncd hc, ncd, hp, Int.ediv_nonneg hn (by omega), hs, hs2⟩
    · -- from the seed
      walk_at "rv go"
      refine w_cut (fun σ' H2 => ∃ pos cell : Int, σ' = [some (.ref d), some (.int many), some (.ref c), none, some (.int cell), none] ∧ H2 d = some (.lst [.ref c, .int pos, .int num, .int seed]) ∧ But d H H2 ∧ 0 ≤ pos) (fun N key => ?_) ?_
      · walk_at "rv go"
        refine w_lenL (sqc b1) ?_
        walk_at "rv go"
        refine w_both (fun h2 => ?_) (fun h2 => ?_)
        · obtain ⟨y, hy⟩ := cell_at hp h2
          walk_at "rv go"
          refine w_ixL (sqc b1) hy ?_
          walk_at "rv go"
          refine w_setL hd rfl ?_
          exact key _ _ ⟨pos + 1, y, rfl, upd_same, b1.wr, by omega⟩
        · refine w_next ?_
          exact key _ _ ⟨pos, 0, rfl, hd, b1, hp⟩
      · rintro σ2 H2 ⟨pos, cell, rfl, hd, b2, hp⟩
        walk_at "rv go"
        refine w_setL hd rfl ?_
        have s1 : 0 ≤ (seed * 48271 + cell % 1999993 + 11) % 2147483647 := Int.emod_nonneg _ (by decide)
        have s2 : (seed * 48271 + cell % 1999993 + 11) % 2147483647 < 2147483647 := Int.emod_lt_of_pos _ (by decide)
        generalize (seed * 48271 + cell % 1999993 + 11) % 2147483647 = sd at s1 s2
        walk_at "rv go"
        have m1 : 0 ≤ sd ^ (5 : Int).toNat % 2147483647 := Int.emod_nonneg _ (by decide)
        have m2 : sd ^ (5 : Int).toNat % 2147483647 < 2147483647 := Int.emod_lt_of_pos _ (by decide)
        generalize sd ^ (5 : Int).toNat % 2147483647 = mx at m1 m2
        have fin : ∀ z : Int, Q (.int (z % many)) (upd H2 d (.lst [.ref c, .int pos, .int num, .int sd])) := fun z =>
          k _ _ (Int.emod_nonneg _ (by omega)) (Int.emod_lt_of_pos _ hm) b2.wr ⟨ns, pos, num, sd, upd_same, b2.wr _ _ ncd hc, ncd, hp, hn, s1, s2⟩
        refine w_seq ?_
        refine w_ifs ?_
        walk_at "rv go"
        refine w_both (fun h2 => ?_) (fun h2 => ?_)
        · walk_at "rv go"
          exact fin _
        · walk_at "rv go"
          exact fin _
end Rv
/-! enumerate of a tuple, and of a list or a tuple. -/
namespace PySem
open Sem (wp)
open AutoSeq1 (wpAny_loadPart')
theorem rv_enum_newT (l : Addr) (items : Array Value) (n : Nat) (dct : Option Addr) (sl : Array (Option Value)) :
    Meets (Builtin.«enumerate.__new__» ⟨[.type "enumerate", .ref l], []⟩) (fun _ R s => s.heap.get? l = some { cls := .type "tuple", dict := dct, data := .seq items n, slots := sl } ∧
      R (.ok (.ret (.ref (s.heap.push { cls := .type "tuple_iterator", data := .fields #[.ref l, .int 0 0] }).objs.size)))
        { s with heap := (s.heap.push { cls := .type "tuple_iterator", data := .fields #[.ref l, .int 0 0] }).push { cls := .type "enumerate", data := .fields #[.none, .bool false, .ref s.heap.objs.size, rawInt 0, .none, .none] } }) :=
  .of_wp fun prog w A R s h => by
    obtain ⟨hp, g, d, tk, os⟩ := s
    obtain ⟨hl, h⟩ := h
    have hsub := sub_enumerate
    have hL : Heap.IsTuple (Shared.heap ⟨hp, g, d, tk, os⟩) l items := ⟨_, hl, rfl, n, rfl⟩
    wp_walk using wpAny_loadPart' hl
    refine wpAny_stack_any fun st => wpAny_pure ?_
    split
    · rename_i c _ _ _ _ _
      cases (c == Value.type "enumerate")
      · wp_walk using wpAny_loadPart' hl, wpAny_pyIter_tuple hL
        exact ⟨_, rfl, h⟩
      · wp_walk using wpAny_loadPart' hl, wpAny_pyIter_tuple hL
        exact ⟨_, rfl, h⟩
    · wp_walk using wpAny_loadPart' hl, wpAny_pyIter_tuple hL
      exact ⟨_, rfl, h⟩
section
variable {prog : Program} {w : World} {A : Around} {E : Value → Shared → Prop} {s : Shared}
theorem rv_call_enumT {l : Addr} {items : Array Value} {Q : Value → Shared → Prop} (hL : s.heap.IsTuple l items)
    (h : ∀ h', IsEnum h' (s.heap.objs.size + 1) s.heap.objs.size 0 .none → h'.IsTupleIter s.heap.objs.size l 0 → h'.objs.size = s.heap.objs.size + 2 →
      (∀ b o, s.heap.get? b = some o → h'.get? b = some o) → Q (.ref (s.heap.objs.size + 1)) { s with heap := h' }) :
    wpAny (model prog w) A (call (.type "enumerate") [.ref l]) Q E s := by
  obtain ⟨⟨c, dct, dt, sl⟩, hl, hc, n, hd⟩ := hL
  replace hc : c = .type "tuple" := hc
  replace hd : dt = .seq items n := hd
  subst hc hd
  refine callType_new F.called_enumerate (by decide) (F.typeCall_enumerate_1 _) (F.newCall_enumerate_1 _) (fun obj => F.args_object_init_2 obj _) F.entry_enumerate_new
    (rv_enum_newT l items n dct sl) ⟨hl, ?_⟩
  have hz : (s.heap.push { cls := .type "tuple_iterator", data := .fields #[.ref l, .int 0 0] }).objs.size = s.heap.objs.size + 1 := Heap.size_push ..
  show _ ∧ _
  rw [hz]
  have he : IsEnum ((s.heap.push { cls := .type "tuple_iterator", data := .fields #[.ref l, .int 0 0] }).push
      { cls := .type "enumerate", data := .fields #[.none, .bool false, .ref s.heap.objs.size, rawInt 0, .none, .none] }) (s.heap.objs.size + 1) s.heap.objs.size 0 .none := by
    have := Heap.get?_push_size (s.heap.push { cls := .type "tuple_iterator", data := .fields #[.ref l, .int 0 0] })
      (o := { cls := .type "enumerate", data := .fields #[.none, .bool false, .ref s.heap.objs.size, rawInt 0, .none, .none] }) rfl
    rw [hz] at this
    exact this
  refine ⟨⟨_, he, rfl⟩, h _ he ⟨_, Heap.get?_push_of_some _ (Heap.get?_push_size _ rfl), rfl, rfl⟩ (by rw [Heap.size_push, hz]) fun b o x => Heap.get?_push_of_some _ (Heap.get?_push_of_some _ x)⟩
theorem rv_enum_endT {e it l : Addr} {i : Nat} {items : Array Value} {old : Value} {Q : Option Value → Shared → Prop} (hh : A.handled = none)
    (he : IsEnum s.heap e it i old) (hit : s.heap.IsTupleIter it l i) (hl : s.heap.IsTuple l items) (hx : items[i]? = none)
    (hQ : ∀ h', Heap.ExtBut it s.heap h' → Q none { s with heap := h' }) : wpAny (model prog w) A (pyNext (.ref e)) Q E s := by
  have hT : s.TypeIs (.ref e) "enumerate" := ⟨_, he, rfl⟩
  unfold pyNext
  refine wpAny_bind (wpAny_attempt (wpAny_callSpecial?_slot (name := Str.ofString "__next__") hT F.slot_enumerate_next
    (wpAny_call_entry F.slot_enumerate_next hT F.entry_enumerate_next ?_ (F.args_enumerate_next_1 _))))
  show wpAny _ _ (field (.ref e) 2 >>= _) _ _ _
  refine wpAny_bind (wpAny_field he rfl (x := .ref it) rfl ?_)
  refine wpAny_bind (wpAny_nextOf_tuple_end hh hit hl hx fun h' x he' hx' => ?_)
  obtain ⟨o, ho, hc⟩ := hx'
  refine wpAny_bind (wpAny_isInstance (T := "StopIteration") (b := true) ⟨o, ho, hc⟩ isSubtype_stop ?_)
  exact wpAny_pure (hQ _ he')
end
end PySem
namespace Rv
open PySem PySem.Spec PyProof.Rows L2
/-- the tuple at a, each item in a new pair -/
def IteT (K : PySem.W.Frag) (a : Addr) : It :=
  ⟨fun i H => ∃ (xs : List V) (x : V), SqT K H a xs ∧ xs[i]? = some x, fun i H v H' => ∃ T x, v = .ref T ∧ H T = none ∧ H' = upd H T (.tup [.int (i : Nat), x]) ∧ ∀ xs, SqT K H a xs → xs[i]? = some x, fun i H => ∃ xs : List V, SqT K H a xs ∧ xs.length ≤ i⟩
theorem turn_enumT {P : Program} {w : World} {K : PySem.W.Frag} {elts : List Expr} {kk : Nat} {tpos : Pos} (a e it : Addr) :
    Turn P w K (.Tuple elts kk tpos) (IteT K a) [e, it] e (fun i h => (∃ old, IsEnum h e it ((i : Nat) : Int) old) ∧ h.IsTupleIter it a i ∧ e ≠ it ∧ a ≠ it ∧ e ≠ a) where
  mem := by simp
  obj := fun i h st b hb => by
    obtain ⟨⟨old, he⟩, ⟨o, ho, hc, hd⟩, _⟩ := st
    have e' : b = e ∨ b = it := by simpa using hb
    rcases e' with z | z
    · rw [z]
      exact ⟨_, he, fun v q => nomatch q⟩
    · rw [z]
      exact ⟨o, ho, fun v q => by rw [hd] at q; cases q⟩
  keep := fun i h h' st k => let ⟨⟨old, he⟩, hi, hne⟩ := st; ⟨⟨old, k e (by simp) _ he⟩, hi.at fun o q => k it (by simp) o q, hne⟩
  item := by
    intro X hP hw hK hc i pins s σ H E I hf st hg
    subst hP hw hK
    obtain ⟨⟨old, he⟩, hit, hne, hai, hea⟩ := st
    obtain ⟨xs, x, hq, hx⟩ := hg
    obtain ⟨its, rv, p, hz⟩ := I.tuple hq
    obtain ⟨u, hu, ru⟩ := rv.get hx
    have hel : e < s.heap.objs.size := Heap.lt_size he
    have hil : it < s.heap.objs.size := by obtain ⟨_, q, _⟩ := hit; exact Heap.lt_size q
    have hil2 : i < its.toArray.size := by
      rw [List.size_toArray]
      exact (List.getElem?_eq_some_iff.mp hu).1
    refine wpAny_pyNext_enum_itemD (Draws.tuple (A := X.A.in1) (I.ok.hd hc) it a hai its.toArray) he ⟨hit, p⟩ hil2 hne (by simp [hne, hea]) fun u' h' tk hu' ho hst' hT hsz hk => ?_
    obtain ⟨hit', _⟩ := hst'
    have eu : u' = u := by
      have h1 : its[i]? = some u' := by simpa using hu'
      rw [hu] at h1
      exact (Option.some.inj h1).symm
    subst eu
    refine ⟨_, rfl, wpAny_letOwnedTupleGo_enum (s := { s with heap := h', toks := tk + 1 }) ho fun h'' he' sb => ?_⟩
    have hT2 : h''.get? s.heap.objs.size = some { cls := .type "tuple", data := .seq #[.int i tk, u'] } := (sb.2 _ (Nat.ne_of_gt hel)).trans hT
    have new : ObjOk X.prog X.w (upd H s.heap.objs.size (.tup [.int (i : Nat), x])) h'' s.heap.objs.size (.tup [.int (i : Nat), x]) :=
      ⟨by show 2 ≤ sizeLine; decide, [.int i tk, u'], .cons ⟨_, rfl⟩ (.cons ru .nil), ⟨_, hT2, rfl, _, rfl⟩⟩
    have I1 : Inv X pins σ (upd H s.heap.objs.size (.tup [.int (i : Nat), x])) { s with heap := h'', toks := tk + 1 } :=
      I.turnedNew (t' := tk + 1) (ch := [e, it]) (fun b ob hb q => (sb.2 b (fun z => hb (by simp [z]))).trans (hk b ob (fun z => hb (by simp [z])) (fun z => hb (by simp [z])) q)) hf (Nat.le_refl _) new
    refine ⟨.ref s.heap.objs.size, _, I1, rfl, ⟨_, x, rfl, I.hok.fresh (Nat.le_refl _), rfl, fun ys hy => by rw [I.tuple_inj hy hq]; exact hx⟩, ⟨⟨u', ?_⟩, hit'.at fun o q => (sb.2 it (Ne.symm hne)).trans q, hne, hai, hea⟩, fun b hb => ?_⟩
    · have e1 : ((i + 1 : Nat) : Int) = (i : Int) + 1 := by omega
      rw [e1]
      exact he'
    · have hb' : b < s.heap.objs.size := by
        have e' : b = e ∨ b = it := by simpa using hb
        rcases e' with z | z
        · rw [z]; exact hel
        · rw [z]; exact hil
      rw [upd_ne (Nat.ne_of_lt hb')]
      exact (hf b hb).1
  done := by
    intro X hP hw hK hc i pins s σ H E I hf st hg
    subst hP hw hK
    obtain ⟨⟨old, he⟩, hit, hne, hai, hea⟩ := st
    obtain ⟨xs, hq, hx⟩ := hg
    obtain ⟨its, rv, p, hz⟩ := I.tuple hq
    obtain ⟨f0, f1, f2, f3, f4, f5⟩ := hf it (by simp)
    have hl := rv.length
    exact rv_enum_endT (I.ok.hd hc) he hit (show s.heap.IsTuple a its.toArray from p) (by simp; omega) fun h' eb => ⟨rfl, I.turned (t' := s.toks) (fun b o hb q => eb b o hb q) f0 f1 f3 f4 f5⟩
  self := fun A i s Q E st h => let ⟨⟨_, he⟩, _⟩ := st; wpAny_pyIter_enum he h
/-- enumerate of a list or a tuple -/
def iEnumA (K : PySem.W.Frag) (ta : TA) : TI := fun σ H R => ta σ H fun vs H1 => ∃ a xs, vs = [.ref a] ∧ ((SqL K H1 a xs ∧ R (Ite K a) H1) ∨ (SqT K H1 a xs ∧ R (IteT K a) H1))
theorem pi_enumA {X : Cx} {e : Expr} {ta : TA} {p pos tpos : Pos} {elts : List Expr} {kk : Nat} (hg : Gl X "enumerate") (hm : X.mg "enumerate" = none) (ha : PA X [e] ta) (hs : starEach [e] X.env = [(false, eval e X.env)] := by rfl) :
    PI X (.Tuple elts kk tpos) (.Call (.Name "enumerate" p) [e] [] pos) (iEnumA X.K ta) := by
  refine ⟨fun pins s σ H R I h => ?_⟩
  refine Call_ (ld_blt I hg hm boot_enumerate (PyProof.Rows.callWith_type1 (thn (ha.run pos pins s σ H _ I h) fun us s1 ⟨vs, H1, I1, r1, q1⟩ => ?_) hs rfl))
  obtain ⟨a, xs, ex, hq⟩ := q1
  subst ex
  cases r1 with
  | cons r rr =>
    cases rr
    cases r
    rcases hq with ⟨hq, q⟩ | ⟨hq, q⟩
    · obtain ⟨its, rv, p', hz⟩ := I1.list hq
      refine call_enumerate_list p'.isList fun h' he hit hsz hk => wpAny_pyIter_enum he ?_
      have I2 : Inv X pins σ H1 { s1 with heap := h' } := I1.kept (t' := s1.toks) hk
      refine ⟨s1.heap.objs.size + 1, [s1.heap.objs.size + 1, s1.heap.objs.size], _, _, H1, rfl, I2, turn_enum a (s1.heap.objs.size + 1) s1.heap.objs.size, ⟨⟨.none, he⟩, hit, Nat.succ_ne_self _⟩, fun b hb => ?_, q⟩
      have e' : b = s1.heap.objs.size + 1 ∨ b = s1.heap.objs.size := by simpa using hb
      have hle : s1.heap.objs.size ≤ b := by
        rcases e' with z | z
        · rw [z]; exact Nat.le_add_right _ _
        · rw [z]; exact Nat.le_refl _
      exact I1.fpOk hle (I1.hok.fresh hle)
    · obtain ⟨its, rv, p', hz⟩ := I1.tuple hq
      have al : a < s1.heap.objs.size := by
        obtain ⟨_, q1, _⟩ := p'
        exact Heap.lt_size q1
      refine rv_call_enumT (show s1.heap.IsTuple a its.toArray from p') fun h' he hit hsz hk => wpAny_pyIter_enum he ?_
      have I2 : Inv X pins σ H1 { s1 with heap := h' } := I1.kept (t' := s1.toks) hk
      refine ⟨s1.heap.objs.size + 1, [s1.heap.objs.size + 1, s1.heap.objs.size], _, _, H1, rfl, I2, turn_enumT a (s1.heap.objs.size + 1) s1.heap.objs.size, ⟨⟨.none, he⟩, hit, Nat.succ_ne_self _, Nat.ne_of_lt al, Nat.ne_of_gt (Nat.lt_succ_of_lt al)⟩, fun b hb => ?_, q⟩
      have e' : b = s1.heap.objs.size + 1 ∨ b = s1.heap.objs.size := by simpa using hb
      have hle : s1.heap.objs.size ≤ b := by
        rcases e' with z | z
        · rw [z]; exact Nat.le_add_right _ _
        · rw [z]; exact Nat.le_refl _
      exact I1.fpOk hle (I1.hok.fresh hle)
section
variable {K : PySem.W.Frag} {σ : L2.St} {H : Hp} {Q : VK} {D : Ends} {tr : TA} {g : TG} {s1 : TS} {a : Addr} {xs : List V}
/-- for i, x in enumerate(a list or a tuple): each turn has a new pair -/
theorem w_forEA (ha : ∀ AQ : List V → Hp → Prop, AQ [.ref a] H → tr σ H AQ) (hx : SqL K H a xs ∨ SqT K H a xs) (Pv : Nat → L2.St → Hp → Prop) (h0 : Pv 0 σ H) (hl : ∀ i σ' H', Pv i σ' H' → (SqL K H a xs → SqL K H' a xs) ∧ (SqT K H a xs → SqT K H' a xs))
    (hs : ∀ i x T σ' H', xs[i]? = some x → Pv i σ' H' → H' T = none → g (.ref T) σ' (upd H' T (.tup [.int (i : Int), x])) fun σ2 H2 => s1 { D with nx := Pv (i + 1), ct := Pv (i + 1), bk := D.nx } σ2 H2)
    (hd : ∀ σ' H', Pv xs.length σ' H' → D.nx σ' H') : tFor (iEnumA K tr) g s1 D σ H := by
  rcases hx with hx | hx
  · refine ha _ ⟨a, xs, rfl, .inl ⟨hx, fun i m σ' H' => m = xs.length - i ∧ i ≤ xs.length ∧ Pv i σ' H', ⟨xs.length, by simp, Nat.zero_le _, h0⟩, ?_⟩⟩
    rintro i m σ' H' ⟨rfl, hi, q⟩
    have hq := (hl i σ' H' q).1 hx
    by_cases hlt : i < xs.length
    · refine .inr ⟨⟨xs, xs[i], hq, List.getElem?_eq_getElem hlt⟩, fun σ2 H2 => Pv (i + 1) σ2 H2, fun σ2 H2 q2 => ⟨xs.length - (i + 1), by omega, rfl, hlt, q2⟩, ?_⟩
      rintro x H2 ⟨T, z, rfl, nT, rfl, hz⟩
      exact hs i z T σ' H' (hz xs hq) q nT
    · have e : i = xs.length := by omega
      subst e
      exact .inl ⟨⟨xs, hq, Nat.le_refl _⟩, hd σ' H' q⟩
  · refine ha _ ⟨a, xs, rfl, .inr ⟨hx, fun i m σ' H' => m = xs.length - i ∧ i ≤ xs.length ∧ Pv i σ' H', ⟨xs.length, by simp, Nat.zero_le _, h0⟩, ?_⟩⟩
    rintro i m σ' H' ⟨rfl, hi, q⟩
    have hq := (hl i σ' H' q).2 hx
    by_cases hlt : i < xs.length
    · refine .inr ⟨⟨xs, xs[i], hq, List.getElem?_eq_getElem hlt⟩, fun σ2 H2 => Pv (i + 1) σ2 H2, fun σ2 H2 q2 => ⟨xs.length - (i + 1), by omega, rfl, hlt, q2⟩, ?_⟩
      rintro x H2 ⟨T, z, rfl, nT, rfl, hz⟩
      exact hs i z T σ' H' (hz xs hq) q nT
    · have e : i = xs.length := by omega
      subst e
      exact .inl ⟨⟨xs, hq, Nat.le_refl _⟩, hd σ' H' q⟩
end
end Rv
namespace Rv
open PySem PySem.Spec PyProof.Rows L2
theorem draw_call {K : PySem.W.Frag} {H : Hp} {Q : VK} {E : XK} {d c : Addr} {many : Int} (h : DrawsAt H d c) (h1 : 0 < many) (h2 : many < 2 ^ 200) (k : ∀ r H', 0 ≤ r → r < many → But d H H' → DrawsAt H' d c → Q (.int r) H') :
    spDraw K ([.ref d, .int many] ++ []) H Q E := ⟨d, c, many, rfl, h, h1, h2, k⟩
/-- a height, a width of the law -/
def HOk1 (z : Int) : Prop := -1000000000000000000000000000000 ≤ z ∧ z ≤ 1000000000000000000000000000000
def WOk1 (z : Int) : Prop := 1 ≤ z ∧ z ≤ 1000000000000000000000000000000
theorem map_app (l : List Int) (z : Int) : l.map V.int ++ [V.int z] = (l ++ [z]).map V.int := by rw [List.map_append]; rfl
/-! values: is it an integer -/
inductive Whole (K : PySem.W.Frag) (H : Hp) : V → Prop where
  | int (i : Int) : Whole K H (.int i)
  | bl (b : Bool) : Whole K H (.bl b)
  | other {v : V} {t : Value} (h : TyX K H v t) (k : PySem.W.kitOne K t (.type "int") = some false) (n1 : ∀ i, v ≠ .int i) : Whole K H v
def isI : V → Bool
  | .int _ => true
  | _ => false
def inI (lo hi : Int) : V → Bool
  | .int i => decide (lo ≤ i) && decide (i ≤ hi)
  | _ => false
def spWhole (K : PySem.W.Frag) : Sp := fun vs H Q _ => ∃ v, vs = [v] ∧ Whole K H v ∧ Q (.bl (isI v)) H
def spWithin (K : PySem.W.Frag) : Sp := fun vs H Q _ => ∃ v lo hi, vs = [v, .int lo, .int hi] ∧ Whole K H v ∧ Q (.bl (inI lo hi v)) H
/-- the first place whose value is not within, if any, from place n on -/
def outs (lo hi : Int) : List V → Nat → V
  | [], _ => .non
  | v :: r, n => if inI lo hi v = true then outs lo hi r (n + 1) else .int (n : Int)
def spOutside (K : PySem.W.Frag) : Sp := fun vs H Q _ => ∃ a lo hi xs, vs = [.ref a, .int lo, .int hi] ∧ (SqL K H a xs ∨ SqT K H a xs) ∧ (∀ x ∈ xs, Whole K H x) ∧ ∀ H', Same H H' → Q (outs lo hi xs 0) H'
theorem outs_none {lo hi : Int} : ∀ {xs : List V} {n : Nat}, (∀ x ∈ xs, inI lo hi x = true) → outs lo hi xs n = .non
  | [], _, _ => rfl
  | x :: r, n, h => by
    unfold outs
    rw [if_pos (h x List.mem_cons_self)]
    exact outs_none fun y hy => h y (List.mem_cons_of_mem _ hy)
theorem isi_of {K : PySem.W.Frag} {H : Hp} {Q : VK} {x c : V} {t u : Value} {b : Bool} (h1 : ClsV c u) (h2 : TyX K H x t) (h3 : PySem.W.kitOne K t u = some b) (q : Q (.bl b) H) : rIsi K [x, c] H Q := ⟨x, c, t, u, b, rfl, h1, h2, h3, q⟩
theorem kit_ii {K : PySem.W.Frag} : PySem.W.kitOne K (.type "int") (.type "int") = some true := kit_ty (by decide +kernel)
theorem kit_ib {K : PySem.W.Frag} : PySem.W.kitOne K (.type "int") (.type "bool") = some false := kit_ty (by decide +kernel)
theorem kit_bi {K : PySem.W.Frag} : PySem.W.kitOne K (.type "bool") (.type "int") = some true := kit_ty (by decide +kernel)
theorem kit_bb {K : PySem.W.Frag} : PySem.W.kitOne K (.type "bool") (.type "bool") = some true := kit_ty (by decide +kernel)
theorem kit_ll {K : PySem.W.Frag} : PySem.W.kitOne K (.type "list") (.type "list") = some true := kit_ty (by decide +kernel)
theorem kit_tl {K : PySem.W.Frag} : PySem.W.kitOne K (.type "tuple") (.type "list") = some false := kit_ty (by decide +kernel)
theorem kit_tt {K : PySem.W.Frag} : PySem.W.kitOne K (.type "tuple") (.type "tuple") = some true := kit_ty (by decide +kernel)
/-- a row that is a list or a tuple -/
def RowAt (K : PySem.W.Frag) (H : Hp) (a : Addr) (xs : List V) : Prop := H a = some (.lst xs) ∨ H a = some (.tup xs)
theorem RowAt.same {K : PySem.W.Frag} {H H' : Hp} {a : Addr} {xs : List V} (h : RowAt K H a xs) (e : Same H H') : RowAt K H' a xs := h.elim (fun h => .inl (e _ _ h)) fun h => .inr (e _ _ h)
def spRow (K : PySem.W.Frag) : Sp := fun vs H Q _ => ∃ a lo hi xs, vs = [.ref a, .int lo, .int hi] ∧ RowAt K H a xs ∧ ∀ H', Same H H' → Q (.bl (decide (lo ≤ (xs.length : Int)) && decide ((xs.length : Int) ≤ hi))) H'
/-- heights, widths that are valid -/
def spCheckH (K : PySem.W.Frag) : Sp := fun vs H Q _ => ∃ a, ∃ hs : List Int, vs = [.ref a] ∧ RowAt K H a (hs.map V.int) ∧ 1 ≤ hs.length ∧ hs.length ≤ 60 ∧ (∀ z ∈ hs, HOk1 z) ∧ ∀ H', Same H H' → Q .non H'
def spCheckW (K : PySem.W.Frag) : Sp := fun vs H Q _ => ∃ a, ∃ ws : List Int, vs = [.ref a, .int (ws.length : Int)] ∧ RowAt K H a (ws.map V.int) ∧ (∀ z ∈ ws, WOk1 z) ∧ ∀ H', Same H H' → Q .non H'
def pfl (t1 t2 : Addr) : List (Str × V) := putF "column_widths" (.ref t2) (putF "column_heights" (.ref t1) [])
theorem n_hw : ¬ (("column_heights" : Str) = "column_widths") := by decide +kernel
theorem pfl_h (t1 t2 : Addr) : (pfl t1 t2).lookup ("column_heights" : Str) = some (.ref t1) := by
  unfold pfl
  rw [lookup_putF, if_neg n_hw, lookup_putF, if_pos rfl]
theorem pfl_w (t1 t2 : Addr) : (pfl t1 t2).lookup ("column_widths" : Str) = some (.ref t2) := by
  unfold pfl
  rw [lookup_putF, if_pos rfl]
/-- a Profile stands at p -/
def ProfAt (K : PySem.W.Frag) (C : Addr) (H : Hp) (p : Addr) (hs ws : List Int) : Prop := ∃ dx t1 t2, H p = some (.ins C dx (pfl t1 t2)) ∧ H t1 = some (.tup (hs.map V.int)) ∧ H t2 = some (.tup (ws.map V.int))
theorem ProfAt.same {K : PySem.W.Frag} {C : Addr} {H H' : Hp} {p : Addr} {hs ws : List Int} (h : ProfAt K C H p hs ws) (e : Same H H') : ProfAt K C H' p hs ws := by
  obtain ⟨dx, t1, t2, h1, h2, h3⟩ := h
  exact ⟨dx, t1, t2, e _ _ h1, e _ _ h2, e _ _ h3⟩
/-- what is told of the class as the top has made it -/
structure PCls (K : PySem.W.Frag) (C : Addr) : Prop where
  cl : Cls K C
  nH : NoAttr K C "column_heights"
  nW : NoAttr K C "column_widths"
  cA : PySem.W.findIn K (.ref C) "__class__" = some (some (.builtin "object.__class__"))
  cG : PySem.W.specialIn K (.builtin "object.__class__") "__get__" = some (some (.builtin "getset_descriptor.__get__"))
  cT : PySem.W.takesIn K (.builtin "object.__class__") = some true
  cM : PySem.W.mroIn K C (.type "object") = some true
def spInit (K : PySem.W.Frag) (C : Addr) : Sp := fun vs H Q _ => ∃ p dx a, ∃ wv : V, ∃ hs ws : List Int, vs = [.ref p, .ref a, wv] ∧ PCls K C ∧ H p = some (.ins C dx []) ∧ RowAt K H a (hs.map V.int) ∧ 1 ≤ hs.length ∧ hs.length ≤ 60 ∧ (∀ z ∈ hs, HOk1 z) ∧
  ((wv = .non ∧ ws = List.replicate hs.length 1) ∨ ∃ b, wv = .ref b ∧ RowAt K H b (ws.map V.int) ∧ ws.length = hs.length ∧ ∀ z ∈ ws, WOk1 z) ∧ ∀ H', ProfAt K C H' p hs ws → (∀ b o, b ≠ p → H b = some o → H' b = some o) → Q .non H'
def t_is_whole (K : PySem.W.Frag) : TS :=
  (tRet (tAndV (tCB (rIsi K) (tCons (tVar 0) (tCons (tC (.ty "int")) tNil))) (tNotV (tCB (rIsi K) (tCons (tVar 0) (tCons (tC (.ty "bool")) tNil))))))
def t_is_whole_within (K : PySem.W.Frag) : TS :=
  (tRet (tAndV (tCall (spWhole K) [] E0 (tCons (tVar 0) tNil)) (tChain oLe oLe (tVar 1) (tVar 0) (tVar 2))))
def t_first_outside (K : PySem.W.Frag) : TS :=
  (tSeq (tFor (iEnumA K (tCons (tVar 0) tNil)) (gTup K 2 (gCons (gName 3) (gCons (gName 4) gNil))) (tIfS (tNot (tB (tCall (spWithin K) [] E0 (tCons (tVar 4) (tCons (tVar 1) (tCons (tVar 2) tNil)))))) (tRet (tVar 3)) tNext))
    (tRet (tC .non)))
def t_is_row (K : PySem.W.Frag) : TS :=
  (tRet (tAndV (tCB (rIsiT K) (tCons (tVar 0) (tCons (tTup (tCons (tC (.ty "list")) (tCons (tC (.ty "tuple")) tNil))) tNil))) (tChain oLe oLe (tVar 1) (tCB (cLen K) (tCons (tVar 0) tNil)) (tVar 2))))
def t_check_heights (K : PySem.W.Frag) : TS :=
  (tSeq (tIfS (tNot (tB (tCall (spRow K) [] E0 (tCons (tVar 0) (tCons (tC (.int 1)) (tCons (tC (.int 60)) tNil)))))) tNever tNext)
    (tSeq (tAsg (tCall (spOutside K) [] E0 (tCons (tVar 0) (tCons (tUn (rU fun i => .int (-i)) (tC (.int 1000000000000000000000000000000))) (tCons (tC (.int 1000000000000000000000000000000)) tNil)))) (gName 1))
    (tIfS (tTest (tOp oNotN (tVar 1) (tC .non))) tNever tNext)))
def t_check_widths (K : PySem.W.Frag) : TS :=
  (tSeq (tIfS (tNot (tB (tCall (spRow K) [] E0 (tCons (tVar 0) (tCons (tVar 1) (tCons (tVar 1) tNil)))))) tNever tNext)
    (tSeq (tAsg (tCall (spOutside K) [] E0 (tCons (tVar 0) (tCons (tC (.int 1)) (tCons (tC (.int 1000000000000000000000000000000)) tNil)))) (gName 2))
    (tIfS (tTest (tOp oNotN (tVar 2) (tC .non))) tNever tNext)))
def t_Profile___init__ (K : PySem.W.Frag) (C_Profile : Addr) : TS :=
  (tSeq (tDrop (tCall (spCheckH K) [] E0 (tCons (tVar 1) tNil)))
    (tSeq (tIfS (tTest (tOp oIsN (tVar 2) (tC .non))) (tAsg (tOp rRep (tLst (tCons (tC (.int 1)) tNil)) (tCB (cLen K) (tCons (tVar 1) tNil))) (gName 2)) tNext)
    (tSeq (tDrop (tCall (spCheckW K) [] E0 (tCons (tVar 2) (tCons (tCB (cLen K) (tCons (tVar 1) tNil)) tNil))))
    (tSeq (sFld K (tVar 0) (tCB (cTuple K) (tCons (tVar 1) tNil)) "column_heights")
    (sFld K (tVar 0) (tCB (cTuple K) (tCons (tVar 2) tNil)) "column_widths")))))
local macro_rules | `(tactic| walk_at "rv st") => `(tactic| first
  | with_reducible refine iteT ?_ | with_reducible refine iteF ?_ | with_reducible refine w_nx ?_ | with_reducible refine w_yes ?_ | with_reducible refine w_rt ?_ | with_reducible refine iteNT ?_ | with_reducible refine iteNF ?_ | with_reducible refine iteNRf ?_ | with_reducible refine iteRf ?_ | with_reducible refine w_seqA ?_ | with_reducible refine w_seqD ?_ | with_reducible refine w_seqP ?_ | with_reducible refine w_asg ?_ | with_reducible refine w_ret ?_ | with_reducible refine w_drop ?_ | with_reducible refine w_ifs ?_ | with_reducible refine w_next ?_ | with_reducible refine w_par ?_
  | with_reducible refine w_op ?_ | with_reducible refine w_un ?_ | ((with_reducible show tVar _ _ _ _); refine' w_var ?hv ?_; (case hv => exact rfl)) | with_reducible refine w_c ?_ | with_reducible refine w_test ?_ | with_reducible refine w_tB ?_
  | with_reducible refine w_bl ?_ | with_reducible refine w_I0 ?_ | with_reducible refine w_U ?_ | with_reducible refine w_eqI ?_ | with_reducible refine w_neI ?_
  | with_reducible refine w_cons ?_ | with_reducible refine w_nil ?_ | with_reducible refine w_gn ?_ | with_reducible refine w_gsub ?_ | with_reducible refine w_and ?_ | with_reducible refine w_or ?_ | with_reducible refine w_not ?_
  | with_reducible refine w_andV ?_ | with_reducible refine w_orV ?_ | with_reducible refine w_notV ?_ | with_reducible refine w_if ?_ | with_reducible refine w_cb ?_ | with_reducible refine w_call ?_ | with_reducible refine w_lst ?_ | with_reducible refine w_tup ?_
  | with_reducible refine w_sl ?_ | with_reducible refine w_noPart ?_ | with_reducible refine w_part ?_ | with_reducible refine w_ex1 ?_ | with_reducible refine w_exb ?_ | with_reducible refine w_intB ?_ | with_reducible refine w_intI ?_ | with_reducible refine w_abs ?_)
local macro_rules | `(tactic| walk_at "rv ix") => `(tactic| ((with_reducible show rIxL _ _ _ _ _); refine' w_ixL (sq_lst ?ha) ?hb ?_; (case ha => first | exact upd_same | assumption); (case hb => first | exact rfl | assumption)))
local macro_rules | `(tactic| walk_at "rv ar") => `(tactic| first
  | (refine' w_I ?hc ?_; (case hc => first | (show (0 : Int) < _; first | assumption | decide | omega) | exact pow_c (by decide) (by decide) (by first | decide | omega) (by first | decide | omega) | exact mul_r (by first | decide | omega) (by first | decide | omega) | exact mul_l (by first | decide | omega) (by first | decide | omega) | exact divw (by first | assumption | decide | omega) (by first | assumption | decide | omega))))
local macro_rules | `(tactic| walk_at "rv go") => `(tactic| repeat first | walk_at "rv st" | walk_at "rv ix" | ((with_reducible show rI _ _ _ _ _ _); walk_at "rv ar"))
theorem ty_same {K : PySem.W.Frag} {H H' : Hp} {v : V} {t : Value} (h : TyX K H v t) (e : Same H H') : TyX K H' v t := by
  cases h with
  | base h =>
    cases h with
    | non => exact .base .non
    | bl x => exact .base (.bl x)
    | int i => exact .base (.int i)
    | str x => exact .base (.str x)
    | flt x => exact .base (.flt x)
    | lst h => exact .base (.lst (e _ _ h))
    | frz h => exact .base (.frz (e _ _ h))
    | tup h => exact .base (.tup (e _ _ h))
    | dK h => exact .base (.dK (e _ _ h))
    | dT h => exact .base (.dT (e _ _ h))
    | ins h cl ha hn htk hm => exact .base (.ins (e _ _ h) cl ha hn htk hm)
  | byt b => exact .byt b
  | set h => exact .set (e _ _ h)
  | kList h c => exact .kList h c
  | kTuple h c => exact .kTuple h c
  | kDict h c => exact .kDict h c
  | fTuple h => exact .fTuple (e _ _ h)
  | fDict h => exact .fDict (e _ _ h)
theorem Whole.same {K : PySem.W.Frag} {H H' : Hp} {v : V} (h : Whole K H v) (e : Same H H') : Whole K H' v := by
  cases h with
  | int i => exact .int i
  | bl b => exact .bl b
  | other h k n => exact .other (ty_same h e) k n
theorem whole_int {K : PySem.W.Frag} {H : Hp} {v : V} (h : Whole K H v) : ∃ t, TyX K H v t ∧ PySem.W.kitOne K t (.type "int") = some (isI v || match v with | .bl _ => true | _ => false) := by
  cases h with
  | int i => exact ⟨_, .base (.int i), kit_ii⟩
  | bl b => exact ⟨_, .base (.bl b), kit_bi⟩
  | other h k n1 =>
    refine ⟨_, h, ?_⟩
    rw [k]
    cases v with
    | int i => exact absurd rfl (n1 i)
    | bl b =>
      cases h with
      | base hb =>
        cases hb
        rw [kit_bi] at k
        cases k
    | _ => rfl
theorem p_whole {K : PySem.W.Frag} {vs : List V} {H : Hp} {Q : VK} {E : XK} (h : spWhole K vs H Q E) : t_is_whole K { nx := fun _ H' => Q .non H', rt := Q } (start ["value"] vs) H := by
  obtain ⟨v, rfl, hw, k⟩ := h
  unfold t_is_whole
  obtain ⟨t, h1, h2⟩ := whole_int hw
  walk_at "rv go"
  refine isi_of (.ty "int") h1 h2 ?_
  walk_at "rv go"
  cases v with
  | int i =>
    refine iteT ?_
    walk_at "rv go"
    refine isi_of (.ty "bool") (.base (.int i)) kit_ib ?_
    walk_at "rv go"
    exact k
  | bl b =>
    refine iteT ?_
    walk_at "rv go"
    refine isi_of (.ty "bool") (.base (.bl b)) kit_bb ?_
    walk_at "rv go"
    exact k
  | _ => exact k
theorem p_within {K : PySem.W.Frag} {vs : List V} {H : Hp} {Q : VK} {E : XK} (h : spWithin K vs H Q E) : t_is_whole_within K { nx := fun _ H' => Q .non H', rt := Q } (start ["value", "least", "greatest"] vs) H := by
  obtain ⟨v, lo, hi, rfl, hw, k⟩ := h
  unfold t_is_whole_within
  walk_at "rv go"
  refine ⟨v, rfl, hw, ?_⟩
  walk_at "rv go"
  cases v with
  | int i =>
    refine iteT ?_
    refine w_chain ?_
    walk_at "rv go"
    refine w_both (fun h => ?_) (fun h => ?_)
    · walk_at "rv go"
      have e : inI lo hi (.int i) = decide (i ≤ hi) := by
        show (decide (lo ≤ i) && decide (i ≤ hi)) = _
        rw [decide_eq_true h, Bool.true_and]
      rw [e] at k
      exact k
    · have e : inI lo hi (.int i) = false := by
        show (decide (lo ≤ i) && decide (i ≤ hi)) = _
        rw [decide_eq_false h, Bool.false_and]
      rw [e] at k
      exact k
  | _ => exact k
theorem sqT_same0 {K : PySem.W.Frag} {H H' : Hp} {a : Addr} {xs : List V} (h : SqT K H a xs) (e : Same H H') : SqT K H' a xs := by
  rcases h with (h | ⟨o, h⟩) | h
  · exact .inl (.inl (e _ _ h))
  · exact .inl (.inr ⟨o, e _ _ h⟩)
  · exact .inr h
theorem p_outside {K : PySem.W.Frag} {vs : List V} {H : Hp} {Q : VK} {E : XK} (h : spOutside K vs H Q E) : t_first_outside K { nx := fun _ H' => Q .non H', rt := Q } (start ["values", "least", "greatest", "index", "value"] vs) H := by
  obtain ⟨a, lo, hi, xs, rfl, hS, hw, k⟩ := h
  unfold t_first_outside
  refine w_seq ?_
  refine w_forEA (fun AQ q => ?_) hS (fun i σ' H' => ∃ u v : Option V, σ' = [some (.ref a), some (.int lo), some (.int hi), u, v] ∧ Same H H' ∧ outs lo hi xs 0 = outs lo hi (xs.drop i) i) ⟨none, none, rfl, Same.refl H, by rw [List.drop_zero]⟩ (fun i σ' H' ⟨_, _, _, e, _⟩ => ⟨fun z => e.seq z, fun z => sqT_same0 z e⟩) ?_ ?_
  · walk_at "rv go"
    exact q
  · rintro i x T σ' H' hx ⟨u, v, rfl, e, ho⟩ nT
    refine ⟨T, _, rfl, sq_tup upd_same, rfl, _, _, rfl, ?_⟩
    refine ⟨_, _, rfl, rfl, ?_⟩
    have e2 : Same H (upd H' T (.tup [.int (i : Int), x])) := same_new e nT
    have hil : i < xs.length := (List.getElem?_eq_some_iff.mp hx).1
    have hxe : xs[i] = x := (List.getElem?_eq_some_iff.mp hx).2
    have ed : xs.drop i = x :: xs.drop (i + 1) := by rw [List.drop_eq_getElem_cons hil, hxe]
    refine w_ifs ?_
    walk_at "rv go"
    refine ⟨x, lo, hi, rfl, ?_, ?_⟩
    · exact (hw x (List.mem_of_getElem? hx)).same e2
    · walk_at "rv go"
      rw [ed] at ho
      cases hb : inI lo hi x with
      | true =>
        refine iteF ?_
        refine w_next ?_
        refine ⟨_, _, rfl, e2, ?_⟩
        rw [ho]
        show (if inI lo hi x = true then _ else _) = _
        rw [if_pos hb]
      | false =>
        refine iteT ?_
        walk_at "rv go"
        have q := k _ e2
        rw [ho] at q
        have e3 : outs lo hi (x :: xs.drop (i + 1)) i = .int (i : Int) := by
          show (if inI lo hi x = true then _ else _) = _
          rw [hb, if_neg Bool.false_ne_true]
        rw [e3] at q
        exact q
  · rintro σ' H' ⟨u, v, rfl, e, ho⟩
    walk_at "rv go"
    rw [List.drop_length] at ho
    have q := k _ e
    rw [ho] at q
    exact q
theorem p_row {K : PySem.W.Frag} {vs : List V} {H : Hp} {Q : VK} {E : XK} (h : spRow K vs H Q E) : t_is_row K { nx := fun _ H' => Q .non H', rt := Q } (start ["values", "least", "most"] vs) H := by
  obtain ⟨a, lo, hi, xs, rfl, hR, k⟩ := h
  unfold t_is_row
  walk_at "rv go"
  refine ⟨szl (by decide), fun p np => ?_⟩
  have e := same_new (o := .tup [.ty "list", .ty "tuple"]) (Same.refl H) np
  walk_at "rv go"
  have hR2 := hR.same (K := K) e
  have ty : ∃ t, TyX K (upd H p (.tup [.ty "list", .ty "tuple"])) (.ref a) t ∧ PySem.W.kitAny K t [.type "list", .type "tuple"] = some true := by
    rcases hR2 with h | h
    · exact ⟨_, .base (.lst h), kitAny_cons kit_ll (fun z => nomatch z) (fun _ => rfl)⟩
    · exact ⟨_, .base (.tup h), kitAny_cons kit_tl (fun _ => kitAny_cons kit_tt (fun z => nomatch z) (fun _ => rfl)) (fun z => nomatch z)⟩
  obtain ⟨t, h1, h2⟩ := ty
  refine ⟨.ref a, p, _, t, _, true, rfl, upd_same, .cons (.ty "list") (.cons (.ty "tuple") .nil), h1, h2, ?_⟩
  walk_at "rv go"
  refine w_chain ?_
  walk_at "rv go"
  have hl : ∀ Q : VK, Q (.int (xs.length : Int)) (upd H p (.tup [.ty "list", .ty "tuple"])) → cLen K [.ref a] (upd H p (.tup [.ty "list", .ty "tuple"])) Q := fun Q q => by
    rcases hR2 with h | h
    · exact w_lenL (sq_lst h) q
    · exact w_lenT (sq_tup h) q
  refine hl _ ?_
  walk_at "rv go"
  have q := k _ e
  refine w_both (fun z => ?_) (fun z => ?_)
  · walk_at "rv go"
    rw [decide_eq_true z, Bool.true_and] at q
    exact q
  · rw [decide_eq_false z, Bool.false_and] at q
    exact q
theorem row_call {K : PySem.W.Frag} {H : Hp} {Q : VK} {E : XK} {a : Addr} {lo hi : Int} {xs : List V} (h : RowAt K H a xs) (h1 : lo ≤ (xs.length : Int)) (h2 : (xs.length : Int) ≤ hi) (k : ∀ H', Same H H' → Q (.bl true) H') :
    spRow K ([.ref a, .int lo, .int hi] ++ []) H Q E := ⟨a, lo, hi, xs, rfl, h, fun H' e => by
  rw [decide_eq_true h1, decide_eq_true h2]
  exact k H' e⟩
theorem outside_call {K : PySem.W.Frag} {H : Hp} {Q : VK} {E : XK} {a : Addr} {lo hi : Int} {zs : List Int} (h : RowAt K H a (zs.map V.int)) (hz : ∀ z ∈ zs, lo ≤ z ∧ z ≤ hi) (k : ∀ H', Same H H' → Q .non H') :
    spOutside K ([.ref a, .int lo, .int hi] ++ []) H Q E := by
  have hm : ∀ x ∈ zs.map V.int, ∃ z, x = V.int z ∧ lo ≤ z ∧ z ≤ hi := fun x hx => by
    obtain ⟨z, h1, h2⟩ := List.mem_map.mp hx
    exact ⟨z, h2.symm, hz z h1⟩
  refine ⟨a, lo, hi, _, rfl, h.elim (fun h => .inl (sq_lst h)) (fun h => .inr (sq_tup h)), fun x hx => ?_, fun H' e => ?_⟩
  · obtain ⟨z, rfl, _⟩ := hm x hx
    exact .int z
  · rw [outs_none fun x hx => ?_]
    · exact k H' e
    · obtain ⟨z, rfl, h1, h2⟩ := hm x hx
      show (decide (lo ≤ z) && decide (z ≤ hi)) = true
      rw [decide_eq_true h1, decide_eq_true h2]
      rfl
theorem p_checkH {K : PySem.W.Frag} {vs : List V} {H : Hp} {Q : VK} {E : XK} (h : spCheckH K vs H Q E) : t_check_heights K { nx := fun _ H' => Q .non H', rt := Q } (start ["heights", "wrong"] vs) H := by
  obtain ⟨a, hs, rfl, ha, h1, h60, hok, k⟩ := h
  unfold t_check_heights
  refine w_seq ?_
  refine w_ifs ?_
  walk_at "rv go"
  refine row_call ha (by rw [List.length_map]; omega) (by rw [List.length_map]; omega) fun H1 e1 => ?_
  walk_at "rv go"
  refine outside_call (ha.same e1) (fun z hz => hok z hz) fun H2 e2 => ?_
  refine w_gn ?_
  refine w_ifs ?_
  walk_at "rv go"
  refine ⟨rfl, ?_⟩
  walk_at "rv go"
  exact k H2 (e1.trans e2)
theorem p_checkW {K : PySem.W.Frag} {vs : List V} {H : Hp} {Q : VK} {E : XK} (h : spCheckW K vs H Q E) : t_check_widths K { nx := fun _ H' => Q .non H', rt := Q } (start ["widths", "many", "wrong"] vs) H := by
  obtain ⟨a, ws, rfl, ha, hok, k⟩ := h
  unfold t_check_widths
  refine w_seq ?_
  refine w_ifs ?_
  walk_at "rv go"
  refine row_call ha (by rw [List.length_map]; omega) (by rw [List.length_map]; omega) fun H1 e1 => ?_
  walk_at "rv go"
  refine outside_call (ha.same e1) (fun z hz => hok z hz) fun H2 e2 => ?_
  refine w_gn ?_
  refine w_ifs ?_
  walk_at "rv go"
  refine ⟨rfl, ?_⟩
  walk_at "rv go"
  exact k H2 (e1.trans e2)
theorem tup_call {K : PySem.W.Frag} {H : Hp} {Q : VK} {a : Addr} {xs : List V} (h : RowAt K H a xs) (k : ∀ l H', Same H H' → H' l = some (.tup xs) → Q (.ref l) H') : cTuple K [.ref a] H Q := by
  rcases h with h | h
  · exact ⟨a, xs, rfl, .inl ⟨sq_lst h, fun l nl => k l _ (same_new (Same.refl H) nl) upd_same⟩⟩
  · exact ⟨a, xs, rfl, .inr ⟨sq_tup h, k a H (Same.refl H) h⟩⟩
theorem w_lenR {K : PySem.W.Frag} {H : Hp} {Q : VK} {a : Addr} {xs : List V} (h : RowAt K H a xs) (q : Q (.int xs.length) H) : cLen K [.ref a] H Q :=
  h.elim (fun h => w_lenL (sq_lst h) q) fun h => w_lenT (sq_tup h) q
theorem p_init {K : PySem.W.Frag} {C : Addr} {vs : List V} {H : Hp} {Q : VK} {E : XK} (h : spInit K C vs H Q E) : t_Profile___init__ K C { nx := fun _ H' => Q .non H', rt := Q } (start ["self", "heights", "widths"] vs) H := by
  obtain ⟨p, dx, a, wv, hs, ws, rfl, P, hp, ha, h1, h60, hok, hw, k⟩ := h
  unfold t_Profile___init__
  walk_at "rv go"
  refine ⟨a, hs, rfl, ha, h1, h60, hok, fun H1 e1 => ?_⟩
  refine w_cut (fun σ' H' => ∃ b, σ' = [some (.ref p), some (.ref a), some (.ref b)] ∧ RowAt K H' b (ws.map V.int) ∧ ws.length = hs.length ∧ (∀ z ∈ ws, WOk1 z) ∧ Same H H') (fun N key => ?_) ?_
  · refine w_ifs ?_
    rcases hw with ⟨rfl, rfl⟩ | ⟨b, rfl, hb, hl, hwok⟩
    · walk_at "rv go"
      refine ⟨rfl, ?_⟩
      walk_at "rv go"
      refine ⟨szl (by decide), fun q nq => ?_⟩
      walk_at "rv go"
      refine w_lenR (ha.same (same_new e1 nq)) ?_
      walk_at "rv go"
      refine ⟨q, _, _, rfl, rfl, upd_same, by omega, by rw [List.length_map]; omega, by rw [List.length_map]; exact szl (by simp; omega), fun r nr => ?_⟩
      walk_at "rv go"
      refine key _ _ ⟨r, rfl, .inl ?_, by simp, fun z hz => ?_, same_new (same_new e1 nq) nr⟩
      · rw [upd_same, List.map_replicate, List.length_map, Int.toNat_natCast, List.flatten_replicate_singleton]
      · rw [(List.mem_replicate.mp hz).2]
        exact ⟨by decide, by decide⟩
    · walk_at "rv go"
      refine ⟨rfl, ?_⟩
      have e : decide (V.ref b = V.non) = false := decide_eq_false fun z => nomatch z
      rw [e]
      walk_at "rv go"
      exact key _ _ ⟨b, rfl, hb.same e1, hl, hwok, e1⟩
  · rintro σ2 H2 ⟨b, rfl, hb, hl, hwok, e2⟩
    walk_at "rv go"
    refine w_lenR (ha.same e2) ?_
    walk_at "rv go"
    refine ⟨b, ws, ?_, hb, hwok, fun H3 e3 => ?_⟩
    · show [V.ref b, V.int ((hs.map V.int).length : Int)] = _
      rw [List.length_map, hl]
    have e23 := e2.trans e3
    refine w_seq ?_
    refine w_sfld ?_
    walk_at "rv go"
    refine tup_call (ha.same e23) fun t1 H4 e4 h1 => ?_
    walk_at "rv go"
    have e24 := e23.trans e4
    refine w_put (e24 _ _ hp) P.cl P.nH (by decide) ?_
    refine w_nx ?_
    refine w_sfld ?_
    walk_at "rv go"
    have ne_p : ∀ {c : Addr} {ys : List V}, RowAt K H4 c ys → c ≠ p := fun {c ys} q z => by
      have q2 := e24 _ _ hp
      rw [← z] at q2
      rcases q with q | q
      · rw [q] at q2
        cases q2
      · rw [q] at q2
        cases q2
    have t1p : t1 ≠ p := ne_p (.inr h1)
    have hb4 : RowAt K H4 b (ws.map V.int) := (hb.same e3).same e4
    have bp : b ≠ p := ne_p hb4
    have hb5 : RowAt K (upd H4 p (.ins C dx (putF "column_heights" (.ref t1) []))) b (ws.map V.int) := by
      unfold RowAt
      rw [upd_ne bp]
      exact hb4
    refine tup_call hb5 fun t2 H5 e5 h2 => ?_
    have hp5 := e5 _ _ (upd_same (H := H4) (a := p))
    have t2p : t2 ≠ p := fun z => by
      rw [z, hp5] at h2
      cases h2
    walk_at "rv go"
    refine w_put (fs := putF "column_heights" (.ref t1) []) hp5 P.cl P.nW (by show (1 : Nat) < 1000; decide) ?_
    refine k _ ⟨dx, t1, t2, upd_same, ?_, ?_⟩ fun c o nc hc => ?_
    · rw [upd_ne t1p]
      exact e5 _ _ (by rw [upd_ne t1p]; exact h1)
    · rw [upd_ne t2p]
      exact h2
    · rw [upd_ne nc]
      exact e5 _ _ (by rw [upd_ne nc]; exact e24 _ _ hc)
theorem dp_ints {K : PySem.W.Frag} {H : Hp} : ∀ zs : List Int, DpAll K H (zs.map V.int) (zs.map PyData.int)
  | [] => .nil
  | z :: r => .cons (.int z) (dp_ints r)
theorem kit_self {K : PySem.W.Frag} {C : Addr} : PySem.W.kitOne K (.ref C) (.ref C) = some true := if_pos (beq_self_eq_true _)
theorem lay_ints : ∀ zs : List Int, PyData.canLayAll0 (zs.map PyData.int) = true ∧ PyData.depthAll (zs.map PyData.int) = 0
  | [] => ⟨by simp [PyData.canLayAll0], by simp [PyData.depthAll]⟩
  | z :: r => by
    have h := lay_ints r
    exact ⟨by simp [PyData.canLayAll0, PyData.canLay0, h.1], by simp [PyData.depthAll, PyData.depth, h.2]⟩
theorem shT_ints (zs : List Int) : SeqAt.shaped (.tuple (zs.map PyData.int)) = true := by
  have h := lay_ints zs
  simp [SeqAt.shaped, PyData.canLay0, PyData.depth, h.1, h.2]
theorem eqD_ok {K : PySem.W.Frag} {H : Hp} {Q : VK} {a b : Addr} {zs : List Int} (h1 : SqT K H a (zs.map V.int)) (h2 : SqT K H b (zs.map V.int)) (q : Q (.bl true) H) : rEqD K (.ref a) (.ref b) H Q := by
  refine ⟨.tuple (zs.map PyData.int), .tuple (zs.map PyData.int), .tup h1 (dp_ints zs), .tup h2 (dp_ints zs), shT_ints zs, shT_ints zs, ?_⟩
  rw [SeqAt.eqv_refl _ (SeqAt.canLay_of_shaped (shT_ints zs))]
  exact q
end Rv
/-! Operators, comparisons and len of instances of a class with its own defs for them. -/
namespace Rv
open PySem PySem.Spec PyProof.Rows L2
theorem back_of {P : Value → Shared → Prop} {z : V} {v : Value} {s' : Shared} (r : RelV z v) (h : P v s') : PySem.W.CmpBack P v s' := by
  have n : v ≠ .notImplemented := by
    rintro rfl
    cases z <;> first | (obtain ⟨_, e⟩ := r; cases e) | cases r
  cases v <;> first | exact h | exact absurd rfl n
/-- the second operand: an int, or an instance of the class at C -/
inductive Snd (C : Addr) (H : Hp) : V → Prop where
  | int (i : Int) : Snd C H (.int i)
  | own {b dy : Addr} {gs : List (Str × V)} (h : H b = some (.ins C dy gs)) : Snd C H (.ref b)
/-- the class at C has a def of two parameters under the name nm -/
structure CalO (P : Program) (w : World) (K : PySem.W.Frag) (mg : Str → Option Value) (base : Heap) (CX : CXT) (k : Nat) (C : Addr) (nm : Str) (sp : Sp) : Prop where
  ex : ∃ f fd, FnOk P w K mg base CX k f fd ["self", "other"] sp ∧ PySem.W.findIn K (.ref C) nm = some (some (.ref f)) ∧ PySem.W.isFn K (.ref f) = true ∧ Binds K fd ["self", "other"] []
/-- .. of one parameter -/
structure CalU (P : Program) (w : World) (K : PySem.W.Frag) (mg : Str → Option Value) (base : Heap) (CX : CXT) (k : Nat) (C : Addr) (nm : Str) (sp : Sp) : Prop where
  ex : ∃ f fd, FnOk P w K mg base CX k f fd ["self"] sp ∧ PySem.W.findIn K (.ref C) nm = some (some (.ref f)) ∧ PySem.W.isFn K (.ref f) = true ∧ Binds K fd ["self"] []
/-- what the operators ask of the class -/
structure OpC (K : PySem.W.Frag) (C : Addr) : Prop where
  nf : PySem.W.notFirst K C (.type "int") = true
  sf : PySem.W.selfFirst K C = true
  su : PySem.W.subIn K (.type "int") (.ref C) = some false
def rOwn (C : Addr) (sp : Sp) (E : XK) : R2 := fun x y H Q => ∃ a dx fs, x = .ref a ∧ H a = some (.ins C dx fs) ∧ Snd C H y ∧ sp [x, y] H Q E
def cLenO (C : Addr) (sp : Sp) (E : XK) : List V → Hp → VK → Prop := fun xs H Q => ∃ a dx fs, xs = [.ref a] ∧ H a = some (.ins C dx fs) ∧ sp [.ref a] H (fun z H' => ∃ i, z = .int i ∧ (0 ≤ i ∧ i < 2 ^ 63) ∧ Q (.int i) H') E
section
variable {X : Cx} {CX : CXT} {k : Nat} {nm : String} {sp : Sp} {E : XK} {C f : Addr} {fd : FuncData} {pins : List (Addr × Obj)} {σ : L2.St} {H : Hp} {s : Shared} {a : Addr} {y : V} {u : Value} {Q : VK}
theorem run2 (F : FnOk X.prog X.w X.K X.mg X.base CX k f fd ["self", "other"] sp) (hb : Binds X.K fd ["self", "other"] []) (hx : Passes CX X E) (hr : Room k X.A) (I : Inv X pins σ H s) (ry : RelV y u) (q : sp [.ref a, y] H Q E) :
    wpAny (model X.prog X.w) X.A (call (.ref f) [.ref a, u]) (PySem.W.CmpBack (EP X pins σ Q)) X.xe s := by
  have r2 : Vals [V.ref a, y] [Value.ref a, u] := .cons rfl (.cons ry .nil)
  have hl := F.len _ _ _ _ q
  refine wpAny_call (codeAny_mono (F.run X.A X.stack s H ⟨[.ref a, u], []⟩ [.ref a, u] [.ref a, y] _ E hr I.env0 (by
    have := hb s [.ref a, u] I.kIn (by simpa using hl)
    simpa using this) r2 q) fun r s' hq => ?_)
  cases r with
  | error e => exact hx pins σ H s e s' I hq
  | ok fl =>
    cases fl with
    | ret w =>
      obtain ⟨z, H', I', rz, qz⟩ := I.after hq
      exact back_of rz ⟨z, H', I', rz, qz⟩
    | next => exact False.elim hq
    | brk => exact False.elim hq
    | cont => exact False.elim hq
theorem op_ownC {op : CmpOp} (hop : ∀ a b, compareOp op a b = richCompare op a b) (c : CalO X.prog X.w X.K X.mg X.base CX k C (cmpInfo op).2.1 sp) (oc : OpC X.K C) (hr : Room k X.A) (hx : Passes CX X E) : OpR X (compareOp op) (rOwn C sp E) := by
  intro pins s σ H x y v u Q I rx ry h
  obtain ⟨a, dx, fs, rfl, ha, sy, q⟩ := h
  cases (show v = Value.ref a from rx)
  obtain ⟨f, fd, F, hs, hf, hb⟩ := c.ex
  obtain ⟨mA, J, _⟩ := ins_get I.hok ha
  obtain ⟨od, J, _⟩ := J.look
  obtain ⟨m, hF⟩ := I.fr
  rw [hop]
  have go := run2 (y := y) (u := u) F hb hx hr I ry q
  cases sy with
  | int i =>
    obtain ⟨t, rfl⟩ := (show ∃ t, u = Value.int i t from ry)
    exact PySem.W.cmp_K (op := op) (tb := .type "int") hr.units0 hF I.ok.mod.kin J (PySem.W.Looks.of_pure rfl) oc.nf hs hf go
  | own hb' =>
    cases (show u = Value.ref _ from ry)
    obtain ⟨mB, J', _⟩ := ins_get I.hok hb'
    obtain ⟨od', J', _⟩ := J'.look
    exact PySem.W.cmp_K (op := op) (tb := .ref C) hr.units0 hF I.ok.mod.kin J J'.type (by simp [PySem.W.notFirst]) hs hf go
theorem call_lenO (c : CalU X.prog X.w X.K X.mg X.base CX k C "__len__" sp) (hr : Room (k + 1) X.A) (hx : Passes CX X E) : CallR X (.builtin "len") (cLenO C sp E) := by
  intro pins s σ H xs us Q I r h
  obtain ⟨a, dx, fs, rfl, ha, q⟩ := h
  obtain ⟨u, rfl, ru⟩ := r.one
  cases (show u = Value.ref a from ru)
  obtain ⟨f, fd, F, hs, hf, hb⟩ := c.ex
  obtain ⟨mA, J, _⟩ := ins_get I.hok ha
  obtain ⟨od, J, _⟩ := J.look
  obtain ⟨m, hF⟩ := I.fr
  have hl := F.len _ _ _ _ q
  refine PySem.W.len_K hF I.ok.mod.kin J hs hf (wpAny_call (codeAny_mono (F.run X.A.in1 X.stack s H ⟨[.ref a], []⟩ [.ref a] [.ref a] _ E hr.in1 I.env0.in1 (by
    have := hb s [.ref a] I.kIn (by simpa using hl)
    simpa using this) (.cons rfl .nil) q) fun r s' hq => ?_))
  cases r with
  | error e => exact hx pins σ H s e s' I hq
  | ok fl =>
    cases fl with
    | ret w =>
      obtain ⟨z, H', I', rz, i, rfl, hi, qz⟩ := I.after hq
      obtain ⟨t, rfl⟩ := (show ∃ t, w = Value.int i t from rz)
      exact ⟨hi, .int i, H', I'.tok (s'.toks + 1), ⟨_, rfl⟩, qz⟩
    | next => exact False.elim hq
    | brk => exact False.elim hq
    | cont => exact False.elim hq
end
section
variable {K : PySem.W.Frag} {H : Hp} {Q : VK} {C a dx : Addr} {fs : List (Str × V)} {sp : Sp} {E : XK} {y : V} {i : Int}
theorem w_ownO {b dy : Addr} {gs : List (Str × V)} (ha : H a = some (.ins C dx fs)) (hb : H b = some (.ins C dy gs)) (q : sp [.ref a, .ref b] H Q E) : rOwn C sp E (.ref a) (.ref b) H Q := ⟨a, dx, fs, rfl, ha, .own hb, q⟩
theorem w_lenO (ha : H a = some (.ins C dx fs)) (q : sp [.ref a] H (fun z H' => ∃ i, z = .int i ∧ (0 ≤ i ∧ i < 2 ^ 63) ∧ Q (.int i) H') E) : cLenO C sp E [.ref a] H Q := ⟨a, dx, fs, rfl, ha, q⟩
end
end Rv
namespace Rv
open PySem PySem.Spec PyProof.Rows L2
structure Red (n d t b : Int) : Prop where
  eq : t * d = n * b
  pos : 0 < b
  low : Int.gcd t b = 1
  le : b ≤ d
  lt : t.natAbs ≤ n.natAbs
theorem red_gcd {n d : Int} (hd : 0 < d) : Red n d (n / (Int.gcd n d : Int)) (d / (Int.gcd n d : Int)) := by
  have g0 : 0 < Int.gcd n d := Int.gcd_pos_iff.mpr (.inr (by omega))
  have g1 : (0 : Int) < (Int.gcd n d : Int) := by omega
  obtain ⟨x, hx⟩ := Int.gcd_dvd_left (a := n) (b := d)
  obtain ⟨y, hy⟩ := Int.gcd_dvd_right (a := n) (b := d)
  have low : Int.gcd x y = 1 := by
    have e : Int.gcd n d = Int.gcd n d * Int.gcd x y := by
      have q := Int.gcd_mul_left (Int.gcd n d : Int) x y
      rw [← hx, ← hy, Int.natAbs_natCast] at q
      exact q
    exact Nat.eq_of_mul_eq_mul_left g0 (by omega)
  have ex : n / (Int.gcd n d : Int) = x := by
    have q := Int.mul_ediv_cancel_left x (show (Int.gcd n d : Int) ≠ 0 by omega)
    rw [← hx] at q
    exact q
  have ey : d / (Int.gcd n d : Int) = y := by
    have q := Int.mul_ediv_cancel_left y (show (Int.gcd n d : Int) ≠ 0 by omega)
    rw [← hy] at q
    exact q
  rw [ex, ey]
  have py : 0 < y := by
    by_cases h : 0 < y
    · exact h
    · have : (Int.gcd n d : Int) * y ≤ 0 := Int.mul_nonpos_of_nonneg_of_nonpos (by omega) (by omega)
      omega
  generalize hg : Int.gcd n d = g at *
  refine ⟨?_, py, low, ?_, ?_⟩
  · rw [hx, hy]
    rw [show x * ((g : Int) * y) = (g : Int) * x * y by rw [Int.mul_left_comm, Int.mul_assoc]]
  · rw [hy]
    have := Int.mul_le_mul_of_nonneg_right (show (1 : Int) ≤ g by omega) (show 0 ≤ y by omega)
    omega
  · rw [hx, Int.natAbs_mul, Int.natAbs_natCast]
    exact Nat.le_mul_of_pos_left _ g0
theorem gcd_step {a b : Int} (hb : 0 < b) (ha : 0 ≤ a) : Int.gcd b (a % b) = Int.gcd a b := by
  have e : a = (a.natAbs : Int) := by omega
  have f : b = (b.natAbs : Int) := by omega
  rw [Int.gcd_comm a b, e, f, ← Int.natCast_emod]
  show Nat.gcd _ _ = Nat.gcd _ _
  simp only [Int.natAbs_natCast]
  rw [Nat.gcd_comm b.natAbs (a.natAbs % b.natAbs), ← Nat.gcd_rec]
def Sz (k : Nat) (z : Int) : Prop := z.natAbs < 2 ^ k
theorem Sz.mono {j k : Nat} {z : Int} (h : Sz j z) (e : j ≤ k) : Sz k z := Nat.lt_of_lt_of_le h (Nat.pow_le_pow_right (by decide) e)
theorem Sz.mul {j k : Nat} {x y : Int} (h : Sz j x) (g : Sz k y) : Sz (j + k) (x * y) := by
  unfold Sz at *
  rw [Int.natAbs_mul, Nat.pow_add]
  exact Nat.mul_lt_mul'' h g
theorem Red.one {n t b : Int} (r : Red n 1 t b) : t = n ∧ b = 1 := by
  have h1 := r.pos
  have h2 := r.le
  have e : b = 1 := by omega
  have h3 := r.eq
  subst e
  omega
/-! fractions in the heap -/
def rfl2 (t b : Int) : List (Str × V) := putF "reduced_bottom" (.int b) (putF "reduced_top" (.int t) [])
theorem n_tb : ¬ (("reduced_top" : Str) = "reduced_bottom") := by decide +kernel
theorem rfl2_t (t b : Int) : (rfl2 t b).lookup ("reduced_top" : Str) = some (.int t) := by
  unfold rfl2
  rw [lookup_putF, if_neg n_tb, lookup_putF, if_pos rfl]
theorem rfl2_b (t b : Int) : (rfl2 t b).lookup ("reduced_bottom" : Str) = some (.int b) := by
  unfold rfl2
  rw [lookup_putF, if_pos rfl]
/-- a Ratio t / b in lowest terms stands at p -/
def RatAt (C : Addr) (H : Hp) (p : Addr) (t b : Int) : Prop := (0 < b ∧ Int.gcd t b = 1) ∧ ∃ dx, H p = some (.ins C dx (rfl2 t b))
theorem RatAt.same {C : Addr} {H H' : Hp} {p : Addr} {t b : Int} (h : RatAt C H p t b) (e : Same H H') : RatAt C H' p t b := by
  obtain ⟨l, dx, h1⟩ := h
  exact ⟨l, dx, e _ _ h1⟩
/-- a number: an int or a Ratio -/
def Num (C : Addr) (H : Hp) (v : V) (n d : Int) : Prop := (v = .int n ∧ d = 1) ∨ ∃ p, v = .ref p ∧ RatAt C H p n d
theorem Num.same {C : Addr} {H H' : Hp} {v : V} {n d : Int} (h : Num C H v n d) (e : Same H H') : Num C H' v n d := by
  rcases h with h | ⟨p, h1, h2⟩
  · exact .inl h
  · exact .inr ⟨p, h1, h2.same e⟩
theorem Num.pos {C : Addr} {H : Hp} {v : V} {n d : Int} (h : Num C H v n d) : 0 < d := by
  rcases h with ⟨_, h⟩ | ⟨p, _, h, _⟩
  · omega
  · exact h.1
/-- what is told of the class Ratio -/
structure RCls (K : PySem.W.Frag) (C : Addr) : Prop where
  cl : Cls K C
  nT : NoAttr K C "reduced_top"
  nB : NoAttr K C "reduced_bottom"
  cA : PySem.W.findIn K (.ref C) "__class__" = some (some (.builtin "object.__class__"))
  cG : PySem.W.specialIn K (.builtin "object.__class__") "__get__" = some (some (.builtin "getset_descriptor.__get__"))
  cT : PySem.W.takesIn K (.builtin "object.__class__") = some true
  cM : PySem.W.mroIn K C (.type "object") = some true
  ki : PySem.W.kitOne K (.type "int") (.ref C) = some false
def spPLen (K : PySem.W.Frag) (C : Addr) : Sp := fun vs H Q _ => ∃ p hs ws, vs = [.ref p] ∧ PCls K C ∧ ProfAt K C H p hs ws ∧ Q (.int (hs.length : Int)) H
def spGcd (K : PySem.W.Frag) : Sp := fun vs H Q _ => ∃ a b : Int, vs = [.int a, .int b] ∧ 0 ≤ a ∧ 0 ≤ b ∧ Q (.int (Int.gcd a b : Int)) H
def spRInit (K : PySem.W.Frag) (C : Addr) : Sp := fun vs H Q _ => ∃ p dx n d, vs = [.ref p, .int n, .int d] ∧ RCls K C ∧ H p = some (.ins C dx []) ∧ 0 < d ∧ Sz 8000 d ∧
  ∀ H' t b, Red n d t b → RatAt C H' p t b → (∀ c o, c ≠ p → H c = some o → H' c = some o) → Q .non H'
def spGap (K : PySem.W.Frag) (C : Addr) : Sp := fun vs H Q _ => ∃ a c t b n d, vs = [.ref a, .ref c] ∧ RCls K C ∧ RatAt C H a t b ∧ RatAt C H c n d ∧ Sz 4000 t ∧ Sz 4000 b ∧ Sz 4000 n ∧ Sz 4000 d ∧ Q (.int (t * d - n * b)) H
def spAsR (K : PySem.W.Frag) (C : Addr) : Sp := fun vs H Q _ => ∃ v n d, vs = [v] ∧ RCls K C ∧ Num C H v n d ∧ ∀ q H', Same H H' → RatAt C H' q n d → Q (.ref q) H'
def spBin (f : Int → Int → Int → Int → Int) (K : PySem.W.Frag) (C : Addr) : Sp := fun vs H Q _ => ∃ a v t b n d, vs = [.ref a, v] ∧ RCls K C ∧ RatAt C H a t b ∧ Num C H v n d ∧ Sz 3000 t ∧ Sz 3000 b ∧ Sz 3000 n ∧ Sz 3000 d ∧
  ∀ q H' x y, Same H H' → RatAt C H' q x y → Red (f t b n d) (b * d) x y → Q (.ref q) H'
def spSub : PySem.W.Frag → Addr → Sp := spBin fun t b n d => t * d - n * b
def spCmp (f : Int → Bool) (K : PySem.W.Frag) (C : Addr) : Sp := fun vs H Q _ => ∃ a v t b n d, vs = [.ref a, v] ∧ RCls K C ∧ RatAt C H a t b ∧ Num C H v n d ∧ Sz 3000 t ∧ Sz 3000 b ∧ Sz 3000 n ∧ Sz 3000 d ∧
  ∀ H', Same H H' → Q (.bl (f (t * d - n * b))) H'
def spGt : PySem.W.Frag → Addr → Sp := spCmp fun z => decide (0 < z)
/-- heights and widths of a profile -/
structure PrOk (hs ws : List Int) : Prop where
  pos : 1 ≤ hs.length
  le : hs.length ≤ 60
  eq : ws.length = hs.length
  hh : ∀ z ∈ hs, HOk1 z
  ww : ∀ z ∈ ws, WOk1 z
def hN (hs : List Int) (i : Nat) : Int := (hs[i]?).getD 0
theorem at_hN {hs : List Int} {i : Nat} (h : i < hs.length) : atI (hs.map V.int) (i : Int) = some (.int (hN hs i)) := by
  refine at_nat ?_
  rw [List.getElem?_map]
  unfold hN
  rw [List.getElem?_eq_getElem h]
  rfl
theorem hN_mem {hs : List Int} {i : Nat} (h : i < hs.length) : hN hs i ∈ hs := by
  unfold hN
  rw [List.getElem?_eq_getElem h]
  exact List.getElem_mem h
def t_Profile___len__ (K : PySem.W.Frag) (C_Profile : Addr) : TS :=
  (tRet (tCB (cLen K) (tCons (tFld K (tVar 0) "column_heights") tNil)))
def t_common_divisor (K : PySem.W.Frag) : TS :=
  (tSeq (tWhile (tTest (tOp rNe (tVar 1) (tC (.int 0)))) (tPar 0 1 (tCons (tVar 1) (tCons (tOp oMod (tVar 0) (tVar 1)) tNil))))
    (tRet (tVar 0)))
def t_gap (K : PySem.W.Frag) (C_Ratio : Addr) : TS :=
  (tRet (tOp oSub (tOp oMulW (tFld K (tVar 0) "reduced_top") (tFld K (tVar 1) "reduced_bottom")) (tOp oMulW (tFld K (tVar 1) "reduced_top") (tFld K (tVar 0) "reduced_bottom"))))
def t_Ratio___init__ (K : PySem.W.Frag) (C_Ratio : Addr) : TS :=
  (tSeq (tIfS (tNot (tB (tCall (spWhole K) [] E0 (tCons (tVar 1) tNil)))) tNever tNext)
    (tSeq (tIfS (tOr (tNot (tB (tCall (spWhole K) [] E0 (tCons (tVar 2) tNil)))) (tTest (tOp rEq (tVar 2) (tC (.int 0))))) tNever tNext)
    (tSeq (tAsg (tCall (spGcd K) [] E0 (tCons (tCB cAbs (tCons (tVar 1) tNil)) (tCons (tCB cAbs (tCons (tVar 2) tNil)) tNil))) (gName 3))
    (tSeq (tIfS (tTest (tOp oLt (tVar 2) (tC (.int 0)))) (tAsg (tUn (rU fun i => .int (-i)) (tVar 3)) (gName 3)) tNext)
    (tSeq (sFld K (tVar 0) (tOp oDiv (tVar 1) (tVar 3)) "reduced_top")
    (sFld K (tVar 0) (tOp oDiv (tVar 2) (tVar 3)) "reduced_bottom"))))))
def t_as_ratio (K : PySem.W.Frag) (C_Ratio : Addr) : TS :=
  (tSeq (tIfS (tB (tCB (rIsi K) (tCons (tVar 0) (tCons (tC (.ref C_Ratio)) tNil)))) (tRet (tVar 0)) tNext)
    (tSeq (tIfS (tB (tCall (spWhole K) [] E0 (tCons (tVar 0) tNil))) (tRet (tMake C_Ratio (spRInit K C_Ratio) [.int 1] E0 (tCons (tVar 0) tNil))) tNext)
    (tRet (tC .non))))
def t_Ratio___sub__ (K : PySem.W.Frag) (C_Ratio : Addr) : TS :=
  (tSeq (tAsg (tCall (spAsR K C_Ratio) [] E0 (tCons (tVar 1) tNil)) (gName 2))
    (tSeq (tIfS (tTest (tOp oIsN (tVar 2) (tC .non))) tNever tNext)
    (tRet (tMake C_Ratio (spRInit K C_Ratio) [] E0 (tCons (tCall (spGap K C_Ratio) [] E0 (tCons (tVar 0) (tCons (tVar 2) tNil))) (tCons (tOp oMulW (tFld K (tVar 0) "reduced_bottom") (tFld K (tVar 2) "reduced_bottom")) tNil))))))
def t_Ratio___gt__ (K : PySem.W.Frag) (C_Ratio : Addr) : TS :=
  (tSeq (tAsg (tCall (spAsR K C_Ratio) [] E0 (tCons (tVar 1) tNil)) (gName 2))
    (tSeq (tIfS (tTest (tOp oIsN (tVar 2) (tC .non))) tNever tNext)
    (tRet (tOp oGt (tCall (spGap K C_Ratio) [] E0 (tCons (tVar 0) (tCons (tVar 2) tNil))) (tC (.int 0))))))
local macro_rules | `(tactic| walk_at "rv st") => `(tactic| first
  | with_reducible refine iteT ?_ | with_reducible refine iteF ?_ | with_reducible refine w_nx ?_ | with_reducible refine w_yes ?_ | with_reducible refine w_rt ?_ | with_reducible refine iteNT ?_ | with_reducible refine iteNF ?_ | with_reducible refine iteNRf ?_ | with_reducible refine iteRf ?_ | with_reducible refine w_seqA ?_ | with_reducible refine w_seqD ?_ | with_reducible refine w_seqP ?_ | with_reducible refine w_asg ?_ | with_reducible refine w_ret ?_ | with_reducible refine w_drop ?_ | with_reducible refine w_ifs ?_ | with_reducible refine w_next ?_ | with_reducible refine w_par ?_
  | with_reducible refine w_op ?_ | with_reducible refine w_un ?_ | ((with_reducible show tVar _ _ _ _); refine' w_var ?hv ?_; (case hv => exact rfl)) | with_reducible refine w_c ?_ | with_reducible refine w_test ?_ | with_reducible refine w_tB ?_
  | with_reducible refine w_bl ?_ | with_reducible refine w_I0 ?_ | with_reducible refine w_U ?_ | with_reducible refine w_eqI ?_ | with_reducible refine w_neI ?_
  | with_reducible refine w_cons ?_ | with_reducible refine w_nil ?_ | with_reducible refine w_gn ?_ | with_reducible refine w_gsub ?_ | with_reducible refine w_and ?_ | with_reducible refine w_or ?_ | with_reducible refine w_not ?_
  | with_reducible refine w_andV ?_ | with_reducible refine w_orV ?_ | with_reducible refine w_notV ?_ | with_reducible refine w_if ?_ | with_reducible refine w_cb ?_ | with_reducible refine w_call ?_ | with_reducible refine w_lst ?_ | with_reducible refine w_tup ?_
  | with_reducible refine w_sl ?_ | with_reducible refine w_noPart ?_ | with_reducible refine w_part ?_ | with_reducible refine w_ex1 ?_ | with_reducible refine w_exb ?_ | with_reducible refine w_intB ?_ | with_reducible refine w_intI ?_ | with_reducible refine w_abs ?_)
local macro_rules | `(tactic| walk_at "rv ix") => `(tactic| ((with_reducible show rIxL _ _ _ _ _); refine' w_ixL (sq_lst ?ha) ?hb ?_; (case ha => first | exact upd_same | assumption); (case hb => first | exact rfl | assumption)))
local macro_rules | `(tactic| walk_at "rv ar") => `(tactic| first
  | (refine' w_I ?hc ?_; (case hc => first | (show (0 : Int) < _; first | assumption | decide | omega) | exact pow_c (by decide) (by decide) (by first | decide | omega) (by first | decide | omega) | exact mul_r (by first | decide | omega) (by first | decide | omega) | exact mul_l (by first | decide | omega) (by first | decide | omega) | exact divw (by first | assumption | decide | omega) (by first | assumption | decide | omega))))
local macro_rules | `(tactic| walk_at "rv go") => `(tactic| repeat first | walk_at "rv st" | walk_at "rv ix" | ((with_reducible show rI _ _ _ _ _ _); walk_at "rv ar"))
theorem whole_call {K : PySem.W.Frag} {H : Hp} {Q : VK} {E : XK} {i : Int} (q : Q (.bl true) H) : spWhole K ([.int i] ++ []) H Q E := ⟨.int i, rfl, .int i, q⟩
theorem mulw {j k : Nat} {x y : Int} (h : Sz j x) (g : Sz k y) (h0 : 0 < j) (h1 : 0 < k) (h2 : j + k ≤ 1000000) : CMulW x y := wide_mul h g h0 h1 h2
theorem p_plen {K : PySem.W.Frag} {C : Addr} {vs : List V} {H : Hp} {Q : VK} {E : XK} (h : spPLen K C vs H Q E) : t_Profile___len__ K C { nx := fun _ H' => Q .non H', rt := Q } (start ["self"] vs) H := by
  obtain ⟨p, hs, ws, rfl, P, ⟨dx, t1, t2, hp, h1, h2⟩, k⟩ := h
  unfold t_Profile___len__
  walk_at "rv go"
  refine w_fld rfl hp P.cl P.nH (pfl_h _ _) ?_
  walk_at "rv go"
  refine w_lenT (sq_tup h1) ?_
  rw [List.length_map]
  exact k
theorem p_gcd {K : PySem.W.Frag} {vs : List V} {H : Hp} {Q : VK} {E : XK} (h : spGcd K vs H Q E) : t_common_divisor K { nx := fun _ H' => Q .non H', rt := Q } (start ["first", "second"] vs) H := by
  obtain ⟨a, b, rfl, ha, hb, k⟩ := h
  unfold t_common_divisor
  refine w_seq ?_
  refine w_while (fun m σ' H' => ∃ x y : Int, σ' = [some (.int x), some (.int y)] ∧ 0 ≤ x ∧ 0 ≤ y ∧ m = y.toNat ∧ Int.gcd x y = Int.gcd a b ∧ H' = H) (m := b.toNat) ⟨a, b, rfl, ha, hb, rfl, rfl, rfl⟩ ?_
  rintro m σ' H' ⟨x, y, rfl, hx, hy, rfl, e, rfl⟩
  walk_at "rv go"
  refine w_bothN (fun h1 => ?_) (fun h1 => ?_)
  · refine w_turn ?_
    have y0 : 0 < y := by omega
    have z1 := Int.emod_lt_of_pos x y0
    have z2 := Int.emod_nonneg x (show y ≠ 0 by omega)
    walk_at "rv go"
    refine ⟨_, _, rfl, ?_⟩
    exact ⟨(x % y).toNat, by omega, y, x % y, rfl, hy, z2, rfl, by rw [gcd_step y0 hx]; exact e, rfl⟩
  · subst h1
    walk_at "rv go"
    rw [← e, Int.gcd_zero_right] at k
    have e2 : ((x.natAbs : Nat) : Int) = x := by omega
    rw [e2] at k
    exact k
theorem p_gap {K : PySem.W.Frag} {C : Addr} {vs : List V} {H : Hp} {Q : VK} {E : XK} (h : spGap K C vs H Q E) : t_gap K C { nx := fun _ H' => Q .non H', rt := Q } (start ["left", "right"] vs) H := by
  obtain ⟨a, c, t, b, n, d, rfl, R, ⟨l1, dx, h1⟩, ⟨l2, dy, h2⟩, s1, s2, s3, s4, k⟩ := h
  unfold t_gap
  walk_at "rv go"
  refine w_fld rfl h1 R.cl R.nT (rfl2_t _ _) ?_
  refine w_fld rfl h2 R.cl R.nB (rfl2_b _ _) ?_
  refine w_I (mulw s1 s4 (by decide) (by decide) (by decide)) ?_
  walk_at "rv go"
  refine w_fld rfl h2 R.cl R.nT (rfl2_t _ _) ?_
  refine w_fld rfl h1 R.cl R.nB (rfl2_b _ _) ?_
  refine w_I (mulw s3 s2 (by decide) (by decide) (by decide)) ?_
  walk_at "rv go"
  exact k
theorem p_rinit {K : PySem.W.Frag} {C : Addr} {vs : List V} {H : Hp} {Q : VK} {E : XK} (h : spRInit K C vs H Q E) : t_Ratio___init__ K C { nx := fun _ H' => Q .non H', rt := Q } (start ["self", "numerator", "denominator", "divisor"] vs) H := by
  obtain ⟨p, dx, n, d, rfl, R, hp, hd, sd, k⟩ := h
  unfold t_Ratio___init__
  refine w_seq ?_
  walk_at "rv go"
  refine whole_call ?_
  walk_at "rv go"
  refine w_seq ?_
  walk_at "rv go"
  refine whole_call ?_
  walk_at "rv go"
  rw [decide_eq_false (show ¬ d = 0 by omega)]
  walk_at "rv go"
  refine ⟨_, _, rfl, by split <;> omega, by split <;> omega, ?_⟩
  have eg : Int.gcd (if n < 0 then -n else n) (if d < 0 then -d else d) = Int.gcd n d := by
    have e1 : (if n < 0 then -n else n).natAbs = n.natAbs := by split <;> omega
    have e2 : (if d < 0 then -d else d).natAbs = d.natAbs := by split <;> omega
    show Nat.gcd _ _ = Nat.gcd _ _
    rw [e1, e2]
  rw [eg]
  have red := red_gcd (n := n) hd
  have g0 : 0 < Int.gcd n d := Int.gcd_pos_iff.mpr (.inr (by omega))
  have gd : Int.gcd n d ≤ d.natAbs := by
    have := Int.gcd_dvd_right (a := n) (b := d)
    have z := Int.le_of_dvd hd this
    omega
  have sg : Sz 8000 (Int.gcd n d : Int) := by
    unfold Sz at *
    rw [Int.natAbs_natCast]
    omega
  have cd : ∀ z : Int, CDivW z (Int.gcd n d : Int) := fun z => wide_div (b := 8000) (by omega) sg (by decide) (by decide)
  generalize (Int.gcd n d : Int) = g at *
  walk_at "rv go"
  refine w_seq ?_
  walk_at "rv go"
  rw [decide_eq_false (show ¬ d < 0 by omega)]
  walk_at "rv go"
  refine w_seq ?_
  refine w_sfld ?_
  walk_at "rv go"
  refine w_I (cd _) ?_
  walk_at "rv go"
  refine w_put hp R.cl R.nT (by decide) ?_
  refine w_nx ?_
  refine w_sfld ?_
  walk_at "rv go"
  refine w_I (cd _) ?_
  walk_at "rv go"
  refine w_put (fs := putF "reduced_top" (.int (n / g)) []) upd_same R.cl R.nB (by show (1 : Nat) < 1000; decide) ?_
  refine k _ _ _ red ⟨⟨red.pos, red.low⟩, dx, upd_same⟩ fun c o nc hc => ?_
  rw [upd_ne nc, upd_ne nc]
  exact hc
theorem mk_rat {K : PySem.W.Frag} {C : Addr} {H : Hp} {Q : Addr → Hp → Prop} {E : XK} {n d : Int} {us dvs : List V} (hu : us ++ dvs = [.int n, .int d]) (R : RCls K C) (hd : 0 < d) (sd : Sz 8000 d) (k : ∀ x H' t b, Same H H' → Red n d t b → RatAt C H' x t b → Q x H') :
    ∀ x dx, H x = none → H dx = none → dx ≠ x → spRInit K C (.ref x :: (us ++ dvs)) (upd (upd H dx (.own x)) x (.ins C dx [])) (fun v H2 => v = .non ∧ Q x H2) E := by
  intro x dx nx ndx hne
  rw [hu]
  have s0 : Same H (upd (upd H dx (.own x)) x (.ins C dx [])) := fun b o hb => by
    rw [upd_ne (ne_of_none hb nx), upd_ne (ne_of_none hb ndx)]
    exact hb
  exact ⟨x, dx, n, d, rfl, R, upd_same, hd, sd, fun H' t b r hr hf => ⟨rfl, k x H' t b (fun b o hb => hf b o (ne_of_none hb nx) (s0 b o hb)) r hr⟩⟩
theorem sz_one {k : Nat} (h : 1 ≤ k) : Sz k 1 := Nat.lt_of_lt_of_le (show Int.natAbs 1 < 2 ^ 1 by decide) (Nat.pow_le_pow_right (by decide) h)
theorem p_asR {K : PySem.W.Frag} {C : Addr} {vs : List V} {H : Hp} {Q : VK} {E : XK} (h : spAsR K C vs H Q E) : t_as_ratio K C { nx := fun _ H' => Q .non H', rt := Q } (start ["value"] vs) H := by
  obtain ⟨v, n, d, rfl, R, hv, k⟩ := h
  unfold t_as_ratio
  refine w_seq ?_
  rcases hv with ⟨rfl, rfl⟩ | ⟨p, rfl, hl, dx, hp⟩
  · walk_at "rv go"
    refine isi_of (.own C) (.base (.int n)) R.ki ?_
    walk_at "rv go"
    refine w_seq ?_
    walk_at "rv go"
    refine whole_call ?_
    walk_at "rv go"
    refine w_make ?_
    walk_at "rv go"
    refine mk_rat (Q := fun x H' => Q (.ref x) H') rfl R (by decide) (sz_one (by decide)) fun x H' t b e r hr => ?_
    obtain ⟨rfl, rfl⟩ := r.one
    exact k x H' e hr
  · walk_at "rv go"
    refine isi_of (.own C) (.base (.ins hp R.cl R.cA R.cG R.cT R.cM)) kit_self ?_
    walk_at "rv go"
    exact k p H (Same.refl H) ⟨hl, dx, hp⟩
theorem p_sub {K : PySem.W.Frag} {C : Addr} {vs : List V} {H : Hp} {Q : VK} {E : XK} (h : spSub K C vs H Q E) : t_Ratio___sub__ K C { nx := fun _ H' => Q .non H', rt := Q } (start ["self", "other", "right"] vs) H := by
  obtain ⟨a, v, t, b, n, d, rfl, R, ha, hv, s1, s2, s3, s4, k⟩ := h
  unfold t_Ratio___sub__
  walk_at "rv go"
  refine ⟨v, n, d, rfl, R, hv, fun q H1 e hq => ?_⟩
  have hd := hv.pos
  have ha2 := ha.same e
  obtain ⟨l1, dx, ha⟩ := ha.same e
  have hq2 := hq
  obtain ⟨l2, dy, hq⟩ := hq
  walk_at "rv go"
  refine w_seq ?_
  walk_at "rv go"
  refine ⟨rfl, ?_⟩
  rw [decide_eq_false (show ¬ V.ref q = V.non from fun z => nomatch z)]
  walk_at "rv go"
  refine w_make ?_
  walk_at "rv go"
  refine ⟨a, q, t, b, n, d, rfl, R, ha2, hq2, s1.mono (by decide), s2.mono (by decide), s3.mono (by decide), s4.mono (by decide), ?_⟩
  walk_at "rv go"
  refine w_fld rfl ha R.cl R.nB (rfl2_b _ _) ?_
  refine w_fld rfl hq R.cl R.nB (rfl2_b _ _) ?_
  refine w_I (mulw s2 s4 (by decide) (by decide) (by decide)) ?_
  walk_at "rv go"
  exact mk_rat (Q := fun x H' => Q (.ref x) H') rfl R (Int.mul_pos l1.1 hd) ((s2.mul s4).mono (by decide)) fun x H' y z e2 r hr => k x H' y z (e.trans e2) hr r
theorem p_gt {K : PySem.W.Frag} {C : Addr} {vs : List V} {H : Hp} {Q : VK} {E : XK} (h : spGt K C vs H Q E) : t_Ratio___gt__ K C { nx := fun _ H' => Q .non H', rt := Q } (start ["self", "other", "right"] vs) H := by
  obtain ⟨a, v, t, b, n, d, rfl, R, ha, hv, s1, s2, s3, s4, k⟩ := h
  unfold t_Ratio___gt__
  walk_at "rv go"
  refine ⟨v, n, d, rfl, R, hv, fun q H1 e hq => ?_⟩
  walk_at "rv go"
  refine w_seq ?_
  walk_at "rv go"
  refine ⟨rfl, ?_⟩
  rw [decide_eq_false (show ¬ V.ref q = V.non from fun z => nomatch z)]
  walk_at "rv go"
  refine ⟨a, q, t, b, n, d, rfl, R, ha.same e, hq, s1.mono (by decide), s2.mono (by decide), s3.mono (by decide), s4.mono (by decide), ?_⟩
  walk_at "rv go"
  exact k H1 e
end Rv
/-! The head's tests of the classes Profile and Ratio. -/
namespace Rv
open PySem PySem.Spec PyProof.Rows L2
theorem pcls_of {K : PySem.W.Frag} (k : Cls K (He.ga K "Profile")) (nH : NoAttr K (He.ga K "Profile") "column_heights") (nW : NoAttr K (He.ga K "Profile") "column_widths") (h : clB K "Profile" = true) : PCls K (He.ga K "Profile") := by
  obtain ⟨h1, h⟩ := He.ba h
  obtain ⟨h2, h⟩ := He.ba h
  obtain ⟨h3, h4⟩ := He.ba h
  exact ⟨k, nH, nW, He.eqO_ok h1, He.eqO_ok h2, of_decide_eq_true h3, of_decide_eq_true h4⟩
def kiB (K : PySem.W.Frag) (x : Str) : Bool := decide (PySem.W.kitOne K (.type "int") (.ref (He.ga K x)) = some false)
theorem rcls_of {K : PySem.W.Frag} (k : Cls K (He.ga K "Ratio")) (nT : NoAttr K (He.ga K "Ratio") "reduced_top") (nB : NoAttr K (He.ga K "Ratio") "reduced_bottom") (h : clB K "Ratio" = true) (h5 : kiB K "Ratio" = true) : RCls K (He.ga K "Ratio") := by
  obtain ⟨h1, h⟩ := He.ba h
  obtain ⟨h2, h⟩ := He.ba h
  obtain ⟨h3, h4⟩ := He.ba h
  exact ⟨k, nT, nB, He.eqO_ok h1, He.eqO_ok h2, of_decide_eq_true h3, of_decide_eq_true h4, of_decide_eq_true h5⟩
def opcB (K : PySem.W.Frag) (x : Str) : Bool := PySem.W.notFirst K (He.ga K x) (.type "int") && (PySem.W.selfFirst K (He.ga K x) && decide (PySem.W.subIn K (.type "int") (.ref (He.ga K x)) = some false))
theorem opc_of {K : PySem.W.Frag} {x : Str} (h : opcB K x = true) : OpC K (He.ga K x) := by
  obtain ⟨h1, h⟩ := He.ba h
  obtain ⟨h2, h3⟩ := He.ba h
  exact ⟨h1, h2, of_decide_eq_true h3⟩
end Rv
namespace Rv
open PySem PySem.Spec PyProof.Rows L2
local macro_rules | `(tactic| walk_at "rv st") => `(tactic| first
  | with_reducible refine iteT ?_ | with_reducible refine iteF ?_ | with_reducible refine w_nx ?_ | with_reducible refine w_yes ?_ | with_reducible refine w_rt ?_ | with_reducible refine iteNT ?_ | with_reducible refine iteNF ?_ | with_reducible refine iteNRf ?_ | with_reducible refine iteRf ?_ | with_reducible refine w_seqA ?_ | with_reducible refine w_seqD ?_ | with_reducible refine w_seqP ?_ | with_reducible refine w_asg ?_ | with_reducible refine w_ret ?_ | with_reducible refine w_drop ?_ | with_reducible refine w_ifs ?_ | with_reducible refine w_next ?_ | with_reducible refine w_par ?_
  | with_reducible refine w_op ?_ | with_reducible refine w_un ?_ | ((with_reducible show tVar _ _ _ _); refine' w_var ?hv ?_; (case hv => exact rfl)) | with_reducible refine w_c ?_ | with_reducible refine w_test ?_ | with_reducible refine w_tB ?_
  | with_reducible refine w_bl ?_ | with_reducible refine w_I0 ?_ | with_reducible refine w_U ?_ | with_reducible refine w_eqI ?_ | with_reducible refine w_neI ?_
  | with_reducible refine w_cons ?_ | with_reducible refine w_nil ?_ | with_reducible refine w_gn ?_ | with_reducible refine w_gsub ?_ | with_reducible refine w_and ?_ | with_reducible refine w_or ?_ | with_reducible refine w_not ?_
  | with_reducible refine w_andV ?_ | with_reducible refine w_orV ?_ | with_reducible refine w_notV ?_ | with_reducible refine w_if ?_ | with_reducible refine w_cb ?_ | with_reducible refine w_call ?_ | with_reducible refine w_lst ?_ | with_reducible refine w_tup ?_
  | with_reducible refine w_sl ?_ | with_reducible refine w_noPart ?_ | with_reducible refine w_part ?_ | with_reducible refine w_ex1 ?_ | with_reducible refine w_exb ?_ | with_reducible refine w_intB ?_ | with_reducible refine w_intI ?_ | with_reducible refine w_abs ?_)
local macro_rules | `(tactic| walk_at "rv ix") => `(tactic| ((with_reducible show rIxL _ _ _ _ _); refine' w_ixL (sq_lst ?ha) ?hb ?_; (case ha => first | exact upd_same | assumption); (case hb => first | exact rfl | assumption)))
local macro_rules | `(tactic| walk_at "rv ar") => `(tactic| first
  | (refine' w_I ?hc ?_; (case hc => first | (show (0 : Int) < _; first | assumption | decide | omega) | exact pow_c (by decide) (by decide) (by first | decide | omega) (by first | decide | omega) | exact mul_r (by first | decide | omega) (by first | decide | omega) | exact mul_l (by first | decide | omega) (by first | decide | omega) | exact divw (by first | assumption | decide | omega) (by first | assumption | decide | omega))))
local macro_rules | `(tactic| walk_at "rv go") => `(tactic| repeat first | walk_at "rv st" | walk_at "rv ix" | ((with_reducible show rI _ _ _ _ _ _); walk_at "rv ar"))
theorem sz_lit {z : Int} {M k : Nat} (h : z.natAbs ≤ M) (e : M < 2 ^ k := by decide) : Sz k z := Nat.lt_of_le_of_lt h e
theorem hok_sz {z : Int} (h : HOk1 z) : z.natAbs ≤ 1000000000000000000000000000000 := by
  have h1 := h.1
  have h2 := h.2
  omega
theorem wok_sz {z : Int} (h : WOk1 z) : z.natAbs ≤ 1000000000000000000000000000000 := by
  have h1 := h.1
  have h2 := h.2
  omega
end Rv
namespace Rv
open PySem PySem.Spec PyProof.Rows L2
theorem mk_profR {K : PySem.W.Frag} {C : Addr} {H : Hp} {Q : Addr → Hp → Prop} {E : XK} {a : Addr} {wv : V} {us dvs : List V} {hs ws : List Int} (hu : us ++ dvs = [.ref a, wv]) (P : PCls K C) (ha : RowAt K H a (hs.map V.int)) (h1 : 1 ≤ hs.length) (h60 : hs.length ≤ 60) (hok : ∀ z ∈ hs, HOk1 z)
    (hw : (wv = .non ∧ ws = List.replicate hs.length 1) ∨ ∃ b, wv = .ref b ∧ RowAt K H b (ws.map V.int) ∧ ws.length = hs.length ∧ ∀ z ∈ ws, WOk1 z) (k : ∀ x H', H x = none → Same H H' → ProfAt K C H' x hs ws → Q x H') :
    ∀ x dx, H x = none → H dx = none → dx ≠ x → spInit K C (.ref x :: (us ++ dvs)) (upd (upd H dx (.own x)) x (.ins C dx [])) (fun v H2 => v = .non ∧ Q x H2) E := by
  intro x dx nx ndx hne
  rw [hu]
  have s0 : Same H (upd (upd H dx (.own x)) x (.ins C dx [])) := fun b o hb => by
    rw [upd_ne (ne_of_none hb nx), upd_ne (ne_of_none hb ndx)]
    exact hb
  refine ⟨x, dx, a, wv, hs, ws, rfl, P, upd_same, ha.same s0, h1, h60, hok, ?_, fun H' hp hf => ⟨rfl, k x H' nx (fun b o hb => hf b o (ne_of_none hb nx) (s0 b o hb)) hp⟩⟩
  rcases hw with h | ⟨b, h1, h2, h3⟩
  · exact .inl h
  · exact .inr ⟨b, h1, h2.same s0, h3⟩
local macro_rules | `(tactic| walk_at "rv st") => `(tactic| first
  | with_reducible refine iteT ?_ | with_reducible refine iteF ?_ | with_reducible refine w_nx ?_ | with_reducible refine w_yes ?_ | with_reducible refine w_rt ?_ | with_reducible refine iteNT ?_ | with_reducible refine iteNF ?_ | with_reducible refine iteNRf ?_ | with_reducible refine iteRf ?_ | with_reducible refine w_seqA ?_ | with_reducible refine w_seqD ?_ | with_reducible refine w_seqP ?_ | with_reducible refine w_asg ?_ | with_reducible refine w_ret ?_ | with_reducible refine w_drop ?_ | with_reducible refine w_ifs ?_ | with_reducible refine w_next ?_ | with_reducible refine w_par ?_
  | with_reducible refine w_op ?_ | with_reducible refine w_un ?_ | ((with_reducible show tVar _ _ _ _); refine' w_var ?hv ?_; (case hv => exact rfl)) | with_reducible refine w_c ?_ | with_reducible refine w_test ?_ | with_reducible refine w_tB ?_
  | with_reducible refine w_bl ?_ | with_reducible refine w_I0 ?_ | with_reducible refine w_U ?_ | with_reducible refine w_eqI ?_ | with_reducible refine w_neI ?_
  | with_reducible refine w_cons ?_ | with_reducible refine w_nil ?_ | with_reducible refine w_gn ?_ | with_reducible refine w_gsub ?_ | with_reducible refine w_and ?_ | with_reducible refine w_or ?_ | with_reducible refine w_not ?_
  | with_reducible refine w_andV ?_ | with_reducible refine w_orV ?_ | with_reducible refine w_notV ?_ | with_reducible refine w_if ?_ | with_reducible refine w_cb ?_ | with_reducible refine w_call ?_ | with_reducible refine w_lst ?_ | with_reducible refine w_tup ?_
  | with_reducible refine w_sl ?_ | with_reducible refine w_noPart ?_ | with_reducible refine w_part ?_ | with_reducible refine w_ex1 ?_ | with_reducible refine w_exb ?_ | with_reducible refine w_intB ?_ | with_reducible refine w_intI ?_ | with_reducible refine w_abs ?_)
local macro_rules | `(tactic| walk_at "rv ix") => `(tactic| ((with_reducible show rIxL _ _ _ _ _); refine' w_ixL (sq_lst ?ha) ?hb ?_; (case ha => first | exact upd_same | assumption); (case hb => first | exact rfl | assumption)))
local macro_rules | `(tactic| walk_at "rv ar") => `(tactic| first
  | (refine' w_I ?hc ?_; (case hc => first | (show (0 : Int) < _; first | assumption | decide | omega) | exact pow_c (by decide) (by decide) (by first | decide | omega) (by first | decide | omega) | exact mul_r (by first | decide | omega) (by first | decide | omega) | exact mul_l (by first | decide | omega) (by first | decide | omega) | exact divw (by first | assumption | decide | omega) (by first | assumption | decide | omega))))
local macro_rules | `(tactic| walk_at "rv go") => `(tactic| repeat first | walk_at "rv st" | walk_at "rv ix" | ((with_reducible show rI _ _ _ _ _ _); walk_at "rv ar"))
end Rv
/-! Calls by keywords alone. -/
namespace Rv
open PySem PySem.Spec PyProof.Rows L2
end Rv
/-! Defs that are run where no guard is under way: what repr of lists and tuples asks. -/
namespace Rv
open PySem PySem.Spec PyProof.Rows L2
/-- a def's promise, told of callers without guards alone -/
structure FnOkG (P : Program) (w : World) (K : PySem.W.Frag) (mg : Str → Option Value) (base : Heap) (CX : CXT) (k : Nat) (f : Addr) (fd : FuncData) (ps : List Str) (sp : Sp) : Prop where
  len : ∀ vs H Q E, sp vs H Q E → vs.length = ps.length
  run : ∀ (A : Around) (outer : List Env) (s : Shared) (H : Hp) (args : Args) (us : List Value) (vs : List V) (Q : VK) (E : XK), A.guards = some [] → Room k A → Env0 P w K mg base A outer s H → BindsTo s fd args (ps.zip us) → Vals vs us → sp vs H Q E →
    codeAny (model P w) A (.call (.ref f) args) (CR CX outer P w H s Q E) s
section
variable {P : Program} {w : World} {K : PySem.W.Frag} {mg : Str → Option Value} {base : Heap} {CX : CXT} {k : Nat} {f : Addr} {fd : FuncData} {N ps : List Str} {sp : Sp} {x qual : Str} {params : Arguments} {body : List Stmt} {scope : Scope} {dvs : List V} {kws : List (Str × V)}
theorem FnOk.g (F : FnOk P w K mg base CX k f fd ps sp) : FnOkG P w K mg base CX k f fd ps sp := ⟨F.len, fun A outer s H args us vs Q E _ => F.run A outer s H args us vs Q E⟩
theorem guards_deeper {A : Around} {env : Env} (h : A.guards = some []) : (A.deeper env).guards = some [] := h
theorem FunD.okG (F : FunD K x qual params body scope dvs kws f fd) (S : FnScope N ps scope) (len : ∀ vs H Q E, sp vs H Q E → vs.length = ps.length)
    (hbody : ∀ (cdv : Value) (A : Around) (outer : List Env) (s : Shared) (H : Hp) (vs : List V) (Q : VK) (E : XK), (A.deeper (envOfC qual scope s.heap.objs.size f cdv)).guards = some [] → Room k (A.deeper (envOfC qual scope s.heap.objs.size f cdv)) → sp vs H Q E →
      ∃ t, PSs (cxOf CX P w K mg base N qual scope f cdv A outer s H E) body t ∧ t { nx := fun _ H' => Q .non H', rt := Q } (start N vs) H) : FnOkG P w K mg base CX (k + 1) f fd ps sp := by
  obtain ⟨oc, od, dV, kV, doc, pm, an, cdv, ct, osl, rfl, lk, hcd, _, _⟩ := F.ex
  refine ⟨len, fun A outer s H args us vs Q E hg hr e0 hb r hsp => ?_⟩
  have hl := len _ _ _ _ hsp
  have KX : K.In s.heap := e0.mod.kin.keeps fun b o e => (e0.bs b o e).1
  have lim : s.heap.NoLimit := e0.mod.nolimit.keeps fun b o e => (e0.bs b o e).1
  have hkind : ∀ y ∈ ps.zip us, scope.names.lookup y.1 = some .local ∨ (scope.names.lookup y.1 = some .cell ∧ ((cellsFrom (s.heap.objs.size + 1) scope.names []).lookup y.1).isSome = true) := by
    rintro ⟨n, v⟩ hy
    rcases S.par n (List.of_mem_zip hy).1 with q | q
    · exact .inl q
    · exact .inr ⟨q, PySem.W.cellsFrom_some _ _ _ (.inl q)⟩
  refine codeAny_call_function hr.depth (KX _ _ lk) rfl S.co S.gen rfl (PySem.W.codeRec_of KX hcd) (hb _ _ _ _ (wpAny_newFunctionEnv_cells S.kind hkind fun env he s1 x1 => ?_))
  subst he
  refine ⟨lim.keeps x1.toInCall.keep, codeAny_func ?_⟩
  obtain ⟨t, ht, hq⟩ := hbody cdv A outer s H vs Q E (guards_deeper hg) (hr.deeper _) hsp
  have I : Inv (cxOf CX P w K mg base N qual scope f cdv A outer s H E) [] (start N vs) H s1 := inv_start S hr.hd e0 hl r x1
  refine wpAny_mono (ht.run [] s1 (start N vs) H _ I hq) (fun fl s' hs => ?_) fun e s' hs => hs
  cases fl with
  | ret u =>
    obtain ⟨v, σ', H', J, rv, q⟩ := hs
    exact ⟨v, H', J.os, J.bare, J.base, J.hok, rv, q⟩
  | next =>
    obtain ⟨σ', H', J, q⟩ := hs
    exact ⟨.non, H', J.os, J.bare, J.base, J.hok, rfl, q⟩
  | brk =>
    obtain ⟨_, _, _, q⟩ := hs
    exact q.elim
  | cont =>
    obtain ⟨_, _, _, q⟩ := hs
    exact q.elim
end
section
variable {X : Cx} {CX : CXT} {k : Nat} {f : Addr} {fd : FuncData} {ps : List Str} {sp : Sp} {dvs : List V} {ds : List Value} {E : XK} {x : Str} {p pos : Pos} {e : Expr} {es : List Expr} {t : TA}
theorem run_fnG {pins : List (Addr × Obj)} {σ : L2.St} {H : Hp} {s : Shared} {Q : VK} {us : List Value} {vs : List V} (F : FnOkG X.prog X.w X.K X.mg X.base CX k f fd ps sp) (hg : X.A.guards = some []) (hr : Room k X.A) (hb : Binds X.K fd ps ds) (hd : Vals dvs ds) (hx : Passes CX X E)
    (I : Inv X pins σ H s) (r : Vals vs us) (h : sp (vs ++ dvs) H Q E) : wpAny (model X.prog X.w) X.A (call (.ref f) us) (EP X pins σ Q) X.xe s := by
  have r2 : Vals (vs ++ dvs) (us ++ ds) := r.append hd
  have hl : (us ++ ds).length = ps.length := by rw [← r2.length]; exact F.len _ _ _ _ h
  refine wpAny_call (codeAny_mono (F.run X.A X.stack s H ⟨us, []⟩ (us ++ ds) (vs ++ dvs) Q E hg hr I.env0 (hb s us I.kIn hl) r2 h) fun r s' hq => ?_)
  cases r with
  | error e => exact hx pins σ H s e s' I hq
  | ok fl =>
    cases fl with
    | ret u => exact I.after hq
    | next => exact hq.elim
    | brk => exact hq.elim
    | cont => exact hq.elim
end
/-- a def of the module whose promise is told of callers without guards -/
structure CalG (P : Program) (w : World) (K : PySem.W.Frag) (mg : Str → Option Value) (base : Heap) (CX : CXT) (k : Nat) (x : Str) (ps : List Str) (sp : Sp) : Prop where
  ex : ∃ f fd, FnOkG P w K mg base CX k f fd ps sp ∧ mg x = some (.ref f) ∧ PySem.W.keepIn K (.ref f) = true ∧ Binds K fd ps []
section
variable {X : Cx} {CX : CXT} {k : Nat} {x : Str} {ps : List Str} {sp : Sp} {E : XK} {p pos : Pos} {e : Expr} {es : List Expr} {t : TA}
theorem pe_calG (c : CalG X.prog X.w X.K X.mg X.base CX k x ps sp) (hgd : X.A.guards = some []) (hr : Room k X.A) (hg : Gl X x) (hx : Passes CX X E) (ha : PA X (e :: es) t) (hdb : (x == ("__debug__" : Str)) = false := by decide)
    (he : starEach (e :: es) X.env = (false, eval e X.env) :: starEach es X.env := by rfl) (hpl : (backTo pos (starEach es X.env)).any (·.1) = false := by rfl) :
    PE X (.Call (.Name x p) (e :: es) [] pos) (tCall sp [] E t) := by
  obtain ⟨f, fd, F, hm, hk, hb⟩ := c.ex
  refine ⟨fun pins s σ H Q I h => ?_⟩
  refine wpAny_Call_Name_kw (ld_glob I hg hm ?_ hdb)
  refine PySem.W.callWith_K (h₀ := X.base) I.ok.mod.kin hk (thn (ha.run pos pins s σ H _ I h) fun us s1 ⟨vs, H1, I1, r, q⟩ => ⟨I1.kIn, ?_⟩) he hpl
  exact run_fnG F hgd hr hb .nil hx I1 r q
end
/-- the law is called where nothing is under way -/
theorem law_callG {P : Program} {w : World} {K : PySem.W.Frag} {mg mb : Str → Option Value} {CX : CXT} {k : Nat} {fa a : Addr} {fd : FuncData} {x : Str} {sp : Sp} {s₁ : Shared} {vs : List Value} {ns : List Int}
    (KX : K.In s₁.heap) (hns : s₁.heap.Ns mainGlobals mg) (hb : s₁.heap.Ns builtinsNs mb) (hbb : ∀ x : Str, x ≠ "__name__" → mb x = bootBuiltins x) (hlim : s₁.heap.NoLimit) (hg : s₁.gens = #[])
    (ha : s₁.heap.get? a = some { cls := .type "list", data := .seq vs.toArray }) (hi : IntsAre vs ns) (hl : ns.length ≤ sizeLine) (hr : Room k callerA)
    (F : ∀ base : Heap, K.In base → base.Ns mainGlobals mg → FnOkG P w K mg base CX k fa fd [x] sp) (hbind : ∀ (s : Shared) (u : Value), BindsTo s fd ⟨[u], []⟩ [(x, u)])
    (hsp : ∀ H : Hp, Only H → SqL K H a (ns.map V.int) → sp [.ref a] H (fun v _ => v = .bl true) fun _ _ _ => False)
    (hCX : ∀ H e s', CX [] H s₁ (fun _ _ _ => False) e s' → False) :
    codeAny (model P w) callerA (.call (.ref fa) ⟨[.ref a], []⟩) (fun r s' => r = .ok (.ret (.bool true)) ∧ OldK s₁.heap s'.heap ∧ s'.os = s₁.os ∧ AllBare s'.gens) s₁ := by
  have rv := vals_ints hi
  have lenV := hi.length
  have core : ∀ H : Hp, Only H → SqL K H a (ns.map V.int) → HOk P w H s₁.heap → (∀ b, H b ≠ none → b = a) → (H a ≠ none → K.lookup a = none) →
      codeAny (model P w) callerA (.call (.ref fa) ⟨[.ref a], []⟩) (fun r s' => r = .ok (.ret (.bool true)) ∧ OldK s₁.heap s'.heap ∧ s'.os = s₁.os ∧ AllBare s'.gens) s₁ := by
    intro H hO hS hok hA hK
    have base_of : ∀ {b : Addr} {o : Obj}, s₁.heap.get? b = some o → H b = none → (hidT s₁.heap H).get? b = some o := fun e n => hidT_get e n
    have noA : ∀ {b : Addr} {o : Obj} {es : Array DictEntry} {ep : Nat}, s₁.heap.get? b = some o → o.data = .dict es ep → H b = none := by
      intro b o es ep e d
      cases q : H b with
      | none => rfl
      | some u =>
        have e' : b = a := hA b (by rw [q]; simp)
        subst e'
        rw [ha] at e
        cases e
        have d' : Data.seq vs.toArray _ = Data.dict es ep := d
        cases d'
    have nsK : ∀ {b : Addr} {m : Str → Option Value}, s₁.heap.Ns b m → (hidT s₁.heap H).Ns b m := fun {b m} ⟨o, es, ep, e, d, r⟩ => ⟨o, es, ep, base_of e (noA e d), d, r⟩
    have hKb : K.In (hidT s₁.heap H) := fun b o e => base_of (KX b o e) (by
      cases q : H b with
      | none => rfl
      | some u =>
        have e' : b = a := hA b (by rw [q]; simp)
        subst e'
        rw [hK (by rw [q]; simp)] at e
        cases e)
    obtain ⟨mc, l1, l2⟩ := hlim
    have hM : Mod K mg (hidT s₁.heap H) := ⟨hKb, nsK hns, ⟨mb, nsK hb, hbb⟩, ⟨mc, nsK l1, l2⟩⟩
    have e0 : Env0 P w K mg (hidT s₁.heap H) callerA [] s₁ H := ⟨rfl, hM, fun b o e => of_hidT e, Nat.le_of_eq (hidT_size _ _), trivial, fun b hb => absurd (show b ∈ ([] : List Addr) from hb) (by simp), hok, .of_eq hg⟩
    refine codeAny_mono ((F _ hKb (nsK hns)).run callerA [] s₁ H ⟨[.ref a], []⟩ [.ref a] [.ref a] _ _ rfl hr e0 (hbind s₁ (.ref a)) (.cons rfl .nil) (hsp H hO hS)) fun r s' h => ?_
    cases r with
    | error e => exact (hCX H e s' h).elim
    | ok fl =>
      cases fl with
      | next => exact h.elim
      | brk => exact h.elim
      | cont => exact h.elim
      | ret u =>
        obtain ⟨v, H', os, bare, un, hok', r', q⟩ := h
        have q' : v = .bl true := q
        subst q'
        obtain rfl : u = Value.bool true := r'
        refine ⟨rfl, OldK.of_keep fun b o e => ?_, os, bare⟩
        cases q : H b with
        | none => exact un.keep b o e q (by intro z; exact absurd (show b ∈ ([] : List Addr) from z) (by simp)) (by simp)
        | some u =>
          rcases hO b with z | ⟨ob, xs, z⟩
          · rw [q] at z
            cases z
          · have z2 := un.frzs b ob _ z
            obtain ⟨e1, _⟩ := hok b _ z
            obtain ⟨e2, _⟩ := hok' b _ z2
            rw [e] at e1
            cases e1
            exact e2
  cases hk : K.lookup a with
  | some o =>
    have e := KX a o hk
    rw [ha] at e
    cases e
    refine core (fun _ => none) (fun _ => .inl rfl) (.inr ⟨_, vs.toArray, _, hk, rfl, rfl, rfl, by rw [List.size_toArray, lenV]; exact hl, by simpa using rv⟩) (fun b u z => by
      have z' : (none : Option HO) = some u := z
      cases z') (fun b z => absurd rfl z) fun z => absurd rfl z
  | none =>
    refine core (fun b => if b = a then some (.frz { cls := .type "list", data := .seq vs.toArray } (.lst (ns.map V.int))) else none) (fun b => ?_) (.inl (.inr ⟨{ cls := .type "list", data := .seq vs.toArray }, if_pos rfl⟩)) (fun b u z => ?_) (fun b z => ?_) fun _ => hk
    · by_cases hb : b = a
      · exact .inr ⟨_, _, if_pos hb⟩
      · exact .inl (if_neg hb)
    · by_cases hb : b = a
      · have z' := (if_pos hb).symm.trans z
        cases z'
        subst hb
        exact ⟨ha, by rw [List.length_map]; exact hl, vs, _, rv, ha⟩
      · have z' := (if_neg hb).symm.trans z
        cases z'
    · by_cases hb : b = a
      · exact hb
      · exact absurd (if_neg hb) z
theorem walk_ofG {l : PySem.W.OpenLaw} {n k : Nat} {q : Program} {loose : List Str} {XP : (Str → Option Value) → Heap → Prop} {YP : World → Heap → Prop} {d : DefRec} {CX : CXT} {x : Str}
    (hn : l.most = some n) (hn2 : n ≤ sizeLine) (hdf : d.params.defaults = []) (hr : Room k callerA)
    (F : ∀ (w : World) (mg : Str → Option Value) (fa : Addr) (h : Heap), YP w h → h.Ns mainGlobals mg → mg d.name = some (.ref fa) →
      ∃ (K : PySem.W.Frag) (fd : FuncData) (sp : Sp), K.In h ∧ (∀ (s : Shared) (u : Value), BindsTo s fd ⟨[u], []⟩ [(x, u)]) ∧
        (∀ (H : Hp) (a : Addr) (ns : List Int), ns.length ≤ n → Only H → SqL K H a (ns.map V.int) → sp [.ref a] H (fun v _ => v = .bl true) fun _ _ _ => False) ∧
        ∀ base : Heap, K.In base → base.Ns mainGlobals mg → FnOkG l.prog w K mg base CX k fa fd [x] sp)
    (hCX : ∀ (H : Hp) (s : Shared) (e : Value) (s' : Shared), CX [] H s (fun _ _ _ => False) e s' → False) :
    PySem.W.WalkO q loose XP YP l.row.toRowW d [] (fun f vs => PySem.call f vs) := by
  refine Att.attach_call hn hdf fun w s₀ s₁ mg mb fa o pm cd doc a vs ns G Y ho hd hcd hmg hobj hints hlen hg => ?_
  obtain ⟨K, fd, sp, KX, hb, hsp, hF⟩ := F w mg fa _ Y G.T.g hmg
  exact law_callG KX G.T.g G.T.b G.T.builtins G.T.nolimit hg hobj hints (Nat.le_trans hlen hn2) hr hF hb (fun H hO hS => hsp H a ns hlen hO hS) fun H e s' => hCX H s₁ e s'
end Rv
/-! Texts of lists of ints, and of own instances whose def makes a text. -/
namespace Rv
open PySem PySem.Spec PyProof.Rows L2
theorem sizeLine_big : 200000 ≤ sizeLine := by decide
theorem small_log {z : Int} (h : z.natAbs < 10 ^ 32) : z.natAbs.log2 < 1920 := by
  by_cases h0 : z.natAbs = 0
  · rw [h0]; decide
  · exact (Nat.log2_lt h0).mpr (Nat.lt_of_lt_of_le h (by decide))
theorem ints_showable : ∀ {zs : List Int}, (∀ z ∈ zs, z.natAbs < 10 ^ 32) → PyData.showableAll (zs.map PyData.int) = true
  | [], _ => by simp [PyData.showableAll]
  | z :: r, h => by
    simp only [List.map_cons, PyData.showableAll, PyData.showable, Bool.and_eq_true, decide_eq_true_eq]
    exact ⟨small_log (h z List.mem_cons_self), ints_showable fun y hy => h y (List.mem_cons_of_mem _ hy)⟩
theorem ints_dict : ∀ zs : List Int, PyData.hasDictAll (zs.map PyData.int) = false
  | [] => by simp [PyData.hasDictAll]
  | z :: r => by simp only [List.map_cons, PyData.hasDictAll, PyData.hasDict, ints_dict r, Bool.or_false]
/-- f'..' of two parts or more -/
def tJoin (ts : List TE) : TE := fun σ H Q => tJs ts Str.empty σ H fun out H1 => Q (.str out) H1
theorem pe_join {X : Cx} {v1 v2 : Expr} {rest : List Expr} {ts : List TE} {pos : Pos} (h : PJ X (v1 :: v2 :: rest) ts) : PE X (.JoinedStr (v1 :: v2 :: rest) pos) (tJoin ts) := pe_joined h
section
variable {σ : L2.St} {H : Hp} {Q : VK} {t te : TE} {ts : List TE} {acc : Str} {R : Str → Hp → Prop}
theorem w_join (q : tJs ts Str.empty σ H fun out H1 => Q (.str out) H1) : tJoin ts σ H Q := q
theorem w_js (q : t σ H fun x H1 => ∃ y : Str, x = .str y ∧ (acc ++ y).length ≤ sizeLine ∧ tJs ts (acc ++ y) σ H1 R) : tJs (t :: ts) acc σ H R := q
end
end Rv
/-! t[::-1] of a tuple. -/
namespace Rv
open PySem PySem.Spec PyProof.Rows L2
end Rv
/-! Comparisons of an int with an instance of an own class: the int declines, the class's own def answers; own comparisons with values of any kind. -/
namespace Rv
open PySem PySem.Spec PyProof.Rows L2
end Rv
/-! Own comparisons with values of any kind, in both orders. -/
namespace Rv
open PySem PySem.Spec PyProof.Rows L2
/-! lowest terms -/
end Rv
/-! != of instances with an own == and no own !=; + of two own instances. -/
namespace PySem.W
open PySem PySem.Spec PyProof.Rows
end PySem.W
namespace Rv
open PySem PySem.Spec PyProof.Rows L2
def rAddO (C : Addr) (sp : Sp) (E : XK) : R2 := fun x y H Q => ∃ a dx fs b dy gs, x = .ref a ∧ H a = some (.ins C dx fs) ∧ y = .ref b ∧ H b = some (.ins C dy gs) ∧ sp [x, y] H Q E
end Rv
/-! Base.__init__(self, ..) where Base is an own class under ValueError that has no __init__ of its own. -/
namespace Rv
open PySem PySem.Spec PyProof.Rows L2
end Rv
/-! Own exceptions under any base of the standard ones: fields set in __init__. -/
namespace Rv
open PySem PySem.W PySem.Calls PyProof.Rows PySem.HandSPX Builtin Builtin.ObjectAttr
section
variable {prog : Program} {w : World} {A : Around} {R : Result → Shared → Prop} {hp : Heap} {g : Array GenState} {dr : Drawn} {t : Nat} {os : OsState}
variable {K : W.Frag} {nm : Str} {tk : Tok} {v : Value} {x C : Addr} {fv : Array Value} {cd : ClassData}
/-- an mro by which a store passes -/
structure Mok (m : List Value) : Prop where
  ps : ∀ self, refuseLoop self "__setattr__" m = pure ()
  ne : m.isEmpty = false
  ob : m.contains (.type "object") = true
theorem set_first (X : K.In hp) (gx : hp.get? x = some { cls := .ref C, data := .fields fv }) (gc : W.clsIn K C = some cd) (m : Mok cd.mro) (gd : cd.hasDict = true) (ga : W.findIn K (.ref C) nm = some none)
    (q : ∀ h2 u dx, (∀ b o, b ≠ x → hp.get? b = some o → h2.get? b = some o) → hp.objs.size ≤ dx → dx ≠ x → h2.get? x = some { cls := .ref C, dict := some dx, data := .fields fv } →
      h2.Ns1 dx (fun y => if y = nm then some v else none) → R (.ok (.ret .none)) ⟨h2, g, dr, u, os⟩) :
    codeAny (model prog w) A (.call (.builtin "object.__setattr__") ⟨[.ref x, .str nm tk, v], []⟩) R ⟨hp, g, dr, t, os⟩ := by
  have J : W.InstAt hp x { cls := .ref C, data := .fields fv } C none := ⟨gx, rfl, rfl, trivial⟩
  have S := F.store_object
  have n0 : x ≠ hp.objs.size := Nat.ne_of_lt (Heap.lt_size gx)
  have inO : W.Looks (model prog w) hp (isInstance (.ref x) (.type "object")) true := J.type.andThen (W.looks_mroIn X (by
    unfold W.mroIn
    rw [gc, Option.bind_some, if_neg (by rw [m.ne]; decide), m.ob]))
  refine codeAny_call_builtin S.slot.plain S.entry (@W.check_slot (model prog w) _ _ ⟨hp, g, dr, t, os⟩ "object.__setattr__" "object" "__setattr__" (.ref x) [.str nm tk, v] [] _ S.kind S.split inO (S.args (.ref x) (.str nm tk) v) ?_)
  have mr : W.Looks (model prog w) hp (mroOf (.ref C)) cd.mro := (W.looks_clsIn X gc).andThen .now
  have tn : W.Looks (model prog w) hp (storeTaker? none) none := .now
  have ck : W.Looks (model prog w) hp (classData C) cd := W.looks_clsIn X gc
  rw [W.osa_eq, refuse_eq]
  refine wpAny_bind (wpAny_bind (J.type.at (wpAny_bind (mr.at ?_))))
  rw [m.ps]
  refine wpAny_pure (wpAny_bind (J.type.at (wpAny_bind ((W.looks_findIn X ga).at (wpAny_bind (tn.at ?_))))))
  show wpAny _ _ (storeInOwnDict (.ref x) (.ref C) (.str nm tk) nm v false) _ _ _
  obtain ⟨z1, z2, z3, z4, z5, z6, z7, z8, z9, z10, z11⟩ := cd
  dsimp only at gd
  subst gd
  unfold storeInOwnDict ownDictForStores
  repeat (first | with_reducible refine HandSPX.store_in_new ?_ ?_ | with_reducible refine wpAny_loadPart_at gx ?_ | with_reducible refine ck.at ?_ | wp_step)
  · exact ⟨_, #[], _, (Heap.get?_update_ne _ _ _ _ n0.symm).trans (Heap.get?_push_at rfl rfl), rfl, fun e he => absurd he (by simp), fun _ => rfl⟩
  · intro h2 u hn hs
    have gx1 : (hp.push { cls := .type "dict", data := .dict #[] }).get? x = some { cls := .ref C, data := .fields fv } := Heap.get?_push_of_some _ gx
    refine q h2 u hp.objs.size (fun b o hb ho => ?_) (Nat.le_refl _) n0.symm ?_ hn
    · have w1 := Heap.get?_push_of_some { cls := .type "dict", data := .dict #[] } ho
      exact ((hs.2 b (Nat.ne_of_lt (Heap.lt_size ho))).trans (Heap.get?_update_ne _ _ _ _ hb)).trans w1
    · exact (hs.2 x n0).trans (Heap.get?_update_self _ gx1 rfl)
end
end Rv
namespace Rv
open PySem PySem.Spec PyProof.Rows L2
/-- an own exception class, directly or not under the standard class B -/
structure OexG (K : PySem.W.Frag) (C : Addr) (B newId initId : String) (bmB : List Value) : Prop where
  bf : ExcBaseFacts B newId initId bmB
  cls : ∃ nm q N bs bm sn sub ab col dd k0 k1 k2 k3 k5, K.lookup C = some (excClassObj nm q C N bs bm true sn sub ab col dd k0 k1 k2 k3 k5 newId) ∧ (∀ Y : String, bm.contains (.type Y) = bmB.contains (.type Y)) ∧ Mok (.ref C :: bm)
  sa : PySem.W.findIn K (.ref C) "__setattr__" = some (some (.builtin "object.__setattr__"))
  exC : PySem.W.subIn K (.ref C) (.type "BaseException") = some true
  tyC : PySem.W.typeIn K (.ref C) = some (.type "type")
  kC : PySem.W.keepIn K (.ref C) = true
/-- B.__init__(self, ..) in such a class: nothing of it is told -/
theorem base_init {X : Cx} {pins : List (Addr × Obj)} {σ : L2.St} {H : Hp} {s : Shared} {a C : Addr} {A : Around} {E : Value → Shared → Prop} {B newId initId : String} {bmB : List Value} {us : List Value} {Q : Value → Shared → Prop} (T : OexG X.K C B newId initId bmB) (I : Inv X pins σ H s)
    (e : H a = some (exo a C none)) (hl : us.length ≤ sizeLine) (h : ∀ s2, Inv X pins σ H s2 → Q .none s2) : wpAny (model X.prog X.w) A (call (.builtin initId) (.ref a :: us)) Q E s := by
  obtain ⟨nm, q, N, bs, bm, sn, sub, ab, col, dd, k0, k1, k2, k3, k5, lk, hT, _⟩ := T.cls
  obtain ⟨ta0, ho⟩ := exo_at I.hok e
  obtain ⟨hp, g, d, t, os⟩ := s
  refine wpAny_call (PySem.HandSPX.init_base T.bf hT (I.kIn _ _ lk) ho hl fun h2 t2 kk hx => ?_)
  have J := I.write (t' := t) (x := a) (e := a) (o := exo a C none) (by rw [e]; exact True.intro) (.inl rfl) kk ⟨_, hx⟩ (exo_ok hx)
  have same : upd H a (exo a C none) = H := by
    funext b
    by_cases z : b = a
    · rw [z, upd_same, e]
    · rw [upd_ne z]
  rw [same] at J
  exact h _ J
theorem mok_ref {C : Addr} {m : List Value} (h : Mok m) : Mok (.ref C :: m) := ⟨fun self => by rw [refuseLoop_ref]; exact h.ps self, rfl, by rw [List.contains_cons, h.ob, Bool.or_true]⟩
theorem mok_ve : Mok [.type "ValueError", .type "Exception", .type "BaseException", .type "object"] := ⟨fun self => F.store_ValueError.passes self, rfl, by decide +kernel⟩
theorem mok_oe : Mok [.type "OverflowError", .type "ArithmeticError", .type "Exception", .type "BaseException", .type "object"] := ⟨fun self => F.store_OverflowError.passes self, rfl, by decide +kernel⟩
theorem mok_ie : Mok [.type "IndexError", .type "LookupError", .type "Exception", .type "BaseException", .type "object"] := ⟨fun self => F.store_IndexError.passes self, rfl, by decide +kernel⟩
section
variable {X : Cx} {pins : List (Addr × Obj)} {σ : L2.St} {H : Hp} {s : Shared} {a C : Addr} {f : Str} {y : V} {u : Value} {Q : Unit → Shared → Prop} {E : Value → Shared → Prop} {A : Around} {B newId initId : String} {bmB : List Value}
/-- self.f = y, the first field -/
theorem first_field (T : OexG X.K C B newId initId bmB) (I : Inv X pins σ H s) (e : H a = some (exo a C none)) (no : PySem.W.findIn X.K (.ref C) f = some none) (ry : RelV y u)
    (h : ∀ dx s2, H dx = none → dx ≠ a → Inv X pins σ (upd (upd H dx (exd dx [(f, y)])) a (exo a C (some dx))) s2 → Q () s2) : wpAny (model X.prog X.w) A (setAttr (.ref a) f u) Q E s := by
  obtain ⟨nm, q, N, bs, bm, sn, sub, ab, col, dd, k0, k1, k2, k3, k5, lk, _, mk⟩ := T.cls
  have ci : PySem.W.clsIn X.K C = some { name := nm, bases := bs, mro := .ref C :: bm, ns := N, qualname := q, hasDict := true, slotNames := sn, subclasses := sub, abstract := ab, collection := col, hasDel := false } := by
    unfold PySem.W.clsIn
    rw [lk] <;> rfl
  obtain ⟨ta0, ho⟩ := exo_at I.hok e
  obtain ⟨hp, g, d, t, os⟩ := s
  refine PySem.W.set_plain I.kIn (ox := { cls := .ref C, dict := none, data := .fields #[.ref ta0, .none, .none, .none, .bool false, .none] }) (od := none) ⟨ho, rfl, rfl, trivial⟩ T.sa ?_
  refine set_first I.kIn ho ci mk rfl no fun h2 tk2 dx kk dn dne hx hn => ?_
  have fr : H dx = none := I.hok.fresh dn
  have nd : ∀ {b : Addr} {o : Obj}, hp.get? b = some o → b ≠ dx := fun {b o} z => Nat.ne_of_lt (Nat.lt_of_lt_of_le (Heap.lt_size z) dn)
  have na : ∀ {b : Addr}, H b = none → b ≠ a := fun {b} n z => by
    rw [z, e] at n
    cases n
  have U : Un X.fs [] H (upd (upd H dx (exd dx [(f, y)])) a (exo a C (some dx))) hp h2 := {
    keep := fun b o z n _ _ => kk b o (na n) z
    slot := fun b o z n _ _ => ⟨o.slots, kk b o (na n) z⟩
    free := fun b o z n _ => by
      rw [upd_ne (na n), upd_ne (nd z)]
      exact n
    there := fun b o z _ => by
      by_cases w : b = a
      · exact ⟨_, by rw [w]; exact hx⟩
      · exact ⟨o, kk b o w z⟩
    tups := fun b xs z => by
      rw [upd_ne (at_ne e z exo_tup), upd_ne (ne_of_none z fr)]
      exact z
    frzs := fun b o v z => by
      rw [upd_ne (at_ne e z exo_frz), upd_ne (ne_of_none z fr)]
      exact z
    tbls := fun b ps z => ⟨#[], by rw [upd_ne (at_ne e z exo_tbl), upd_ne (ne_of_none z fr), z]; simp⟩ }
  refine h dx _ fr dne (I.un (t' := tk2) U fun b o z => ?_)
  by_cases w : b = a
  · subst w
    rw [upd_same] at z
    cases z
    exact exo_ok hx
  · rw [upd_ne w] at z
    by_cases w2 : b = dx
    · subst w2
      rw [upd_same] at z
      cases z
      exact exd_ok hn (relO_put (fs := []) ry fun _ => True.intro)
    · rw [upd_ne w2] at z
      refine (I.hok b o z).stay (fun c v c0 zz => kk c v ?_ zz) (fun c c0 => ?_) (fun c xs c0 => ?_)
      · rcases c0 with c0 | c0
        · rw [c0]
          exact w
        · exact at_ne e c0 exo_own
      · rw [upd_ne (at_ne e c0 exo_own), upd_ne (ne_of_none c0 fr)]
        exact c0
      · rw [upd_ne (at_ne e c0 exo_tup), upd_ne (ne_of_none c0 fr)]
        exact c0
end
/-! readings and rules -/
/-- Base.__init__(self, ..) by the standard initId -/
def tBaseI (K : PySem.W.Frag) (C : Addr) (B newId initId : String) (bmB : List Value) (ta : TA) : TE := fun σ H Q => ta σ H fun vs H1 => ∃ (a : Addr) (ws : List V), vs = .ref a :: ws ∧ ws.length ≤ 1000 ∧ OexG K C B newId initId bmB ∧ H1 a = some (exo a C none) ∧ Q .non H1
/-- self.f = e, the first field of it -/
def tFst (K : PySem.W.Frag) (C : Addr) (B newId initId : String) (bmB : List Value) (f : Str) (to te : TE) : TS := fun D σ H => te σ H fun y H1 => to σ H1 fun x H2 => ∃ a : Addr, x = .ref a ∧ OexG K C B newId initId bmB ∧ PySem.W.findIn K (.ref C) f = some none ∧
  H2 a = some (exo a C none) ∧ ∀ dx, H2 dx = none → dx ≠ a → D.nx σ (upd (upd H2 dx (exd dx [(f, y)])) a (exo a C (some dx)))
theorem ps_fst {X : Cx} {o e : Expr} {to te : TE} {f : Str} {p2 pos : Pos} {C : Addr} {B newId initId : String} {bmB : List Value} (ho : PE X o to) (he : PE X e te) (hs : swapsWith e (some (.Attribute o f p2)) pos.line X.env = pure false := by rfl) : PS X (.Assign [.Attribute o f p2] e pos) (tFst X.K C B newId initId bmB f to te) := by
  refine ⟨fun pins s σ H D I h => plainObj_wpAny_Assign_Attribute (thn (he.run pins s σ H _ I h) fun v s1 z1 => ?_) hs⟩
  obtain ⟨y, H1, I1, r1, q1⟩ := z1
  refine thn (ho.run pins s1 σ H1 _ I1 q1) fun u s2 z2 => ?_
  obtain ⟨x, H2, I2, r2, a, ex, T, no, ea, q⟩ := z2
  subst ex
  have e0 : u = Value.ref a := r2
  subst e0
  exact first_field T I2 ea no r1 fun dx s3 n ne J => ⟨σ, _, J, q dx n ne⟩
/-- what the top has made of an own Base without an __init__ -/
structure BaseG (K : PySem.W.Frag) (D : Addr) (initId : String) : Prop where
  rd : PySem.W.readsIn K D (.type "type") = true
  ga : PySem.W.specialIn K (.ref D) "__getattribute__" = some (some (.builtin "type.__getattribute__"))
  vi : PySem.W.findCls K (.ref D) (.type "type") "__init__" = some (.val (.builtin initId))
  hi : PySem.W.handedIn (.builtin initId) = true
theorem pe_ownbaseG {X : Cx} {e : Expr} {es : List Expr} {ta : TA} {D C : Addr} {bx : Str} {p1 p2 pos : Pos} {pl : Sem Bool} {B newId initId : String} {bmB : List Value} (T : BaseG X.K D initId) (hg : Gl X bx) (hm : X.mg bx = some (.ref D)) (ha : PA X (e :: es) ta) (hdb : (bx == ("__debug__" : Str)) = false := by decide)
    (hc : eval (.Call (.Attribute (.Name bx p1) "__init__" p2) (e :: es) [] pos) X.env = (do let ov ← eval (.Name bx p1) X.env; standAt p2.atName; let (f, first) ← holding [ov] (getMethod ov "__init__" pl); callWith pos f first (backTo pos (starEach (e :: es) X.env)) (backToKw pos (keywordEach [] X.env))) := by rfl)
    (he : starEach (e :: es) X.env = (false, eval e X.env) :: starEach es X.env := by rfl) (hpl : (backTo pos (starEach es X.env)).any (·.1) = false := by rfl) :
    PE X (.Call (.Attribute (.Name bx p1) "__init__" p2) (e :: es) [] pos) (tBaseI X.K C B newId initId bmB ta) := by
  refine ⟨fun pins s σ H Q I h => PySem.W.methodCall_KW (ld_glob I hg hm ?_ hdb) hc⟩
  refine PySem.W.method_cls I.kIn T.ga (PySem.W.cls_value I.kIn T.rd T.vi T.hi ?_)
  show wpAny _ _ (callWith pos (Value.builtin initId) [] (backTo pos (starEach (e :: es) X.env)) []) _ _ _
  refine callWith_method1 (thn (ha.run pos pins _ σ H _ (I.tok _) h) fun us s1 z => ?_) he hpl
  obtain ⟨vs, H1, I1, r1, a, ws, ev, hl, O, ea, q⟩ := z
  subst ev
  cases r1 with
  | @cons _ u0 _ ur ra rw' =>
    have e0 : u0 = Value.ref a := ra
    subst e0
    have le : ur.length ≤ sizeLine := by
      have := Paired.length rw'
      rw [sizeLine_eq]
      omega
    exact base_init O I1 ea le fun s2 J => ⟨.non, H1, J, rfl, q⟩
/-- B.__init__(self, ..), B a standard class by its name -/
theorem pe_stdbase {X : Cx} {e : Expr} {es : List Expr} {ta : TA} {C : Addr} {n : String} {bx : Str} {p1 p2 pos : Pos} {pl : Sem Bool} {B newId initId : String} {bmB : List Value} (hg : Gl X bx) (hm : X.mg bx = none) (hb : bootBuiltins bx = some (.type n))
    (ht : typeOf (.type n) = pure (.type "type")) (hst : Manifest.isStub n = false) (vi : PySem.W.findCls X.K (.type n) (.type "type") "__init__" = some (.val (.builtin initId))) (hi : PySem.W.handedIn (.builtin initId) = true) (ha : PA X (e :: es) ta)
    (hc : eval (.Call (.Attribute (.Name bx p1) "__init__" p2) (e :: es) [] pos) X.env = (do let ov ← eval (.Name bx p1) X.env; standAt p2.atName; let (f, first) ← holding [ov] (getMethod ov "__init__" pl); callWith pos f first (backTo pos (starEach (e :: es) X.env)) (backToKw pos (keywordEach [] X.env))) := by rfl)
    (h1 : bx ≠ "__name__" := by decide) (h2 : (bx == ("__debug__" : Str)) = false := by decide)
    (he : starEach (e :: es) X.env = (false, eval e X.env) :: starEach es X.env := by rfl) (hpl : (backTo pos (starEach es X.env)).any (·.1) = false := by rfl) :
    PE X (.Call (.Attribute (.Name bx p1) "__init__" p2) (e :: es) [] pos) (tBaseI X.K C B newId initId bmB ta) := by
  refine ⟨fun pins s σ H Q I h => PySem.W.methodCall_KW (ld_blt I hg hm hb ?_ h1 h2) hc⟩
  obtain ⟨m, fr⟩ := I.fr
  refine PySem.W.method_type fr I.ok.mod.kin ht hst vi hi ?_
  show wpAny _ _ (callWith pos (Value.builtin initId) [] (backTo pos (starEach (e :: es) X.env)) []) _ _ _
  refine callWith_method1 (thn (ha.run pos pins _ σ H _ (I.tok _) h) fun us s1 z => ?_) he hpl
  obtain ⟨vs, H1, I1, r1, a, ws, ev, hl, O, ea, q⟩ := z
  subst ev
  cases r1 with
  | @cons _ u0 _ ur ra rw' =>
    have e0 : u0 = Value.ref a := ra
    subst e0
    have le : ur.length ≤ sizeLine := by
      have := Paired.length rw'
      rw [sizeLine_eq]
      omega
    exact base_init O I1 ea le fun s2 J => ⟨.non, H1, J, rfl, q⟩
/-- the heap with a new exception of the class at C, its args behind it -/
abbrev hNew (h : Heap) (us : List Value) (C : Addr) : Heap := (h.push (PySem.W.kdv_tup us)).push (PySem.HandSPX.excO C h.objs.size)
abbrev aNew (h : Heap) : Addr := h.objs.size + 1
theorem hNew_old {h : Heap} {us : List Value} {C : Addr} : ∀ b o, h.get? b = some o → (hNew h us C).get? b = some o := fun _ _ e => (Heap.get?_push_of_some _ e |> Heap.get?_push_of_some _)
theorem hNew_at {h : Heap} {us : List Value} {C : Addr} : (hNew h us C).get? (aNew h) = some (PySem.HandSPX.excO C h.objs.size) := by heap_get
/-- C(e, ..): such an exception is made, its own __init__ keeping sp -/
theorem pmk_any {X : Cx} {e : Expr} {es : List Expr} {ta : TA} {p pos : Pos} {CX : CXT} {x : Str} {C fI : Addr} {k : Nat} {fd : FuncData} {ps : List Str} {sp : Sp} {ds : List Value} {dvs : List V} {B newId initId : String} {bmB : List Value} (T : OexG X.K C B newId initId bmB)
    (iC : PySem.W.findIn X.K (.ref C) "__init__" = some (some (.ref fI))) (tI : PySem.W.typeIn X.K (.ref fI) = some (.type "function")) (F1 : FnOk X.prog X.w X.K X.mg X.base CX k fI fd ps sp) (hr : Room (k + 1) X.A) (hb : Binds X.K fd ps ds) (hd : Vals dvs ds)
    (hx : Passes CX X (fun _ _ _ => False)) (hg : Gl X x) (hm : X.mg x = some (.ref C)) (ha : PA X (e :: es) ta) (hdb : (x == ("__debug__" : Str)) = false := by decide)
    (he : starEach (e :: es) X.env = (false, eval e X.env) :: starEach es X.env := by rfl) (hpl : (backTo pos (starEach es X.env)).any (·.1) = false := by rfl) : PMk X (.Call (.Name x p) (e :: es) [] pos) (tMkO C sp dvs ta) := by
  intro pins s σ H Q I h
  obtain ⟨nm, q, N, bs, bm, sn, sub, ab, col, dd, k0, k1, k2, k3, k5, lk, hT, _⟩ := T.cls
  refine wpAny_Call_Name_kw (ld_glob I hg hm ?_ hdb) |> id
  refine PySem.W.callWith_K (h₀ := X.base) I.ok.mod.kin T.kC (thn (ha.run pos pins s σ H _ I h) fun us s1 z => ?_) he hpl
  obtain ⟨vs, H1, I1, rv0, hz, q1⟩ := z
  refine ⟨I1.kIn, (?_ : wpAny _ _ (call (.ref C) us) _ _ _)⟩
  obtain ⟨hp, g0, d0, u0, o0⟩ := s1
  have up1 : hp.objs.size ≤ aNew hp := Nat.le_succ _
  have free1 : H1 (aNew hp) = none := I1.hok.fresh up1
  have want := q1 (aNew hp) free1
  have I2 : Inv X pins σ (upd H1 (aNew hp) (exo (aNew hp) C none)) ⟨hNew hp us C, g0, d0, u0, o0⟩ := I1.laid (t' := u0) (o := exo (aNew hp) C none) hNew_old up1 (exo_ok hNew_at)
  have rel2 : Vals (.ref (aNew hp) :: (vs ++ dvs)) (.ref (aNew hp) :: (us ++ ds)) := .cons rfl (rv0.append hd)
  have len2 : (Value.ref (aNew hp) :: us ++ ds).length = ps.length := (rel2.length.symm).trans (F1.len _ _ _ _ want)
  have lu : us.length ≤ sizeLine := by
    have := Paired.length rv0
    rw [sizeLine_eq]
    omega
  refine wpAny_call (PySem.HandSPX.call_own T.bf hT (I1.kIn _ _ lk) (PySem.W.looks_findIn I1.kIn iC) (fun self => PySem.W.bind_fn I1.kIn self tI) lu (codeAny_mono (F1.run _ X.stack _ _ ⟨.ref (aNew hp) :: us, []⟩ (.ref (aNew hp) :: (us ++ ds)) _ _ (fun _ _ _ => False)
    (hr.make C us []) (I2.env0.make C us []) (hb _ (.ref (aNew hp) :: us) I2.kIn len2) rel2 want) fun r s2 back => ?_))
  match r, back with
  | .error er, back => exact hx pins σ _ _ er s2 I2 back
  | .ok (.ret _), ⟨v, H2, os2, bare2, un2, hok2, rv, ev, d, fs, ea, ed, hd1, q2⟩ =>
    subst ev
    obtain ⟨h2, g2, d2, t2, os'⟩ := s2
    exact ⟨rv, mk_end (raises_own T.exC T.tyC) I1 up1 hNew_old un2 hok2 os2 bare2 ea ed hd1 q2⟩
  | .ok .next, back => exact back.elim
  | .ok .brk, back => exact back.elim
  | .ok .cont, back => exact back.elim
end Rv
/-! A test of the written part: is the class at C such an exception class. -/
namespace Rv
open PySem PySem.Spec PyProof.Rows L2
/-- own classes, then the standard class's mro -/
def tlB (bmB : List Value) : List Value → Bool
  | .ref _ :: r => tlB bmB r
  | l => decide (l = bmB)
theorem tl_ok {bmB : List Value} (h0 : Mok bmB) : ∀ l : List Value, tlB bmB l = true → Mok l ∧ ∀ Y : String, l.contains (.type Y) = bmB.contains (.type Y)
  | .ref c :: r, e => by
    obtain ⟨z1, z2⟩ := tl_ok h0 r (show tlB bmB r = true from e)
    refine ⟨mok_ref z1, fun Y => ?_⟩
    rw [List.contains_cons, z2]
    rfl
  | [], e => by
    have z : [] = bmB := of_decide_eq_true e
    subst z
    exact ⟨h0, fun _ => rfl⟩
  | .none :: r, e => by have z := of_decide_eq_true (show decide (_ = bmB) = true from e); subst z; exact ⟨h0, fun _ => rfl⟩
  | .ellipsis :: r, e => by have z := of_decide_eq_true (show decide (_ = bmB) = true from e); subst z; exact ⟨h0, fun _ => rfl⟩
  | .notImplemented :: r, e => by have z := of_decide_eq_true (show decide (_ = bmB) = true from e); subst z; exact ⟨h0, fun _ => rfl⟩
  | .bool _ :: r, e => by have z := of_decide_eq_true (show decide (_ = bmB) = true from e); subst z; exact ⟨h0, fun _ => rfl⟩
  | .int _ _ :: r, e => by have z := of_decide_eq_true (show decide (_ = bmB) = true from e); subst z; exact ⟨h0, fun _ => rfl⟩
  | .float _ _ :: r, e => by have z := of_decide_eq_true (show decide (_ = bmB) = true from e); subst z; exact ⟨h0, fun _ => rfl⟩
  | .str _ _ :: r, e => by have z := of_decide_eq_true (show decide (_ = bmB) = true from e); subst z; exact ⟨h0, fun _ => rfl⟩
  | .bytes _ _ :: r, e => by have z := of_decide_eq_true (show decide (_ = bmB) = true from e); subst z; exact ⟨h0, fun _ => rfl⟩
  | .type _ :: r, e => by have z := of_decide_eq_true (show decide (_ = bmB) = true from e); subst z; exact ⟨h0, fun _ => rfl⟩
  | .builtin _ :: r, e => by have z := of_decide_eq_true (show decide (_ = bmB) = true from e); subst z; exact ⟨h0, fun _ => rfl⟩
def cxB (K : PySem.W.Frag) (C : Addr) (newId : String) (bmB : List Value) : Bool := match K.lookup C with
  | some ⟨.type m, _, .cls z, sl⟩ => decide (m = "type") && (match z.mro, sl.toList with
    | .ref D :: r, [_, _, _, _, some (.builtin n), _] => decide (D = C) && (decide (n = newId) && (!z.hasDel && (z.hasDict && tlB bmB r)))
    | _, _ => false)
  | _ => false
theorem cx_ok {K : PySem.W.Frag} {C : Addr} {newId : String} {bmB : List Value} (h0 : Mok bmB) (h : cxB K C newId bmB = true) :
    ∃ nm q N bs bm sn sub ab col dd k0 k1 k2 k3 k5, K.lookup C = some (excClassObj nm q C N bs bm true sn sub ab col dd k0 k1 k2 k3 k5 newId) ∧ (∀ Y : String, bm.contains (.type Y) = bmB.contains (.type Y)) ∧ Mok (.ref C :: bm) := by
  unfold cxB at h
  split at h
  · rename_i m dd z sl lk
    obtain ⟨e1, h⟩ := He.ba h
    have e1 := of_decide_eq_true e1
    subst e1
    split at h
    · rename_i D r j0 j1 j2 j3 n j5 hm hs
      obtain ⟨_, h⟩ := He.ba h
      obtain ⟨e2, h⟩ := He.ba h
      obtain ⟨e3, h⟩ := He.ba h
      obtain ⟨e4, h⟩ := He.ba h
      obtain ⟨e5, e6⟩ := He.ba h
      have e2 := of_decide_eq_true e2
      have e3 := of_decide_eq_true e3
      subst e2 e3
      obtain ⟨w1, w2, w3, w4, w5, w6, w7, w8, w9, w10, w11⟩ := z
      dsimp only at hm e4 e5
      have e4 : w11 = false := by
        cases w11 with
        | false => rfl
        | true => cases e4
      subst hm e4 e5
      have e7 : sl = #[j0, j1, j2, j3, some (.builtin n), j5] := by
        obtain ⟨l⟩ := sl
        simp only at hs
        rw [hs]
      subst e7
      obtain ⟨y1, y2⟩ := tl_ok h0 r e6
      exact ⟨_, _, _, _, r, _, _, _, _, _, _, _, _, _, _, lk, y2, mok_ref y1⟩
    · cases h
  · cases h
/-- all of it by one test -/
def oxB (K : PySem.W.Frag) (x : Str) (newId : String) (bmB : List Value) : Bool := cxB K (He.ga K x) newId bmB && (He.eqO (PySem.W.findIn K (.ref (He.ga K x)) "__setattr__") (some (some (.builtin "object.__setattr__"))) &&
  (decide (PySem.W.subIn K (.ref (He.ga K x)) (.type "BaseException") = some true) && (decide (PySem.W.typeIn K (.ref (He.ga K x)) = some (.type "type")) && PySem.W.keepIn K (.ref (He.ga K x)))))
theorem ox_ok {K : PySem.W.Frag} {x : Str} {B newId initId : String} {bmB : List Value} (bf : ExcBaseFacts B newId initId bmB) (h0 : Mok bmB) (h : oxB K x newId bmB = true) : OexG K (He.ga K x) B newId initId bmB := by
  obtain ⟨h1, h⟩ := He.ba h
  obtain ⟨h2, h⟩ := He.ba h
  obtain ⟨h3, h⟩ := He.ba h
  obtain ⟨h4, h5⟩ := He.ba h
  exact ⟨bf, cx_ok h0 h1, He.eqO_ok h2, of_decide_eq_true h3, of_decide_eq_true h4, h5⟩
/-- an own Base without an __init__ -/
def bgB (K : PySem.W.Frag) (x : Str) (i : String) : Bool := PySem.W.readsIn K (He.ga K x) (.type "type") && (He.eqO (PySem.W.specialIn K (.ref (He.ga K x)) "__getattribute__") (some (some (.builtin "type.__getattribute__"))) &&
  (PySem.W.handedIn (.builtin i) && (match PySem.W.findCls K (.ref (He.ga K x)) (.type "type") "__init__" with
    | some (.val (.builtin n)) => decide (n = i)
    | _ => false)))
theorem bg_ok {K : PySem.W.Frag} {x : Str} {i : String} (h : bgB K x i = true) : BaseG K (He.ga K x) i := by
  obtain ⟨h1, h⟩ := He.ba h
  obtain ⟨h2, h⟩ := He.ba h
  obtain ⟨h3, h4⟩ := He.ba h
  refine ⟨h1, He.eqO_ok h2, ?_, h3⟩
  cases e : PySem.W.findCls K (.ref (He.ga K x)) (.type "type") "__init__" with
  | none =>
    rw [e] at h4
    cases h4
  | some f =>
    rw [e] at h4
    cases f with
    | val v =>
      cases v with
      | builtin n =>
        have z : n = i := of_decide_eq_true h4
        rw [z]
      | _ => cases h4
    | _ => cases h4
end Rv
namespace Rv
open PySem PySem.Spec PyProof.Rows L2
/-! exceptions of own classes: raised in defs, caught in the law -/
theorem takesF {X : Cx} : Takes X fun _ _ _ _ => False := fun u s' x => by
  obtain ⟨_, _, _, _, _, _, _, _, _, _, _, _, _, _, _, _, w⟩ := x
  exact w.elim
/-- raise e -/
def tRaise (t : L2.St → Hp → XK → Prop) (E : XK) : TS := fun _ σ H => t σ H fun cls d H' => E cls d H'
theorem ps_raiseE {X : Cx} {E : XK} {e : Expr} {t : L2.St → Hp → XK → Prop} {pos : Pos} (he : PMk X e t) (tk : Takes X fun cls d _ H => E cls d H) (hc : X.calm = true := by rfl) : PS X (.Raise (some e) none pos) (tRaise t E) := ps_raise hc tk he
/-- an own exception class with its __init__ -/
structure CalX (P : Program) (w : World) (K : PySem.W.Frag) (mg : Str → Option Value) (base : Heap) (CX : CXT) (k : Nat) (x : Str) (C : Addr) (ps : List Str) (sp : Sp) (dvs : List V) (B newId initId : String) (bmB : List Value) : Prop where
  ex : ∃ f fd ds, FnOk P w K mg base CX k f fd ps sp ∧ OexG K C B newId initId bmB ∧ PySem.W.findIn K (.ref C) "__init__" = some (some (.ref f)) ∧ PySem.W.typeIn K (.ref f) = some (.type "function") ∧ mg x = some (.ref C) ∧ Binds K fd ps ds ∧ Vals dvs ds
theorem pmk_cal {X : Cx} {CX : CXT} {k : Nat} {x : Str} {C : Addr} {ps : List Str} {sp : Sp} {dvs : List V} {B newId initId : String} {bmB : List Value} {e : Expr} {es : List Expr} {ta : TA} {p pos : Pos} (c : CalX X.prog X.w X.K X.mg X.base CX k x C ps sp dvs B newId initId bmB) (hr : Room (k + 1) X.A) (hx : Passes CX X (fun _ _ _ => False)) (hg : Gl X x) (ha : PA X (e :: es) ta)
    (hdb : (x == ("__debug__" : Str)) = false := by decide) (he : starEach (e :: es) X.env = (false, eval e X.env) :: starEach es X.env := by rfl) (hpl : (backTo pos (starEach es X.env)).any (·.1) = false := by rfl) : PMk X (.Call (.Name x p) (e :: es) [] pos) (tMkO C sp dvs ta) := by
  obtain ⟨f, fd, ds, F, T, iC, tI, hm, hb, hd⟩ := c.ex
  exact pmk_any T iC tI F hr hb hd hx hg hm ha hdb he hpl
/-! .. at the state in which the call stands -/
section
variable {X : Cx} {CX : CXT} {k : Nat} {f C : Addr} {fd : FuncData} {ps : List Str} {sp : Sp} {E : L2.St → XK} {x m : Str} {p pos apos : Pos} {e o : Expr} {es : List Expr} {ta tb : TE} {t : TA} {dvs : List V} {ds : List Value}
theorem run_fnD {pins : List (Addr × Obj)} {σ : L2.St} {H : Hp} {s : Shared} {Q : VK} {us : List Value} {vs : List V} (F : FnOk X.prog X.w X.K X.mg X.base CX k f fd ps sp) (hr : Room k X.A) (hb : Binds X.K fd ps ds) (hd : Vals dvs ds) (hx : PassesAt CX X σ (E σ))
    (I : Inv X pins σ H s) (r : Vals vs us) (h : sp (vs ++ dvs) H Q (E σ)) : wpAny (model X.prog X.w) X.A (call (.ref f) us) (EP X pins σ Q) X.xe s := by
  have r2 : Vals (vs ++ dvs) (us ++ ds) := r.append hd
  have hl : (us ++ ds).length = ps.length := by rw [← r2.length]; exact F.len _ _ _ _ h
  refine wpAny_call (codeAny_mono (F.run X.A X.stack s H ⟨us, []⟩ (us ++ ds) (vs ++ dvs) Q (E σ) hr I.env0 (hb s us I.kIn hl) r2 h) fun r s' hq => ?_)
  cases r with
  | error e => exact hx pins H s e s' I hq
  | ok fl =>
    cases fl with
    | ret u => exact I.after hq
    | next => exact False.elim hq
    | brk => exact False.elim hq
    | cont => exact False.elim hq
def tCallD (sp : Sp) (dvs : List V) (E : L2.St → XK) (t : TA) : TE := fun σ H Q => t σ H fun vs H1 => sp (vs ++ dvs) H1 Q (E σ)
theorem pe_calD (c : Cal X.prog X.w X.K X.mg X.base CX k x ps sp) (hr : Room k X.A) (hg : Gl X x) (hx : ∀ σ, PassesAt CX X σ (E σ)) (ha : PA X (e :: es) t) (hdb : (x == ("__debug__" : Str)) = false := by decide)
    (he : starEach (e :: es) X.env = (false, eval e X.env) :: starEach es X.env := by rfl) (hpl : (backTo pos (starEach es X.env)).any (·.1) = false := by rfl) : PE X (.Call (.Name x p) (e :: es) [] pos) (tCallD sp [] E t) := by
  obtain ⟨f, fd, F, hm, hk, hb⟩ := c.ex
  refine ⟨fun pins s σ H Q I h => ?_⟩
  refine wpAny_Call_Name_kw (ld_glob I hg hm ?_ hdb)
  refine PySem.W.callWith_K (h₀ := X.base) I.ok.mod.kin hk (thn (ha.run pos pins s σ H _ I h) fun us s1 ⟨vs, H1, I1, r, q⟩ => ⟨I1.kIn, ?_⟩) he hpl
  exact run_fnD F hr hb .nil (hx σ) I1 r q
end
/-- try .. except c as n -/
def tTryAs (K : PySem.W.Frag) (c : Value) (i : Nat) (tb : WX → TS) (ts : Addr → Value → Option Addr → TS) (Wout : WX) : TS := fun D σ H => tb (wAs K c i ts Wout D) D σ H
/-- what is asked of a class by isinstance(e, ..), e with a dict -/
def rIsD (K : PySem.W.Frag) (D a : Addr) (cls : Value) (d : Option Addr) : List V → Hp → VK → Prop := fun xs H Q => cls = .ref D ∧ ∃ (c : V) (cv : Value) (b : Bool) (dd : Addr) (fs : List (Str × V)), xs = [.ref a, c] ∧ (∀ u, RelV c u → u = cv) ∧ d = some dd ∧ H dd = some (.xd fs) ∧ PySem.W.kitOne K (.ref D) cv = some b ∧ Q (.bl b) H
theorem call_isD {X : Cx} {a D : Addr} {oe : Obj} {cls : Value} {d : Option Addr} {pn : List (Addr × Obj)} (C : ExcC X.K D) (hz : Zc cls d oe) (hf : ∃ vs, oe.data = .fields vs) : CallR (X.suite a ((a, oe) :: pn)) (.builtin "isinstance") (rIsD X.K D a cls d) := by
  intro pins s σ H xs us Q I r h
  obtain ⟨ec, c, cv, b, dd, fs, rfl, hcv, ed, ea, e, q⟩ := h
  subst ec
  cases r with
  | cons rx rr =>
    cases rr with
    | cons rt rr =>
      cases rr
      cases rx
      have ec := hcv _ rt
      subst ec
      obtain ⟨hget, _⟩ := I.pin (a, oe) (List.mem_append.mpr (.inl List.mem_cons_self))
      obtain ⟨vs, hv⟩ := hf
      have hx : ObjOk X.prog X.w H s.heap dd (.xd fs) := I.hok dd _ ea
      obtain ⟨mA, hns, hr⟩ := hx
      obtain ⟨od, ho, hl⟩ := lookIn_ns hns
      have J : PySem.W.InstAt s.heap a oe D (some od) := ⟨hget, hz.1, by unfold PySem.W.notCls; rw [hv] <;> rfl, by rw [hz.2, ed]; exact ho⟩
      exact PySem.W.kia_one (PySem.W.kitx_exc (by obtain ⟨cd, hc, _⟩ := PySem.W.any_some C.hd; rw [hc]; rfl) C.hg C.hk C.hs C.ha C.hn C.ht C.hm) I.kIn J e (fun z => nomatch z) fun tk => ⟨.bl b, H, I.kept (t' := tk) fun _ _ z => z, rfl, q⟩
abbrev bm_OverflowError : List Value := [.type "OverflowError", .type "ArithmeticError", .type "Exception", .type "BaseException", .type "object"]
abbrev bm_ValueError : List Value := [.type "ValueError", .type "Exception", .type "BaseException", .type "object"]
abbrev bm_IndexError : List Value := [.type "IndexError", .type "LookupError", .type "Exception", .type "BaseException", .type "object"]
/-- an own exception's __init__(self, v): its one field is set -/
def spExc (K : PySem.W.Frag) (C : Addr) (B newId initId : String) (bmB : List Value) (f : Str) : Sp := fun vs H Q _ => ∃ p v, vs = [.ref p, v] ∧ OexG K C B newId initId bmB ∧ PySem.W.findIn K (.ref C) f = some none ∧ H p = some (exo p C none) ∧
  ∀ dx, H dx = none → dx ≠ p → Q .non (upd (upd H dx (exd dx [(f, v)])) p (exo p C (some dx)))
/-- what a new exception brings -/
theorem exc_new {K : PySem.W.Frag} {C : Addr} {B newId initId : String} {bmB : List Value} {f : Str} {H : Hp} {XQ : XK} {v : V} (T : OexG K C B newId initId bmB) (no : PySem.W.findIn K (.ref C) f = some none)
    (k : ∀ d H', H d = none → Same H H' → H' d = some (.xd [(f, v)]) → XQ (.ref C) (some d) H') :
    [v].length ≤ 1000 ∧ ∀ a, H a = none → spExc K C B newId initId bmB f (.ref a :: ([v] ++ [])) (upd H a (exo a C none))
      (fun v H2 => v = .non ∧ ∃ (d : Addr) (fs : List (Str × V)), H2 a = some (exo a C (some d)) ∧ H2 d = some (exd d fs) ∧ H d = none ∧ XQ (.ref C) (some d) (upd (del H2 a) d (.xd fs))) (fun _ _ _ => False) := by
  refine ⟨by show 1 ≤ 1000; decide, fun a na => ⟨a, v, rfl, T, no, upd_same, fun dx nd ne => ⟨rfl, dx, [(f, v)], upd_same, ?_, ?_, ?_⟩⟩⟩
  · rw [upd_ne ne, upd_same]
  · rw [upd_ne ne] at nd
    exact nd
  · rw [upd_ne ne] at nd
    refine k dx _ nd (fun b o hb => ?_) upd_same
    have n1 : b ≠ dx := ne_of_none hb nd
    have n2 : b ≠ a := ne_of_none hb na
    rw [upd_ne n1]
    show del (upd (upd (upd H a _) dx _) a _) a b = some o
    unfold del
    rw [if_neg n2, upd_ne n2, upd_ne n1, upd_ne n2]
    exact hb
def ecB (K : PySem.W.Frag) (x : Str) : Bool := He.eqO (PySem.W.findIn K (.ref (He.ga K x)) "__getattribute__") (some (some (.builtin "BaseException.__getattribute__"))) && (He.eqO (PySem.W.findIn K (.ref (He.ga K x)) "__getattr__") (some none) &&
  (decide (PySem.W.subIn K (.ref (He.ga K x)) (.type "BaseException") = some true) && (PySem.W.hasDictIn K (He.ga K x) && (He.eqO (PySem.W.findIn K (.ref (He.ga K x)) "__class__") (some (some (.builtin "object.__class__"))) &&
  (He.eqO (PySem.W.specialIn K (.builtin "object.__class__") "__get__") (some (some (.builtin "getset_descriptor.__get__"))) && (decide (PySem.W.takesIn K (.builtin "object.__class__") = some true) && decide (PySem.W.mroIn K (He.ga K x) (.type "object") = some true)))))))
theorem ec_of {K : PySem.W.Frag} {x : Str} (h : ecB K x = true) : ExcC K (He.ga K x) := by
  obtain ⟨h1, h⟩ := He.ba h
  obtain ⟨h2, h⟩ := He.ba h
  obtain ⟨h3, h⟩ := He.ba h
  obtain ⟨h4, h⟩ := He.ba h
  obtain ⟨h5, h⟩ := He.ba h
  obtain ⟨h6, h⟩ := He.ba h
  obtain ⟨h7, h8⟩ := He.ba h
  exact ⟨He.eqO_ok h1, He.eqO_ok h2, of_decide_eq_true h3, h4, He.eqO_ok h5, He.eqO_ok h6, of_decide_eq_true h7, of_decide_eq_true h8⟩
def viB (K : PySem.W.Frag) (b : String) : Bool := match PySem.W.findCls K (.type b) (.type "type") "__init__" with
  | some (.val (.builtin n)) => decide (n = b ++ ".__init__")
  | _ => false
theorem vi_ok {K : PySem.W.Frag} {b : String} (h : viB K b = true) : PySem.W.findCls K (.type b) (.type "type") "__init__" = some (.val (.builtin (b ++ ".__init__"))) := by
  unfold viB at h
  split at h
  · rename_i n e
    rw [e, of_decide_eq_true h]
  · cases h
theorem p_exc {K : PySem.W.Frag} {C : Addr} {B newId initId : String} {bmB : List Value} {f : Str} {vs : List V} {H : Hp} {Q : VK} {E : XK} (m : Str) (h : spExc K C B newId initId bmB f vs H Q E) {N : List Str} (hN : ∀ p v, start N [.ref p, v] = [some (V.ref p), some v]) :
    tSeq (tDrop (tBaseI K C B newId initId bmB (tCons (tVar 0) (tCons (tC (.str m)) tNil)))) (tFst K C B newId initId bmB f (tVar 0) (tVar 1)) { nx := fun _ H' => Q .non H', rt := Q } (start N vs) H := by
  obtain ⟨p, v, rfl, T, no, hp, k⟩ := h
  rw [hN]
  refine w_seqD ?_
  refine ⟨_, rfl, ?_⟩
  refine ⟨p, [.str m], rfl, by show 1 ≤ 1000; decide, T, hp, ?_⟩
  refine ⟨_, rfl, ?_⟩
  refine ⟨_, rfl, ?_⟩
  exact ⟨p, rfl, T, no, hp, fun dx nd ne => k dx nd ne⟩
theorem w_raise {t : L2.St → Hp → XK → Prop} {E : XK} {D : Ends} {σ : L2.St} {H : Hp} (q : t σ H fun cls d H' => E cls d H') : tRaise t E D σ H := q
theorem w_mkO {C : Addr} {sp : Sp} {dvs : List V} {ta : TA} {σ : L2.St} {H : Hp} {Q : XK} (q : ta σ H fun vs H1 => vs.length ≤ 1000 ∧ ∀ a, H1 a = none → sp (.ref a :: (vs ++ dvs)) (upd H1 a (exo a C none))
  (fun v H2 => v = .non ∧ ∃ (d : Addr) (fs : List (Str × V)), H2 a = some (exo a C (some d)) ∧ H2 d = some (exd d fs) ∧ H1 d = none ∧ Q (.ref C) (some d) (upd (del H2 a) d (.xd fs))) (fun _ _ _ => False)) : tMkO C sp dvs ta σ H Q := q
end Rv
namespace Rv
open PySem PySem.Spec PyProof.Rows L2
end Rv
/-! try with several clauses 'except C as n' of one name n. -/
namespace Rv
open PySem PySem.Spec PyProof.Rows L2
abbrev Cl := Value × (Addr → Value → Option Addr → TS)
/-- the wish of the clauses, one behind the other -/
def wAsL (K : PySem.W.Frag) (i : Nat) (Wo : WX) (D : Ends) : List Cl → WX
  | [] => Wo
  | p :: r => wAs K p.1 i p.2 (wAsL K i Wo D r) D
inductive AsL (X : Cx) (n : Str) : List ExceptHandler → List Cl → Prop
  | nil : AsL X n [] []
  | cons {x : Str} {c : Value} {ts : Addr → Value → Option Addr → TS} {b : Stmt} {bs : List Stmt} {q1 q2 : Pos} {hs : List ExceptHandler} {l : List Cl} (hc : Names X x c)
      (su : ∀ (a : Addr) (oe : Obj) (cls : Value) (d : Option Addr) (pn : List (Addr × Obj)), Zc cls d oe → (∃ vs, oe.data = .fields vs) → PSs (X.suite a ((a, oe) :: pn)) (b :: bs) (ts a cls d)) (r : AsL X n hs l) :
      AsL X n (.ExceptHandler (some (.Name x q1)) (some n) (b :: bs) q2 :: hs) ((c, ts) :: l)
def tTryL (K : PySem.W.Frag) (i : Nat) (tb : WX → TS) (l : List Cl) (Wo : WX) : TS := fun D σ H => tb (wAsL K i Wo D l) D σ H
section
variable {X : Cx} {n : Str} {i : Nat} {pins : List (Addr × Obj)} {σ : L2.St} {H : Hp} {D : Ends} {a : Addr} {B hp : Heap} {cls : Value} {d : Option Addr} {Wo : WX} {sI s0 : Shared}
/-- an exception that has landed at this frame finds its clause -/
theorem land_in (hs : X.stack = X.env :: X.outer) (hf : X.env.frame = some X.env.locals) (hN : X.N.Nodup) (hi : X.N[i]? = some n) (hln : X.env.kindOf n = some .local) (tk : Takes X Wo) (J : Inv X pins σ H sI)
    (nb : ∀ b o, sI.heap.get? b = some o → b ∉ frs X.stack → B.get? b = some o) (up : sI.heap.UpToSlots hp) (na : H a = none) (os : s0.os = sI.os) (ag : AllBare s0.gens) (fl : HandSPX.FlyingZ B (X.env :: X.outer) a (Zc cls d) hp) :
    ∀ {hds : List ExceptHandler} {l : List Cl}, AsL X n hds l → wAsL X.K i Wo D l cls d σ H → wpAny (model X.prog X.w) X.A (handleBy (.ref a) X.env hds) (SP X pins D) X.xe { s0 with heap := hp } := by
  have ok := J.ok
  have land : ∀ {h1 : Heap}, HandSPX.FlyingZ B (X.env :: X.outer) a (Zc cls d) h1 → sI.heap.UpToSlots h1 → Inv X pins σ H { s0 with heap := h1 } := fun f1 u1 => J.landed nb f1.1 u1 os ag
  have I3 := land fl up
  obtain ⟨oe, vs, he, hz, hd⟩ := fl.there
  have out : a ∉ frs (X.env :: X.outer) := fun hm => by
    obtain ⟨_, o1, e1, nf⟩ := fl.2.2.1.mem hm
    cases he.symm.trans e1
    exact nf _ hd
  have nL : a ≠ X.env.locals := fun z => out (List.mem_filterMap.mpr ⟨X.env, List.mem_cons_self, by rw [hf, z]⟩)
  have nF : a ∉ X.fs := fun hm => by
    obtain ⟨e1, m1, q1⟩ := List.mem_filterMap.mp hm
    exact out (List.mem_filterMap.mpr ⟨e1, List.mem_cons_of_mem _ m1, q1⟩)
  have S3 := I3.suite he hd na nL nF
  intro hds l hl
  induction hl with
  | nil =>
    intro w
    refine wpAny_handleBy_nil ?_
    obtain ⟨_, _, _, o1, v1, T, oT, t1, g1, g2, g3, g4, _⟩ := id fl
    unfold PySem.passOn
    refine wpAny_bind (wpAny_field g1 g3 g4 ?_)
    rw [if_neg (by simp)]
    have last : wpAny (model X.prog X.w) X.A (setFlight (.ref a) X.env.frame) (fun _ s4 => wpAny (model X.prog X.w) X.A (throw (.ref a) : Sem Flow) (SP X pins D) X.xe s4) X.xe { s0 with heap := hp } := by
      rw [hf]
      refine HandSPX.setFlight_upZ fl fun h4 hh u4 => wpAny_throw (tk _ _ ?_)
      exact ⟨a, B, sI, pins, σ, H, cls, d, rfl, J, nb, up.trans u4, .inr (.inr (by rw [hs]; exact hh)), na, os, ag, w⟩
    first
      | exact wpAny_bind (wpAny_pure (wpAny_bind last))
      | exact wpAny_bind last
  | @cons x c0 ts b bs q1 q2 hds2 l2 hc su r ih =>
    rintro ⟨c, hb1, yes, no⟩
    refine wpAny_handleBy_cons (codeAny_handlers_test ?_) (fun q => nomatch q)
    have LT : PySem.W.Looks (model X.prog X.w) hp (typeOf (.ref a)) cls := fun A Q E s k q => wpAny_typeOf_ref (k _ _ he) (by rw [hz.1]; exact q)
    have LM := PySem.W.exm_one (M := model X.prog X.w) I3.kIn LT hb1
    have name : ∀ {Q E : Value → Shared → Prop}, Q c0 { s0 with heap := hp } → wpAny (model X.prog X.w) (X.A.mark (some (.ref a))) (eval (.Name x q1) X.env) Q E { s0 with heap := hp } := fun {Q E} q => by
      rcases hc with ⟨k1, k2, k3 | ⟨k3, k4, k5⟩⟩
      · exact ld_glob (X := X.suite a ((a, oe) :: (X.pn ++ pins))) S3 k1 k3 q k2
      · exact ld_blt (X := X.suite a ((a, oe) :: (X.pn ++ pins))) S3 k1 k3 k4 q k5 k2
    refine name (LM.here ?_)
    cases c with
    | false =>
      show wpAny _ X.A (handleBy (.ref a) X.env hds2) _ _ _
      exact ih (no rfl)
    | true =>
      refine codeAny_handlers_suite_as ?_
      refine HandSPX.lands_againZ fl fun h4 fl4 u4 => ?_
      obtain ⟨o4, v4, he4, hz4, hd4⟩ := fl4.there
      have S4 := (land fl4 (up.trans u4)).suite he4 hd4 na nL nF
      refine store_ok (X := X.suite a ((a, o4) :: (X.pn ++ pins))) (v := .ref a) S4 hN hi (.inl hln) rfl (fun s5 S5 => ?_) (.inr hln)
      have fin : ∀ {σ6 : L2.St} {H6 : Hp} {s6 : Shared} {R : Shared → Prop}, Inv (X.suite a ((a, o4) :: (X.pn ++ pins))) [] σ6 H6 s6 → (∀ s7, Inv X pins (σ6.set i none) H6 s7 → R s7) →
          wpAny (model X.prog X.w) X.A (do bindName X.env n .none; unbindBehindTheSuite X.env n q2) (fun _ s7 => R s7) X.xe s6 := fun {σ6 H6 s6 R} S6 hq => gone_ok (S6.unsuite ok) hN hi hln hq
      refine wpAny_mono ((su a o4 cls d (X.pn ++ pins) hz4 ⟨_, hd4⟩).run [] s5 _ H _ S5 (yes rfl a na)) (fun f s6 q6 => ?_) (fun _ _ z => z.elim)
      cases f with
      | next =>
        obtain ⟨σ6, H6, S6, q⟩ := q6
        exact fin S6 fun s7 J7 => ⟨_, _, J7, q⟩
      | brk =>
        obtain ⟨σ6, H6, S6, q⟩ := q6
        exact fin S6 fun s7 J7 => ⟨_, _, J7, q⟩
      | cont =>
        obtain ⟨σ6, H6, S6, q⟩ := q6
        exact fin S6 fun s7 J7 => ⟨_, _, J7, q⟩
      | ret u =>
        obtain ⟨v6, σ6, H6, S6, r6, q⟩ := q6
        exact fin S6 fun s7 J7 => ⟨_, _, _, J7, r6, q⟩
end
section
variable {X : Cx} {n : Str} {i : Nat} {body : List Stmt} {h0 : ExceptHandler} {hds : List ExceptHandler} {l : List Cl} {pos : Pos} {tb : WX → TS} {Wo : WX}
theorem ps_tryL (hs : X.stack = X.env :: X.outer) (hf : X.env.frame = some X.env.locals) (hN : X.N.Nodup) (hi : X.N[i]? = some n) (hln : X.env.kindOf n = some .local) (tk : Takes X Wo)
    (hb : ∀ (W : WX) (pn : List (Addr × Obj)) (xe : Value → Shared → Prop), Takes (X.tr pn xe) W → PassesOwn (model X.prog X.w) X.A X.env xe → PSs (X.tr pn xe) body (tb W))
    (hh : AsL X n (h0 :: hds) l) : PS X (.Try body (h0 :: hds) [] [] pos) (tTryL X.K i tb l Wo) := by
  refine ⟨fun pins s σ H D I h => ?_⟩
  have ok := I.ok
  have fr : X.A.frames = some (X.env :: X.outer) := by rw [ok.frames, hs]
  refine wpAny_Try_except ?_
  refine wpAny_mono ((hb (wAsL X.K i Wo D l) (X.pn ++ pins) (fun e s1 => wpAny (model X.prog X.w) X.A (noteFrame e X.env) (fun _ s2 => wpAny (model X.prog X.w) X.A (setFlight e none) (fun _ s3 =>
    wpAny (model X.prog X.w) X.A (handleBy e X.env (h0 :: hds)) (SP X pins D) X.xe s3) X.xe s2) X.xe s1) (fun u s' xx => ?_) PassesOwn.looking).run [] s σ H D (I.toTry _) h) (fun f s1 q => ?_) (fun _ _ z => z)
  · obtain ⟨a, B, sI, pins', σ', H', cls, d, rfl, J, nb, up, sky, na, os, ag, w⟩ := xx
    refine Sky.land Zc.steady fr hf (by rw [← hs]; exact sky) fun h3 fl up3 => ?_
    exact land_in hs hf hN hi hln tk (J.ofTry ok) nb (up.trans up3) na os ag fl hh w
  · cases f with
    | next =>
      obtain ⟨σ', H', J, q⟩ := q
      exact wpAny_execs_nil ⟨σ', H', J.ofTry ok, q⟩
    | brk =>
      obtain ⟨σ', H', J, q⟩ := q
      exact ⟨σ', H', J.ofTry ok, q⟩
    | cont =>
      obtain ⟨σ', H', J, q⟩ := q
      exact ⟨σ', H', J.ofTry ok, q⟩
    | ret u =>
      obtain ⟨v, σ', H', J, r, q⟩ := q
      exact ⟨v, σ', H', J.ofTry ok, r, q⟩
end
end Rv
/-! Own defs that are called while an exception is handled (they raise nothing themselves), and repr there. -/
namespace Rv
open PySem PySem.Spec PyProof.Rows L2 L2H
/-- the context of such a def's body -/
def cxC (P : Program) (w : World) (K : PySem.W.Frag) (mg : Str → Option Value) (base : Heap) (N : List Str) (qual : Str) (scope : Scope) (f : Addr) (cd : Value) (A : Around) (outer : List Env) (s : Shared) (H : Hp) (E : XK) : Cx :=
  { cxOf CX0 P w K mg base N qual scope f cd A outer s H E with calm := false }
/-- what such a def promises -/
structure FnC (P : Program) (w : World) (K : PySem.W.Frag) (mg : Str → Option Value) (base : Heap) (k : Nat) (f : Addr) (fd : FuncData) (ps : List Str) (sp : Sp) : Prop where
  len : ∀ vs H Q E, sp vs H Q E → vs.length = ps.length
  run : ∀ (A : Around) (outer : List Env) (s : Shared) (H : Hp) (args : Args) (us : List Value) (vs : List V) (Q : VK) (E : XK), RoomH k A → Env0 P w K mg base A outer s H → BindsTo s fd args (ps.zip us) → Vals vs us → sp vs H Q E →
    codeAny (model P w) A (.call (.ref f) args) (CR CX0 outer P w H s Q E) s
theorem Env0.unmark {P : Program} {w : World} {K : PySem.W.Frag} {mg : Str → Option Value} {base : Heap} {A : Around} {outer : List Env} {s : Shared} {H : Hp} (e : Env0 P w K mg base A outer s H) : Env0 P w K mg base { A with handled := none } outer s H := by
  constructor
  · exact e.frames
  all_goals first
    | exact e.mod
    | exact e.bs
    | exact e.bsz
    | exact e.bare
    | exact e.hok
    | exact e.funs
    | exact e.frf
theorem FunD.okC {P : Program} {w : World} {K : PySem.W.Frag} {mg : Str → Option Value} {base : Heap} {k : Nat} {f : Addr} {fd : FuncData} {N ps : List Str} {sp : Sp} {x qual : Str} {params : Arguments} {body : List Stmt} {scope : Scope} {dvs : List V} {kws : List (Str × V)}
    (F : FunD K x qual params body scope dvs kws f fd) (S : FnScope N ps scope) (len : ∀ vs H Q E, sp vs H Q E → vs.length = ps.length)
    (hbody : ∀ (cdv : Value) (A : Around) (outer : List Env) (s : Shared) (H : Hp) (vs : List V) (Q : VK) (E : XK), sp vs H Q E →
      ∃ t, PSs (cxC P w K mg base N qual scope f cdv A outer s H E) body t ∧ t { nx := fun _ H' => Q .non H', rt := Q } (start N vs) H) : FnC P w K mg base (k + 1) f fd ps sp := by
  obtain ⟨oc, od, dV, kV, doc, pm, an, cdv, ct, osl, rfl, lk, hcd, _, _⟩ := F.ex
  refine ⟨len, fun A outer s H args us vs Q E hr e0 hb r hsp => ?_⟩
  have hl := len _ _ _ _ hsp
  have KX : K.In s.heap := e0.mod.kin.keeps fun b o e => (e0.bs b o e).1
  have lim : s.heap.NoLimit := e0.mod.nolimit.keeps fun b o e => (e0.bs b o e).1
  refine codeAny_call_function hr.depth (KX _ _ lk) rfl S.co S.gen rfl (PySem.W.codeRec_of KX hcd) (hb _ _ _ _ (wpAny_newFunctionEnv_cells S.kind ?_ fun env he s1 x1 => ?_))
  · rintro ⟨n, v⟩ hy
    rcases S.par n (List.of_mem_zip hy).1 with q | q
    · exact .inl q
    · exact .inr ⟨q, PySem.W.cellsFrom_some _ _ _ (.inl q)⟩
  subst he
  refine ⟨lim.keeps x1.toInCall.keep, codeAny_func ?_⟩
  obtain ⟨t, ht, hq⟩ := hbody cdv A outer s H vs Q E hsp
  have I0 := inv_start (CX := CX0) (E := E) (A := { A with handled := none }) S rfl (Env0.unmark e0) hl r x1
  have I : Inv (cxC P w K mg base N qual scope f cdv A outer s H E) [] (start N vs) H s1 :=
    ⟨⟨I0.ok.mod, I0.ok.kind, I0.ok.glob, I0.ok.blt, I0.ok.above, I0.ok.inj, I0.ok.has, I0.ok.cab, (fun z => Bool.noConfusion (show false = true from z)), Around.frames_deeper e0.frames, I0.ok.stk, I0.ok.exf, I0.ok.bs, I0.ok.bsz, I0.ok.noex, I0.ok.exfs, I0.ok.funs, I0.ok.frf⟩,
      I0.os, I0.bare, I0.base, I0.loc, I0.cell, I0.free, I0.freeC, I0.pin, I0.hok, I0.len⟩
  refine wpAny_mono (ht.run [] s1 (start N vs) H _ I hq) (fun fl s' hs => ?_) fun e s' hs => hs
  cases fl with
  | ret u =>
    obtain ⟨v, σ', H', J, rv, q⟩ := hs
    exact ⟨v, H', J.os, J.bare, J.base, J.hok, rv, q⟩
  | next =>
    obtain ⟨σ', H', J, q⟩ := hs
    exact ⟨.non, H', J.os, J.bare, J.base, J.hok, rfl, q⟩
  | brk =>
    obtain ⟨_, _, _, q⟩ := hs
    exact q.elim
  | cont =>
    obtain ⟨_, _, _, q⟩ := hs
    exact q.elim
/-- the class at C has a def of one parameter under the name nm, also told of callers that handle an exception -/
structure CalUC (P : Program) (w : World) (K : PySem.W.Frag) (mg : Str → Option Value) (base : Heap) (k : Nat) (C : Addr) (nm : Str) (sp : Sp) : Prop where
  ex : ∃ f fd, FnC P w K mg base k f fd ["self"] sp ∧ PySem.W.findIn K (.ref C) nm = some (some (.ref f)) ∧ PySem.W.isFn K (.ref f) = true ∧ Binds K fd ["self"] []
theorem roomH_in1 {k : Nat} {A : Around} (r : RoomH (k + 1) A) : RoomH k A.in1 :=
  ⟨by have := r.dp; show A.depth + 3 * k + 5 < _; omega, by have := r.un; show A.units + 1 + 16 * k + 200 < _; omega⟩
/-- repr of a value of any kind: built-in data, or an instance of the class at C -/
def cReprA (K : PySem.W.Frag) (C : Addr) (sp : Sp) : List V → Hp → VK → Prop := fun xs H Q => ∃ v, xs = [v] ∧
  ((∃ d, Dp K H v d ∧ d.showable = true ∧ d.hasDict = false ∧ d.depth ≤ 10 ∧ d.shown.length ≤ sizeLine ∧ Q (.str d.shown) H) ∨
   ∃ a dx fs, v = .ref a ∧ H a = some (.ins C dx fs) ∧ sp [.ref a] H (fun z H' => ∃ y, z = .str y ∧ Q (.str y) H') E0)
theorem call_reprA {X : Cx} {k : Nat} {C : Addr} {sp : Sp} (c : CalUC X.prog X.w X.K X.mg X.base k C "__repr__" sp) (hg : X.A.guards = some []) (hr : RoomH (k + 1) X.A) : CallR X (.builtin "repr") (cReprA X.K C sp) := by
  intro pins s σ H xs us Q I r h
  obtain ⟨v, rfl, h⟩ := h
  obtain ⟨u, rfl, ru⟩ := vals1 r
  have hu := hr.un
  rcases h with ⟨d, hd, sh, nd, dp, sz, q⟩ | ⟨a, dx, fs, rfl, ha, q⟩
  · have go : ∀ {b : Addr}, Dp X.K H (.ref b) d → wpAny (model X.prog X.w) X.A (call (.builtin "repr") [.ref b]) (EP X pins σ Q) X.xe s := fun {b} hb => by
      obtain ⟨as, rd⟩ := Dp.reads I d (.ref b) (.ref b) hb rfl
      exact PySem.repr_of_reads' rd sh (fun e => by rw [nd] at e; cases e) hg (by omega) (fun b o e => e) (fun h' u tk hk => ⟨.str d.shown, H, I.kept hk, ⟨_, rfl⟩, q⟩) sz
    cases hd with
    | non =>
      cases (show u = Value.none from ru)
      exact PySem.P.repr_of_none ⟨.str _, H, I.tok _, ⟨_, rfl⟩, q⟩
    | bl b =>
      cases (show u = Value.bool b from ru)
      refine PySem.P.repr_of_bool ⟨.str _, H, I.tok _, ⟨_, rfl⟩, ?_⟩
      cases b <;> exact q
    | int i =>
      obtain ⟨t, rfl⟩ := (show ∃ t, u = Value.int i t from ru)
      refine PySem.P.repr_of_int (by simpa [PyData.showable] using sh) ⟨.str _, H, I.tok _, ⟨_, rfl⟩, q⟩
    | str x =>
      obtain ⟨t, rfl⟩ := (show ∃ t, u = Value.str x t from ru)
      exact PySem.P.repr_of_str ⟨.str _, H, I.tok _, ⟨_, rfl⟩, q⟩ sz
    | lst h1 h2 =>
      cases (show u = Value.ref _ from ru)
      exact go (.lst h1 h2)
    | tup h1 h2 =>
      cases (show u = Value.ref _ from ru)
      exact go (.tup h1 h2)
  · cases (show u = Value.ref a from ru)
    obtain ⟨f, fd, F, hs, hf, hb⟩ := c.ex
    obtain ⟨mA, J, _⟩ := ins_get I.hok ha
    obtain ⟨od, J, _⟩ := J.look
    obtain ⟨m, hF⟩ := I.fr
    have hl := F.len _ _ _ _ q
    have r2 : Vals [V.ref a] [Value.ref a] := .cons rfl .nil
    refine PySem.W.repr_K (by have := (roomH_in1 hr).un; omega) hF I.ok.mod.kin J hs hf ?_
    refine wpAny_call (codeAny_mono (F.run X.A.in1 X.stack s H ⟨[.ref a], []⟩ [.ref a] [.ref a] _ E0 (roomH_in1 hr) I.env0.in1 (by
      have := hb s [.ref a] I.kIn (by simpa using hl)
      simpa using this) r2 q) fun r s' hq => ?_)
    cases r with
    | error e => exact hq.elim
    | ok fl =>
      cases fl with
      | ret w =>
        obtain ⟨z, H', I', rz, y, rfl, qz⟩ := I.after hq
        obtain ⟨t, rfl⟩ := (show ∃ t, w = Value.str y t from rz)
        exact ⟨.str y, H', I', ⟨t, rfl⟩, qz⟩
      | next => exact False.elim hq
      | brk => exact False.elim hq
      | cont => exact False.elim hq
end Rv
namespace Rv
open PySem PySem.Spec PyProof.Rows L2
theorem str_empty (d : Str) : Str.empty ++ d = d := by
  cases d
  show (⟨#[] ++ _⟩ : Str) = _
  simp
theorem str_len (x y : Str) : (x ++ y).length = x.length + y.length := by
  show (x.cps ++ y.cps).size = _
  rw [Array.size_append]
  rfl
theorem len_p2 : (", " : Str).length = 2 := by decide +kernel
theorem len_p3 : (")" : Str).length = 1 := by decide +kernel
/-- all that lies at H lies at H', but for a list at f -/
def Kx (f : Addr) (H H' : Hp) : Prop := ∀ b o, H b = some o → ((∀ xs, o ≠ .lst xs) ∨ b ≠ f) → H' b = some o
theorem Kx.refl (f : Addr) (H : Hp) : Kx f H H := fun _ _ h _ => h
theorem ProfAt.kx {K : PySem.W.Frag} {C : Addr} {H H' : Hp} {f p : Addr} {hs ws : List Int} (h : ProfAt K C H p hs ws) (e : Kx f H H') : ProfAt K C H' p hs ws := by
  obtain ⟨dx, t1, t2, h0, h1, h2⟩ := h
  exact ⟨dx, t1, t2, e _ _ h0 (.inl fun _ z => nomatch z), e _ _ h1 (.inl fun _ z => nomatch z), e _ _ h2 (.inl fun _ z => nomatch z)⟩
theorem ProfAt.but {K : PySem.W.Frag} {C d : Addr} {H H' : Hp} {p : Addr} {hs ws : List Int} (h : ProfAt K C H p hs ws) (e : But d H H') (hd : ∃ xs, H d = some (.lst xs)) : ProfAt K C H' p hs ws := by
  obtain ⟨xs, hd⟩ := hd
  refine h.kx (f := d) fun b o hb q => ?_
  by_cases hbd : b = d
  · subst hbd
    rw [hd] at hb
    cases hb
    exact q.elim (fun z => absurd rfl (z xs)) fun z => absurd rfl z
  · exact e b o hbd hb
theorem map_set (xs : List Int) (i : Nat) (y : Int) : (xs.map V.int).set i (.int y) = (xs.set i y).map V.int := by rw [List.map_set]
theorem st_is {s : TS} {D : Ends} {σ : L2.St} (σ' : L2.St) {H : Hp} (e : σ = σ') (q : s D σ' H) : s D σ H := by
  subst e
  exact q
theorem ixN_nat {n i : Nat} (h : i < n) : ixN n (i : Int) = some i := by
  unfold ixN
  rw [if_pos (by omega), if_pos (by omega), Int.toNat_natCast]
structure OdC (K : PySem.W.Frag) (C : Addr) : Prop where
  ki : ∀ T, T ∈ ["NoneType", "bool", "str", "list", "tuple", "dict"] → PySem.W.kitOne K (.type T) (.ref C) = some false
  nf : ∀ T, T ∈ ["NoneType", "bool", "str", "list", "tuple", "dict"] → PySem.W.notFirst K C (.type T) = true
def OddR (H : Hp) (v : V) : Prop := v = .non ∨ (∃ b, v = .bl b) ∨ (∃ s, v = .str s) ∨ (∃ p xs, v = .ref p ∧ H p = some (.lst xs)) ∨ (∃ p xs, v = .ref p ∧ H p = some (.tup xs)) ∨ ∃ p kvs, v = .ref p ∧ H p = some (.dK kvs)
theorem OddR.same {H H' : Hp} {v : V} (h : OddR H v) (e : Same H H') : OddR H' v := by
  rcases h with h | h | h | ⟨p, xs, h1, h2⟩ | ⟨p, xs, h1, h2⟩ | ⟨p, xs, h1, h2⟩
  · exact .inl h
  · exact .inr (.inl h)
  · exact .inr (.inr (.inl h))
  · exact .inr (.inr (.inr (.inl ⟨p, xs, h1, e _ _ h2⟩)))
  · exact .inr (.inr (.inr (.inr (.inl ⟨p, xs, h1, e _ _ h2⟩))))
  · exact .inr (.inr (.inr (.inr (.inr ⟨p, xs, h1, e _ _ h2⟩))))
local macro_rules | `(tactic| walk_at "rv st") => `(tactic| first
  | with_reducible refine iteT ?_ | with_reducible refine iteF ?_ | with_reducible refine w_nx ?_ | with_reducible refine w_yes ?_ | with_reducible refine w_rt ?_ | with_reducible refine iteNT ?_ | with_reducible refine iteNF ?_ | with_reducible refine iteNRf ?_ | with_reducible refine iteRf ?_ | with_reducible refine w_seqA ?_ | with_reducible refine w_seqD ?_ | with_reducible refine w_seqP ?_ | with_reducible refine w_asg ?_ | with_reducible refine w_ret ?_ | with_reducible refine w_drop ?_ | with_reducible refine w_ifs ?_ | with_reducible refine w_next ?_ | with_reducible refine w_par ?_
  | with_reducible refine w_op ?_ | with_reducible refine w_un ?_ | ((with_reducible show tVar _ _ _ _); refine' w_var ?hv ?_; (case hv => exact rfl)) | with_reducible refine w_c ?_ | with_reducible refine w_test ?_ | with_reducible refine w_tB ?_
  | with_reducible refine w_bl ?_ | with_reducible refine w_I0 ?_ | with_reducible refine w_U ?_ | with_reducible refine w_eqI ?_ | with_reducible refine w_neI ?_
  | with_reducible refine w_cons ?_ | with_reducible refine w_nil ?_ | with_reducible refine w_gn ?_ | with_reducible refine w_gsub ?_ | with_reducible refine w_and ?_ | with_reducible refine w_or ?_ | with_reducible refine w_not ?_
  | with_reducible refine w_andV ?_ | with_reducible refine w_orV ?_ | with_reducible refine w_notV ?_ | with_reducible refine w_if ?_ | with_reducible refine w_cb ?_ | with_reducible refine w_call ?_ | with_reducible refine w_lst ?_ | with_reducible refine w_tup ?_
  | with_reducible refine w_sl ?_ | with_reducible refine w_noPart ?_ | with_reducible refine w_part ?_ | with_reducible refine w_ex1 ?_ | with_reducible refine w_exb ?_ | with_reducible refine w_intB ?_ | with_reducible refine w_intI ?_ | with_reducible refine w_abs ?_)
local macro_rules | `(tactic| walk_at "rv ix") => `(tactic| ((with_reducible show rIxL _ _ _ _ _); refine' w_ixL (sq_lst ?ha) ?hb ?_; (case ha => first | exact upd_same | assumption); (case hb => first | exact rfl | assumption)))
local macro_rules | `(tactic| walk_at "rv ar") => `(tactic| first
  | (refine' w_I ?hc ?_; (case hc => first | (show (0 : Int) < _; first | assumption | decide | omega) | exact pow_c (by decide) (by decide) (by first | decide | omega) (by first | decide | omega) | exact mul_r (by first | decide | omega) (by first | decide | omega) | exact mul_l (by first | decide | omega) (by first | decide | omega) | exact divw (by first | assumption | decide | omega) (by first | assumption | decide | omega))))
local macro_rules | `(tactic| walk_at "rv go") => `(tactic| repeat first | walk_at "rv st" | walk_at "rv ix" | ((with_reducible show rI _ _ _ _ _ _); walk_at "rv ar"))
section
variable {K : PySem.W.Frag} {C : Addr} {H : Hp} {Q : VK} {E : XK} {a b : Addr} {hs ws hs' ws' : List Int} {y : V}
theorem pfl_none (t1 t2 : Addr) {m : Str} (h1 : ¬ (m = "column_widths")) (h2 : ¬ (m = "column_heights")) : (pfl t1 t2).lookup m = none := by
  unfold pfl
  rw [lookup_putF, if_neg h1, lookup_putF, if_neg h2]
  rfl
end
theorem w_meth {σ : L2.St} {H : Hp} {Q : VK} {C : Addr} {m : Str} {sp : Sp} {E : XK} {ta : TE} {tr : TA} (q : ta σ H fun x H1 => ∃ a dx fs, x = .ref a ∧ H1 a = some (.ins C dx fs) ∧ fs.lookup m = none ∧ tr σ H1 fun vs H2 => sp (x :: (vs ++ [])) H2 Q E) : tMeth C m sp [] E ta tr σ H Q := q
end Rv
namespace Rv
open PySem PySem.Spec PyProof.Rows L2
def t_LimitExceeded___init__ (K : PySem.W.Frag) (C_LimitExceeded : Addr) : TS :=
  (tSeq (tDrop (tBaseI K C_LimitExceeded "OverflowError" "OverflowError.__new__" "OverflowError.__init__" bm_OverflowError (tCons (tVar 0) (tCons (tC (.str "limit exceeded")) tNil))))
    (tFst K C_LimitExceeded "OverflowError" "OverflowError.__new__" "OverflowError.__init__" bm_OverflowError "limit" (tVar 0) (tVar 1)))
local macro_rules | `(tactic| walk_at "rv st") => `(tactic| first
  | with_reducible refine iteT ?_ | with_reducible refine iteF ?_ | with_reducible refine w_nx ?_ | with_reducible refine w_yes ?_ | with_reducible refine w_rt ?_ | with_reducible refine iteNT ?_ | with_reducible refine iteNF ?_ | with_reducible refine iteNRf ?_ | with_reducible refine iteRf ?_ | with_reducible refine w_seqA ?_ | with_reducible refine w_seqD ?_ | with_reducible refine w_seqP ?_ | with_reducible refine w_asg ?_ | with_reducible refine w_ret ?_ | with_reducible refine w_drop ?_ | with_reducible refine w_ifs ?_ | with_reducible refine w_next ?_ | with_reducible refine w_par ?_
  | with_reducible refine w_op ?_ | with_reducible refine w_un ?_ | ((with_reducible show tVar _ _ _ _); refine' w_var ?hv ?_; (case hv => exact rfl)) | with_reducible refine w_c ?_ | with_reducible refine w_test ?_ | with_reducible refine w_tB ?_
  | with_reducible refine w_bl ?_ | with_reducible refine w_I0 ?_ | with_reducible refine w_U ?_ | with_reducible refine w_eqI ?_ | with_reducible refine w_neI ?_
  | with_reducible refine w_cons ?_ | with_reducible refine w_nil ?_ | with_reducible refine w_gn ?_ | with_reducible refine w_gsub ?_ | with_reducible refine w_and ?_ | with_reducible refine w_or ?_ | with_reducible refine w_not ?_
  | with_reducible refine w_andV ?_ | with_reducible refine w_orV ?_ | with_reducible refine w_notV ?_ | with_reducible refine w_if ?_ | with_reducible refine w_cb ?_ | with_reducible refine w_call ?_ | with_reducible refine w_lst ?_ | with_reducible refine w_tup ?_
  | with_reducible refine w_sl ?_ | with_reducible refine w_noPart ?_ | with_reducible refine w_part ?_ | with_reducible refine w_ex1 ?_ | with_reducible refine w_exb ?_ | with_reducible refine w_intB ?_ | with_reducible refine w_intI ?_ | with_reducible refine w_abs ?_)
local macro_rules | `(tactic| walk_at "rv ix") => `(tactic| ((with_reducible show rIxL _ _ _ _ _); refine' w_ixL (sq_lst ?ha) ?hb ?_; (case ha => first | exact upd_same | assumption); (case hb => first | exact rfl | assumption)))
local macro_rules | `(tactic| walk_at "rv ar") => `(tactic| first
  | (refine' w_I ?hc ?_; (case hc => first | (show (0 : Int) < _; first | assumption | decide | omega) | exact pow_c (by decide) (by decide) (by first | decide | omega) (by first | decide | omega) | exact mul_r (by first | decide | omega) (by first | decide | omega) | exact mul_l (by first | decide | omega) (by first | decide | omega) | exact divw (by first | assumption | decide | omega) (by first | assumption | decide | omega))))
local macro_rules | `(tactic| walk_at "rv go") => `(tactic| repeat first | walk_at "rv st" | walk_at "rv ix" | ((with_reducible show rI _ _ _ _ _ _); walk_at "rv ar"))
theorem p_limI {K : PySem.W.Frag} {C : Addr} {vs : List V} {H : Hp} {Q : VK} {E : XK} (h : spExc K C "OverflowError" "OverflowError.__new__" "OverflowError.__init__" bm_OverflowError "limit" vs H Q E) : t_LimitExceeded___init__ K C { nx := fun _ H' => Q .non H', rt := Q } (start ["self", "limit"] vs) H := p_exc "limit exceeded" h fun _ _ => rfl
theorem w_xf {σ : L2.St} {H : Hp} {Q : VK} {a C dd : Addr} {n : Nat} {f : Str} {fs : List (Str × V)} {v : V} (hn : σ[n]? = some (some (.ref a))) (hd : H dd = some (.xd fs)) (hl : fs.lookup f = some v) (q : Q v H) : tXf a (.ref C) (some dd) C f (tVar n) σ H Q := ⟨_, hn, rfl, rfl, dd, fs, v, rfl, hd, hl, q⟩
theorem w_isD {K : PySem.W.Frag} {H : Hp} {Q : VK} {D a dd : Addr} {fs : List (Str × V)} {c : V} {cv : Value} {b : Bool} (hc : ∀ u, RelV c u → u = cv) (hd : H dd = some (.xd fs)) (hk : PySem.W.kitOne K (.ref D) cv = some b) (q : Q (.bl b) H) : rIsD K D a (.ref D) (some dd) [.ref a, c] H Q := ⟨rfl, c, cv, b, dd, fs, rfl, hc, rfl, hd, hk, q⟩
theorem sok_str (s : String) : PyData.strOk (Str.ofString s) = true := by
  unfold PyData.strOk Str.ofString
  rw [cpsOfBytes_string]
  simp only [List.all_toArray, List.all_map, List.all_eq_true, Function.comp, decide_eq_true_eq]
  intro c _
  have h := c.valid
  simp only [UInt32.isValidChar, Nat.isValidChar] at h
  show c.val.toNat < _
  omega
theorem sok_app {a b : Str} (h : PyData.strOk a = true) (g : PyData.strOk b = true) : PyData.strOk (a ++ b) = true := by
  unfold PyData.strOk at *
  show (a.cps ++ b.cps).all _ = true
  rw [Array.all_append, h, g]
  rfl
theorem sql_same {K : PySem.W.Frag} {H H' : Hp} {a : Addr} {xs : List V} (h : SqL K H a xs) (e : Same H H') : SqL K H' a xs := by
  rcases h with (h | ⟨o, h⟩) | h
  · exact .inl (.inl (e _ _ h))
  · exact .inl (.inr ⟨o, e _ _ h⟩)
  · exact .inr h
mutual
theorem dp_same {K : PySem.W.Frag} {H H' : Hp} (e : Same H H') : ∀ (d : PyData) (v : V), Dp K H v d → Dp K H' v d
  | .none, _, h => by cases h; exact .non
  | .bool b, _, h => by cases h; exact .bl b
  | .int i, _, h => by cases h; exact .int i
  | .str x, _, h => by cases h; exact .str x
  | .list ds, _, h => by
    cases h with
    | lst h1 h2 => exact .lst (sql_same h1 e) (dp_sameA e ds _ h2)
  | .tuple ds, _, h => by
    cases h with
    | tup h1 h2 => exact .tup (sqT_same0 h1 e) (dp_sameA e ds _ h2)
  | .dict _, _, h => by cases h
theorem dp_sameA {K : PySem.W.Frag} {H H' : Hp} (e : Same H H') : ∀ (ds : List PyData) (vs : List V), DpAll K H vs ds → DpAll K H' vs ds
  | [], _, h => by cases h; exact .nil
  | d :: r, _, h => by
    cases h with
    | cons h1 h2 => exact .cons (dp_same e d _ h1) (dp_sameA e r _ h2)
end
theorem neD_same {K : PySem.W.Frag} {H : Hp} {Q : VK} {x y : V} {d : PyData} (h1 : Dp K H x d) (h2 : Dp K H y d) (s : SeqAt.shaped d = true) (q : Q (.bl false) H) : rNeD K x y H Q := by
  refine ⟨d, d, h1, h2, s, s, ?_⟩
  rw [SeqAt.eqv_refl _ (SeqAt.canLay_of_shaped s)]
  exact q
end Rv
namespace Rv
open PySem PySem.Spec PyProof.Rows L2
local macro_rules | `(tactic| walk_at "rv st") => `(tactic| first
  | with_reducible refine iteT ?_ | with_reducible refine iteF ?_ | with_reducible refine w_nx ?_ | with_reducible refine w_yes ?_ | with_reducible refine w_rt ?_ | with_reducible refine iteNT ?_ | with_reducible refine iteNF ?_ | with_reducible refine iteNRf ?_ | with_reducible refine iteRf ?_ | with_reducible refine w_seqA ?_ | with_reducible refine w_seqD ?_ | with_reducible refine w_seqP ?_ | with_reducible refine w_asg ?_ | with_reducible refine w_ret ?_ | with_reducible refine w_drop ?_ | with_reducible refine w_ifs ?_ | with_reducible refine w_next ?_ | with_reducible refine w_par ?_
  | with_reducible refine w_op ?_ | with_reducible refine w_un ?_ | ((with_reducible show tVar _ _ _ _); refine' w_var ?hv ?_; (case hv => exact rfl)) | with_reducible refine w_c ?_ | with_reducible refine w_test ?_ | with_reducible refine w_tB ?_
  | with_reducible refine w_bl ?_ | with_reducible refine w_I0 ?_ | with_reducible refine w_U ?_ | with_reducible refine w_eqI ?_ | with_reducible refine w_neI ?_
  | with_reducible refine w_cons ?_ | with_reducible refine w_nil ?_ | with_reducible refine w_gn ?_ | with_reducible refine w_gsub ?_ | with_reducible refine w_and ?_ | with_reducible refine w_or ?_ | with_reducible refine w_not ?_
  | with_reducible refine w_andV ?_ | with_reducible refine w_orV ?_ | with_reducible refine w_notV ?_ | with_reducible refine w_if ?_ | with_reducible refine w_cb ?_ | with_reducible refine w_call ?_ | with_reducible refine w_lst ?_ | with_reducible refine w_tup ?_
  | with_reducible refine w_sl ?_ | with_reducible refine w_noPart ?_ | with_reducible refine w_part ?_ | with_reducible refine w_ex1 ?_ | with_reducible refine w_exb ?_ | with_reducible refine w_intB ?_ | with_reducible refine w_intI ?_ | with_reducible refine w_abs ?_)
local macro_rules | `(tactic| walk_at "rv ix") => `(tactic| ((with_reducible show rIxL _ _ _ _ _); refine' w_ixL (sq_lst ?ha) ?hb ?_; (case ha => first | exact upd_same | assumption); (case hb => first | exact rfl | assumption)))
local macro_rules | `(tactic| walk_at "rv ar") => `(tactic| first
  | (refine' w_I ?hc ?_; (case hc => first | (show (0 : Int) < _; first | assumption | decide | omega) | exact pow_c (by decide) (by decide) (by first | decide | omega) (by first | decide | omega) | exact mul_r (by first | decide | omega) (by first | decide | omega) | exact mul_l (by first | decide | omega) (by first | decide | omega) | exact divw (by first | assumption | decide | omega) (by first | assumption | decide | omega))))
local macro_rules | `(tactic| walk_at "rv go") => `(tactic| repeat first | walk_at "rv st" | walk_at "rv ix" | ((with_reducible show rI _ _ _ _ _ _); walk_at "rv ar"))
theorem roomH_any {k : Nat} {A A' : Around} (r : Room k A) (hd : A'.depth = A.depth := by rfl) (hu : A'.units = A.units := by rfl) : L2H.RoomH k A' := ⟨by rw [hd]; exact r.dp, by rw [hu]; exact r.un⟩
/-- the text of a fraction's repr -/
def rtext (t b : Int) : Str := ((((("Ratio(" : Str) ++ (toString t : String)) ++ (", " : Str)) ++ (toString b : String)) ++ (")" : Str))
theorem rtext_ok (t b : Int) : PyData.strOk (rtext t b) = true := sok_app (sok_app (sok_app (sok_app (sok_str _) (sok_str _)) (sok_str _)) (sok_str _)) (sok_str _)
/-- what is told of the class Ratio beside RCls -/
def RKi (K : PySem.W.Frag) (C : Addr) : Prop := PySem.W.kitOne K (.ref C) (.type "int") = some false
/-- a value that the law hands in, and its repr's text -/
inductive Odd (C : Addr) (H : Hp) : V → Str → Prop where
  | non : Odd C H .non (PyData.none).shown
  | bl (b : Bool) : Odd C H (.bl b) (PyData.bool b).shown
  | int (i : Int) (h : i.natAbs < 10 ^ 40) : Odd C H (.int i) (PyData.int i).shown
  | str (x : Str) (h1 : PyData.strOk (reprText x) = true) (h2 : (reprText x).length ≤ 1000) : Odd C H (.str x) (PyData.str x).shown
  | tup {a : Addr} (zs : List Int) (h : H a = some (.tup (zs.map V.int))) (hl : zs.length ≤ 1) (hz : ∀ z ∈ zs, z.natAbs < 10 ^ 32) (h1 : PyData.strOk (PyData.tuple (zs.map PyData.int)).shown = true) (h2 : (PyData.tuple (zs.map PyData.int)).shown.length ≤ 1000) : Odd C H (.ref a) (PyData.tuple (zs.map PyData.int)).shown
  | lst {a : Addr} (zs : List Int) (h : H a = some (.lst (zs.map V.int))) (hl : zs.length ≤ 1) (hz : ∀ z ∈ zs, z.natAbs < 10 ^ 32) (h1 : PyData.strOk (PyData.list (zs.map PyData.int)).shown = true) (h2 : (PyData.list (zs.map PyData.int)).shown.length ≤ 1000) : Odd C H (.ref a) (PyData.list (zs.map PyData.int)).shown
  | rat {a : Addr} (t b : Int) (h : RatAt C H a t b) (ht : t.natAbs < 10 ^ 40) (hb : b.natAbs < 10 ^ 40) : Odd C H (.ref a) (rtext t b)
theorem Odd.same {C : Addr} {H H' : Hp} {v : V} {y : Str} (o : Odd C H v y) (e : Same H H') : Odd C H' v y := by
  cases o with
  | non => exact .non
  | bl b => exact .bl b
  | int i h => exact .int i h
  | str x h1 h2 => exact .str x h1 h2
  | tup zs h hl hz h1 h2 => exact .tup zs (e _ _ h) hl hz h1 h2
  | lst zs h hl hz h1 h2 => exact .lst zs (e _ _ h) hl hz h1 h2
  | rat t b h ht hb => exact .rat t b (h.same e) ht hb
theorem Odd.but {C : Addr} {H H' : Hp} {v : V} {y : Str} {d c : Addr} (o : Odd C H v y) (D : DrawsAt H d c) (e : But d H H') : Odd C H' v y := by
  obtain ⟨ns, pos, num, seed, q, _⟩ := D
  cases o with
  | non => exact .non
  | bl b => exact .bl b
  | int i h => exact .int i h
  | str x h1 h2 => exact .str x h1 h2
  | tup zs h hl hz h1 h2 => exact .tup zs (e _ _ (fun z => by rw [z, q] at h; cases h) h) hl hz h1 h2
  | lst zs h hl hz h1 h2 =>
    refine .lst zs (e _ _ (fun z => ?_) h) hl hz h1 h2
    rw [z, q] at h
    have g := congrArg List.length (HO.lst.inj (Option.some.inj h))
    rw [List.length_map] at g
    simp at g
    omega
  | rat t b h ht hb =>
    obtain ⟨l, dx, h⟩ := h
    exact .rat t b ⟨l, dx, e _ _ (fun z => by rw [z, q] at h; cases h) h⟩ ht hb
theorem Odd.ok {C : Addr} {H : Hp} {v : V} {y : Str} (o : Odd C H v y) : PyData.strOk y = true := by
  cases o with
  | non => exact sok_str "None"
  | bl b =>
    cases b
    · exact sok_str "False"
    · exact sok_str "True"
  | int i h => exact sok_str _
  | str x h1 h2 => exact h1
  | tup zs h hl hz h1 h2 => exact h1
  | lst zs h hl hz h1 h2 => exact h1
  | rat t b h ht hb => exact rtext_ok t b
theorem big_log {z : Int} (h : z.natAbs < 10 ^ 40) : z.natAbs.log2 < 1920 := by
  by_cases h0 : z.natAbs = 0
  · rw [h0]; decide
  · exact (Nat.log2_lt h0).mpr (Nat.lt_of_lt_of_le h (by decide))
theorem big_text {z : Int} (h : z.natAbs < 10 ^ 40) : (Str.ofString (toString z)).length ≤ 41 := by
  have := int_text_length_le10 (k := 40) (by decide) h
  rw [PySem.ofString_length]
  exact this
theorem Odd.wh {K : PySem.W.Frag} {C : Addr} {H : Hp} {v : V} {y : Str} (R : RCls K C) (k : RKi K C) (o : Odd C H v y) : Whole K H v := by
  cases o with
  | non => exact .other (t := .type "NoneType") (.base .non) (kit_ty (by decide +kernel)) fun i z => nomatch z
  | bl b => exact .bl b
  | int i h => exact .int i
  | str x h1 h2 => exact .other (t := .type "str") (.base (.str x)) (kit_ty (by decide +kernel)) fun i z => nomatch z
  | tup zs h hl hz h1 h2 => exact .other (t := .type "tuple") (.base (.tup h)) (kit_ty (by decide +kernel)) fun i z => nomatch z
  | lst zs h hl hz h1 h2 => exact .other (t := .type "list") (.base (.lst h)) (kit_ty (by decide +kernel)) fun i z => nomatch z
  | rat t b h ht hb =>
    obtain ⟨l, dx, h⟩ := h
    exact .other (t := .ref C) (.base (.ins h R.cl R.cA R.cG R.cT R.cM)) k fun i z => nomatch z
/-- repr(fraction) -/
def spRRepr (K : PySem.W.Frag) (C : Addr) : Sp := fun vs H Q _ => ∃ a t b, vs = [.ref a] ∧ RCls K C ∧ RatAt C H a t b ∧ t.natAbs < 10 ^ 40 ∧ b.natAbs < 10 ^ 40 ∧ Q (.str (rtext t b)) H
def t_Ratio___repr__ (K : PySem.W.Frag) (C_Ratio : Addr) : TS :=
  (tRet (tJoin [(tC (.str "Ratio(")), (tFmt (tFld K (tVar 0) "reduced_top")), (tC (.str ", ")), (tFmt (tFld K (tVar 0) "reduced_bottom")), (tC (.str ")"))]))
theorem Odd.rp {K : PySem.W.Frag} {C : Addr} {H : Hp} {Q : VK} {v : V} {y : Str} (R : RCls K C) (o : Odd C H v y) (q : Q (.str y) H) : cReprA K C (spRRepr K C) [v] H Q := by
  have sb := sizeLine_big
  refine ⟨v, rfl, ?_⟩
  cases o with
  | non => exact .inl ⟨.none, .non, by simp [PyData.showable], by simp [PyData.hasDict], by simp [PyData.depth], by show (Str.ofString "None").length ≤ sizeLine; decide, q⟩
  | bl b => exact .inl ⟨.bool b, .bl b, by simp [PyData.showable], by simp [PyData.hasDict], by simp [PyData.depth], by cases b <;> decide, q⟩
  | int i h => exact .inl ⟨.int i, .int i, by simpa [PyData.showable] using big_log h, by simp [PyData.hasDict], by simp [PyData.depth], by have := big_text h; show (Str.ofString (toString i)).length ≤ sizeLine; omega, q⟩
  | str x h1 h2 => exact .inl ⟨.str x, .str x, by simp [PyData.showable], by simp [PyData.hasDict], by simp [PyData.depth], by show (reprText x).length ≤ sizeLine; omega, q⟩
  | tup zs h hl hz h1 h2 => exact .inl ⟨.tuple (zs.map PyData.int), .tup (sq_tup h) (dp_ints zs), by simpa [PyData.showable] using ints_showable hz, by simp [PyData.hasDict, ints_dict], by have := (lay_ints zs).2; simp only [PyData.depth, this]; omega, by omega, q⟩
  | lst zs h hl hz h1 h2 => exact .inl ⟨.list (zs.map PyData.int), .lst (sq_lst h) (dp_ints zs), by simpa [PyData.showable] using ints_showable hz, by simp [PyData.hasDict, ints_dict], by have := (lay_ints zs).2; simp only [PyData.depth, this]; omega, by omega, q⟩
  | @rat a t b h ht hb =>
    obtain ⟨l, dx, h'⟩ := id h
    exact .inr ⟨a, dx, _, rfl, h', a, t, b, rfl, R, h, ht, hb, _, rfl, q⟩
theorem p_rrepr {K : PySem.W.Frag} {C : Addr} {vs : List V} {H : Hp} {Q : VK} {E : XK} (h : spRRepr K C vs H Q E) : t_Ratio___repr__ K C { nx := fun _ H' => Q .non H', rt := Q } (start ["self"] vs) H := by
  obtain ⟨a, t, b, rfl, R, hq, ht, hb, k⟩ := h
  obtain ⟨l, dx, ha⟩ := hq
  have sb := sizeLine_big
  have z1 := big_text ht
  have z2 := big_text hb
  have l1 : ("Ratio(" : Str).length = 6 := by decide +kernel
  unfold t_Ratio___repr__
  walk_at "rv go"
  refine w_join ?_
  refine w_js ?_
  walk_at "rv go"
  refine ⟨_, rfl, by rw [str_empty, l1]; omega, ?_⟩
  rw [str_empty]
  refine w_js ?_
  show tFld K (tVar 0) "reduced_top" _ _ _
  refine w_fld rfl ha R.cl R.nT (rfl2_t _ _) ?_
  refine .inr ⟨t, rfl, big_log ht, ?_⟩
  refine ⟨_, rfl, by rw [str_len, l1]; omega, ?_⟩
  refine w_js ?_
  walk_at "rv go"
  refine ⟨_, rfl, by rw [str_len, str_len, l1, len_p2]; omega, ?_⟩
  refine w_js ?_
  show tFld K (tVar 0) "reduced_bottom" _ _ _
  refine w_fld rfl ha R.cl R.nB (rfl2_b _ _) ?_
  refine .inr ⟨b, rfl, big_log hb, ?_⟩
  refine ⟨_, rfl, by rw [str_len, str_len, str_len, l1, len_p2]; omega, ?_⟩
  refine w_js ?_
  walk_at "rv go"
  refine ⟨_, rfl, by rw [str_len, str_len, str_len, str_len, l1, len_p2, len_p3]; omega, ?_⟩
  exact k
end Rv
namespace Rv
open PySem PySem.Spec PyProof.Rows L2
local macro_rules | `(tactic| walk_at "rv st") => `(tactic| first
  | with_reducible refine iteT ?_ | with_reducible refine iteF ?_ | with_reducible refine w_nx ?_ | with_reducible refine w_yes ?_ | with_reducible refine w_rt ?_ | with_reducible refine iteNT ?_ | with_reducible refine iteNF ?_ | with_reducible refine iteNRf ?_ | with_reducible refine iteRf ?_ | with_reducible refine w_seqA ?_ | with_reducible refine w_seqD ?_ | with_reducible refine w_seqP ?_ | with_reducible refine w_asg ?_ | with_reducible refine w_ret ?_ | with_reducible refine w_drop ?_ | with_reducible refine w_ifs ?_ | with_reducible refine w_next ?_ | with_reducible refine w_par ?_
  | with_reducible refine w_op ?_ | with_reducible refine w_un ?_ | ((with_reducible show tVar _ _ _ _); refine' w_var ?hv ?_; (case hv => exact rfl)) | with_reducible refine w_c ?_ | with_reducible refine w_test ?_ | with_reducible refine w_tB ?_
  | with_reducible refine w_bl ?_ | with_reducible refine w_I0 ?_ | with_reducible refine w_U ?_ | with_reducible refine w_eqI ?_ | with_reducible refine w_neI ?_
  | with_reducible refine w_cons ?_ | with_reducible refine w_nil ?_ | with_reducible refine w_gn ?_ | with_reducible refine w_gsub ?_ | with_reducible refine w_and ?_ | with_reducible refine w_or ?_ | with_reducible refine w_not ?_
  | with_reducible refine w_andV ?_ | with_reducible refine w_orV ?_ | with_reducible refine w_notV ?_ | with_reducible refine w_if ?_ | with_reducible refine w_cb ?_ | with_reducible refine w_call ?_ | with_reducible refine w_lst ?_ | with_reducible refine w_tup ?_
  | with_reducible refine w_sl ?_ | with_reducible refine w_noPart ?_ | with_reducible refine w_part ?_ | with_reducible refine w_ex1 ?_ | with_reducible refine w_exb ?_ | with_reducible refine w_intB ?_ | with_reducible refine w_intI ?_ | with_reducible refine w_abs ?_)
local macro_rules | `(tactic| walk_at "rv ix") => `(tactic| ((with_reducible show rIxL _ _ _ _ _); refine' w_ixL (sq_lst ?ha) ?hb ?_; (case ha => first | exact upd_same | assumption); (case hb => first | exact rfl | assumption)))
local macro_rules | `(tactic| walk_at "rv ar") => `(tactic| first
  | (refine' w_I ?hc ?_; (case hc => first | (show (0 : Int) < _; first | assumption | decide | omega) | exact pow_c (by decide) (by decide) (by first | decide | omega) (by first | decide | omega) | exact mul_r (by first | decide | omega) (by first | decide | omega) | exact mul_l (by first | decide | omega) (by first | decide | omega) | exact divw (by first | assumption | decide | omega) (by first | assumption | decide | omega))))
local macro_rules | `(tactic| walk_at "rv go") => `(tactic| repeat first | walk_at "rv st" | walk_at "rv ix" | ((with_reducible show rI _ _ _ _ _ _); walk_at "rv ar"))
/-- one column higher -/
def rsX (hs : List Int) (c : Nat) (r : Int) : List Int := hs.set c (hN hs c + r)
theorem rsX_len {hs : List Int} {c : Nat} {r : Int} : (rsX hs c r).length = hs.length := List.length_set
theorem rsX_ok {hs ws : List Int} {c : Nat} {r : Int} (ok : PrOk hs ws) (h : c < hs.length) (k : HOk1 (hN hs c + r)) : PrOk (rsX hs c r) ws := by
  refine ⟨by rw [rsX_len]; exact ok.pos, by rw [rsX_len]; exact ok.le, by rw [rsX_len]; exact ok.eq, fun z hz => ?_, ok.ww⟩
  rcases List.mem_or_eq_of_mem_set hz with q | q
  · exact ok.hh z q
  · rw [q]
    exact k
theorem rsX_bad {hs : List Int} {c : Nat} {r : Int} (h : c < hs.length) (k : ¬ HOk1 (hN hs c + r)) : ¬ (∀ z ∈ rsX hs c r, HOk1 z) := fun g => k (g _ (by
  unfold rsX
  exact List.mem_iff_getElem?.mpr ⟨c, List.getElem?_set_self h⟩))
theorem lst_callR {K : PySem.W.Frag} {H : Hp} {Q : VK} {a : Addr} {xs : List V} (h : RowAt K H a xs) (k : ∀ l, H l = none → Q (.ref l) (upd H l (.lst xs))) : cList K [.ref a] H Q := ⟨a, xs, rfl, h.elim (fun h => .inl (sq_lst h)) (fun h => .inr (sq_tup h)), k⟩
theorem outs_ints {lo hi : Int} : ∀ (zs : List Int) (n : Nat), ¬ (∀ z ∈ zs, lo ≤ z ∧ z ≤ hi) → ∃ k : Nat, outs lo hi (zs.map V.int) n = .int (k : Int)
  | [], _, h => absurd (fun z hz => nomatch hz) h
  | z :: r, n, h => by
    show ∃ k : Nat, (if (decide (lo ≤ z) && decide (z ≤ hi)) = true then outs lo hi (r.map V.int) (n + 1) else .int (n : Int)) = .int (k : Int)
    by_cases c : lo ≤ z ∧ z ≤ hi
    · rw [decide_eq_true c.1, decide_eq_true c.2, Bool.and_self, if_pos rfl]
      refine outs_ints r (n + 1) fun g => h fun y hy => ?_
      rcases List.mem_cons.mp hy with rfl | hy
      · exact c
      · exact g y hy
    · have e : (decide (lo ≤ z) && decide (z ≤ hi)) = false := by
        cases q : (decide (lo ≤ z) && decide (z ≤ hi)) with
        | false => rfl
        | true =>
          rw [Bool.and_eq_true, decide_eq_true_eq, decide_eq_true_eq] at q
          exact absurd q c
      rw [e]
      exact ⟨n, rfl⟩
theorem outside_two {K : PySem.W.Frag} {H : Hp} {Q : VK} {E : XK} {a : Addr} {lo hi : Int} {zs : List Int} (h : RowAt K H a (zs.map V.int)) (k1 : (∀ z ∈ zs, lo ≤ z ∧ z ≤ hi) → ∀ H', Same H H' → Q .non H') (k2 : ¬ (∀ z ∈ zs, lo ≤ z ∧ z ≤ hi) → ∀ H' (k : Int), Same H H' → Q (.int k) H') :
    spOutside K ([.ref a, .int lo, .int hi] ++ []) H Q E := by
  by_cases c : ∀ z ∈ zs, lo ≤ z ∧ z ≤ hi
  · exact outside_call h c (k1 c)
  · obtain ⟨k, e⟩ := outs_ints zs 0 c
    refine ⟨a, lo, hi, _, rfl, h.elim (fun h => .inl (sq_lst h)) (fun h => .inr (sq_tup h)), fun x hx => ?_, fun H' e' => ?_⟩
    · obtain ⟨z, _, rfl⟩ := List.mem_map.mp hx
      exact .int z
    · rw [e]
      exact k2 c H' k e'
/-- a row of columns that has grown; it may have outgrown the limit -/
def spGrownX (K : PySem.W.Frag) (C CL : Addr) : Sp := fun vs H Q E => ∃ a b hs ws, vs = [.ref a, .ref b] ∧ PCls K C ∧ OexG K CL "OverflowError" "OverflowError.__new__" "OverflowError.__init__" bm_OverflowError ∧ PySem.W.findIn K (.ref CL) "limit" = some none ∧
  RowAt K H a (hs.map V.int) ∧ RowAt K H b (ws.map V.int) ∧ 1 ≤ hs.length ∧ hs.length ≤ 60 ∧ ws.length = hs.length ∧
  ((∀ z ∈ hs, HOk1 z) → (∀ z ∈ ws, WOk1 z) → ∀ p H', H p = none → Same H H' → ProfAt K C H' p hs ws → Q (.ref p) H') ∧
  (¬ ((∀ z ∈ hs, HOk1 z) ∧ (∀ z ∈ ws, WOk1 z)) → ∀ d H', H d = none → Same H H' → H' d = some (.xd [("limit", .int 1000000000000000000000000000000)]) → E (.ref CL) (some d) H')
def t_grown_profileX (K : PySem.W.Frag) (C_Profile : Addr) (C_LimitExceeded : Addr) (E : XK) : TS :=
  (tSeq (tIfS (tTest (tOp oNotN (tCall (spOutside K) [] E0 (tCons (tVar 0) (tCons (tUn (rU fun i => .int (-i)) (tC (.int 1000000000000000000000000000000))) (tCons (tC (.int 1000000000000000000000000000000)) tNil)))) (tC .non))) (tRaise (tMkO C_LimitExceeded (spExc K C_LimitExceeded "OverflowError" "OverflowError.__new__" "OverflowError.__init__" bm_OverflowError "limit") [] (tCons (tC (.int 1000000000000000000000000000000)) tNil)) E) tNext)
    (tSeq (tIfS (tTest (tOp oNotN (tCall (spOutside K) [] E0 (tCons (tVar 1) (tCons (tC (.int 1)) (tCons (tC (.int 1000000000000000000000000000000)) tNil)))) (tC .non))) (tRaise (tMkO C_LimitExceeded (spExc K C_LimitExceeded "OverflowError" "OverflowError.__new__" "OverflowError.__init__" bm_OverflowError "limit") [] (tCons (tC (.int 1000000000000000000000000000000)) tNil)) E) tNext)
    (tRet (tMake C_Profile (spInit K C_Profile) [] E0 (tCons (tVar 0) (tCons (tVar 1) tNil))))))
theorem free_same {H H' : Hp} {l : Addr} (e : Same H H') (n : H' l = none) : H l = none := by
  cases q : H l with
  | none => rfl
  | some o =>
    rw [e _ _ q] at n
    cases n
theorem p_grownX {K : PySem.W.Frag} {C CL : Addr} {vs : List V} {H : Hp} {Q : VK} {E : XK} (h : spGrownX K C CL vs H Q E) : t_grown_profileX K C CL E { nx := fun _ H' => Q .non H', rt := Q } (start ["heights", "widths"] vs) H := by
  obtain ⟨a, b, hs, ws, rfl, P, T, no, ha, hb, l1, l60, le, k1, k2⟩ := h
  unfold t_grown_profileX
  refine w_seq ?_
  walk_at "rv go"
  refine outside_two ha (fun z H1 e1 => ?_) (fun z H1 k e1 => ?_)
  · refine ⟨rfl, _, rfl, ?_⟩
    walk_at "rv go"
    refine w_seq ?_
    walk_at "rv go"
    refine outside_two (hb.same e1) (fun z' H2 e2 => ?_) (fun z' H2 k e2 => ?_)
    · refine ⟨rfl, _, rfl, ?_⟩
      walk_at "rv go"
      refine w_make ?_
      walk_at "rv go"
      have e12 := e1.trans e2
      refine mk_profR (Q := fun x H' => Q (.ref x) H') (us := [.ref a, .ref b]) (dvs := []) rfl P (ha.same e12) l1 l60 z (.inr ⟨b, rfl, hb.same e12, le, z'⟩) fun p H3 np e3 hp => ?_
      exact k1 z z' p H3 (free_same e12 np) (e12.trans e3) hp
    · refine ⟨rfl, _, rfl, ?_⟩
      rw [decide_eq_false (show ¬ (V.int k = V.non) from fun z => nomatch z)]
      walk_at "rv go"
      refine w_raise ?_
      refine w_mkO ?_
      walk_at "rv go"
      have e12 := e1.trans e2
      exact exc_new T no fun d H' nd e hd => k2 (fun g => z' g.2) d H' (free_same e12 nd) (e12.trans e) hd
  · refine ⟨rfl, _, rfl, ?_⟩
    rw [decide_eq_false (show ¬ (V.int k = V.non) from fun z => nomatch z)]
    walk_at "rv go"
    refine w_raise ?_
    refine w_mkO ?_
    walk_at "rv go"
    exact exc_new T no fun d H' nd e hd => k2 (fun g => z g.1) d H' (free_same e1 nd) (e1.trans e) hd
end Rv
namespace Rv
open PySem PySem.Spec PyProof.Rows L2
/-- three own exceptions -/
structure OX3 (K : PySem.W.Frag) (CL CC CN : Addr) : Prop where
  oL : OexG K CL "OverflowError" "OverflowError.__new__" "OverflowError.__init__" bm_OverflowError
  oC : OexG K CC "IndexError" "IndexError.__new__" "IndexError.__init__" bm_IndexError
  oN : OexG K CN "ValueError" "ValueError.__new__" "ValueError.__init__" bm_ValueError
  fL : PySem.W.findIn K (.ref CL) "limit" = some none
  fC : PySem.W.findIn K (.ref CC) "value" = some none
  fN : PySem.W.findIn K (.ref CN) "value" = some none
/-- which clause takes which -/
structure EM3 (K : PySem.W.Frag) (CL CC CN : Addr) : Prop where
  cc : PySem.W.exmOne K (.ref CC) (.ref CC) = some true
  nc : PySem.W.exmOne K (.ref CN) (.ref CC) = some false
  nn : PySem.W.exmOne K (.ref CN) (.ref CN) = some true
  lc : PySem.W.exmOne K (.ref CL) (.ref CC) = some false
  ln : PySem.W.exmOne K (.ref CL) (.ref CN) = some false
  ll : PySem.W.exmOne K (.ref CL) (.ref CL) = some true
/-- what they are -/
structure KI3 (K : PySem.W.Frag) (CL CC CN CR : Addr) : Prop where
  cI : PySem.W.kitOne K (.ref CC) (.type "IndexError") = some true
  cR : PySem.W.kitOne K (.ref CC) (.ref CR) = some false
  nR : PySem.W.kitOne K (.ref CN) (.ref CR) = some true
  nI : PySem.W.kitOne K (.ref CN) (.type "IndexError") = some false
  lO : PySem.W.kitOne K (.ref CL) (.type "OverflowError") = some true
  lR : PySem.W.kitOne K (.ref CL) (.ref CR) = some false
def em3B (K : PySem.W.Frag) : Bool :=
  let CL := Value.ref (He.ga K "LimitExceeded")
  let CC := Value.ref (He.ga K "InvalidColumn")
  let CN := Value.ref (He.ga K "InvalidNumber")
  decide (PySem.W.exmOne K CC CC = some true) && (decide (PySem.W.exmOne K CN CC = some false) && (decide (PySem.W.exmOne K CN CN = some true) && (decide (PySem.W.exmOne K CL CC = some false) && (decide (PySem.W.exmOne K CL CN = some false) && decide (PySem.W.exmOne K CL CL = some true)))))
def ki3B (K : PySem.W.Frag) : Bool :=
  let CL := Value.ref (He.ga K "LimitExceeded")
  let CC := Value.ref (He.ga K "InvalidColumn")
  let CN := Value.ref (He.ga K "InvalidNumber")
  let CR := Value.ref (He.ga K "RainError")
  decide (PySem.W.kitOne K CC (.type "IndexError") = some true) && (decide (PySem.W.kitOne K CC CR = some false) && (decide (PySem.W.kitOne K CN CR = some true) && (decide (PySem.W.kitOne K CN (.type "IndexError") = some false) && (decide (PySem.W.kitOne K CL (.type "OverflowError") = some true) && decide (PySem.W.kitOne K CL CR = some false)))))
theorem em3_of {K : PySem.W.Frag} (h : em3B K = true) : EM3 K (He.ga K "LimitExceeded") (He.ga K "InvalidColumn") (He.ga K "InvalidNumber") := by
  obtain ⟨h1, h⟩ := He.ba h
  obtain ⟨h2, h⟩ := He.ba h
  obtain ⟨h3, h⟩ := He.ba h
  obtain ⟨h4, h⟩ := He.ba h
  obtain ⟨h5, h6⟩ := He.ba h
  exact ⟨of_decide_eq_true h1, of_decide_eq_true h2, of_decide_eq_true h3, of_decide_eq_true h4, of_decide_eq_true h5, of_decide_eq_true h6⟩
theorem ki3_of {K : PySem.W.Frag} (h : ki3B K = true) : KI3 K (He.ga K "LimitExceeded") (He.ga K "InvalidColumn") (He.ga K "InvalidNumber") (He.ga K "RainError") := by
  obtain ⟨h1, h⟩ := He.ba h
  obtain ⟨h2, h⟩ := He.ba h
  obtain ⟨h3, h⟩ := He.ba h
  obtain ⟨h4, h⟩ := He.ba h
  obtain ⟨h5, h6⟩ := He.ba h
  exact ⟨of_decide_eq_true h1, of_decide_eq_true h2, of_decide_eq_true h3, of_decide_eq_true h4, of_decide_eq_true h5, of_decide_eq_true h6⟩
theorem ox3_of {K : PySem.W.Frag} (h1 : oxB K "LimitExceeded" "OverflowError.__new__" bm_OverflowError = true) (h2 : oxB K "InvalidColumn" "IndexError.__new__" bm_IndexError = true) (h3 : oxB K "InvalidNumber" "ValueError.__new__" bm_ValueError = true)
    (n1 : decide (PySem.W.findIn K (.ref (He.ga K "LimitExceeded")) "limit" = some none) = true) (n2 : decide (PySem.W.findIn K (.ref (He.ga K "InvalidColumn")) "value" = some none) = true) (n3 : decide (PySem.W.findIn K (.ref (He.ga K "InvalidNumber")) "value" = some none) = true) :
    OX3 K (He.ga K "LimitExceeded") (He.ga K "InvalidColumn") (He.ga K "InvalidNumber") :=
  ⟨ox_ok PySem.F.excBase_OverflowError mok_oe h1, ox_ok PySem.F.excBase_IndexError mok_ie h2, ox_ok PySem.F.excBase_ValueError mok_ve h3, of_decide_eq_true n1, of_decide_eq_true n2, of_decide_eq_true n3⟩
theorem rki_of {K : PySem.W.Frag} {x : Str} (h : decide (PySem.W.kitOne K (.ref (He.ga K x)) (.type "int") = some false) = true) : RKi K (He.ga K x) := (of_decide_eq_true h : PySem.W.kitOne K (.ref (He.ga K x)) (.type "int") = some false)
theorem inI_int {lo hi : Int} {v : V} (h : inI lo hi v = true) : ∃ i, v = .int i ∧ lo ≤ i ∧ i ≤ hi := by
  cases v with
  | int i =>
    replace h : (decide (lo ≤ i) && decide (i ≤ hi)) = true := h
    rw [Bool.and_eq_true, decide_eq_true_eq, decide_eq_true_eq] at h
    exact ⟨i, rfl, h.1, h.2⟩
  | _ => exact Bool.noConfusion (show false = true from h)
theorem inI_not {lo hi : Int} {v : V} (h : isI v = false) : inI lo hi v = false := by
  cases v with
  | int i => exact Bool.noConfusion (show true = false from h)
  | _ => rfl
theorem isI_int {v : V} (h : isI v = true) : ∃ i, v = .int i := by
  cases v with
  | int i => exact ⟨i, rfl⟩
  | _ => exact Bool.noConfusion (show false = true from h)
theorem inI_yes {lo hi i : Int} (h1 : lo ≤ i) (h2 : i ≤ hi) : inI lo hi (.int i) = true := by
  show (decide (lo ≤ i) && decide (i ≤ hi)) = true
  rw [decide_eq_true h1, decide_eq_true h2]
  rfl
theorem sh4 {a y : Str} (h1 : PyData.strOk a = true) (h2 : PyData.strOk y = true) : SeqAt.shaped (.tuple [.str a, .str y, .bool true, .bool false]) = true := by
  simp [SeqAt.shaped, PyData.canLay0, PyData.canLayAll0, PyData.depth, PyData.depthAll, h1, h2]
def spRaisX (K : PySem.W.Frag) (CP CL CC CN : Addr) : Sp := fun vs H Q E => ∃ p v w hs ws, vs = [.ref p, v, w] ∧ PCls K CP ∧ OX3 K CL CC CN ∧ ProfAt K CP H p hs ws ∧ PrOk hs ws ∧ Whole K H v ∧ Whole K H w ∧
  (inI 0 ((hs.length : Int) - 1) v = false → ∀ d H', H d = none → Same H H' → H' d = some (.xd [("value", v)]) → E (.ref CC) (some d) H') ∧
  (inI 0 ((hs.length : Int) - 1) v = true → inI 0 1000000000000000000000000000000 w = false → ∀ d H', H d = none → Same H H' → H' d = some (.xd [("value", w)]) → E (.ref CN) (some d) H') ∧
  (∀ (c : Nat) (r : Int), v = .int (c : Int) → w = .int r → c < hs.length → 0 ≤ r → r ≤ 1000000000000000000000000000000 →
    (hN hs c + r ≤ 1000000000000000000000000000000 → ∀ q H', H q = none → Same H H' → ProfAt K CP H' q (rsX hs c r) ws → Q (.ref q) H') ∧
    (1000000000000000000000000000000 < hN hs c + r → ∀ d H', H d = none → Same H H' → H' d = some (.xd [("limit", .int 1000000000000000000000000000000)]) → E (.ref CL) (some d) H'))
def t_InvalidColumn___init__ (K : PySem.W.Frag) (C_InvalidColumn : Addr) : TS :=
  (tSeq (tDrop (tBaseI K C_InvalidColumn "IndexError" "IndexError.__new__" "IndexError.__init__" bm_IndexError (tCons (tVar 0) (tCons (tC (.str "not a column")) tNil))))
    (tFst K C_InvalidColumn "IndexError" "IndexError.__new__" "IndexError.__init__" bm_IndexError "value" (tVar 0) (tVar 1)))
def t_InvalidNumber___init__ (K : PySem.W.Frag) (C_InvalidNumber : Addr) : TS :=
  (tSeq (tDrop (tBaseI K C_InvalidNumber "ValueError" "ValueError.__new__" "ValueError.__init__" bm_ValueError (tCons (tVar 0) (tCons (tC (.str "not a valid number here")) tNil))))
    (tFst K C_InvalidNumber "ValueError" "ValueError.__new__" "ValueError.__init__" bm_ValueError "value" (tVar 0) (tVar 1)))
def t_Profile_raisedX (K : PySem.W.Frag) (C_Profile : Addr) (C_LimitExceeded : Addr) (C_InvalidColumn : Addr) (C_InvalidNumber : Addr) (E : XK) : TS :=
  (tSeq (tIfS (tNot (tB (tCall (spWithin K) [] E0 (tCons (tVar 1) (tCons (tC (.int 0)) (tCons (tOp oSub (tCB (cLenO C_Profile (spPLen K C_Profile) E0) (tCons (tVar 0) tNil)) (tC (.int 1))) tNil)))))) (tRaise (tMkO C_InvalidColumn (spExc K C_InvalidColumn "IndexError" "IndexError.__new__" "IndexError.__init__" bm_IndexError "value") [] (tCons (tVar 1) tNil)) E) tNext)
    (tSeq (tIfS (tNot (tB (tCall (spWithin K) [] E0 (tCons (tVar 2) (tCons (tC (.int 0)) (tCons (tC (.int 1000000000000000000000000000000)) tNil)))))) (tRaise (tMkO C_InvalidNumber (spExc K C_InvalidNumber "ValueError" "ValueError.__new__" "ValueError.__init__" bm_ValueError "value") [] (tCons (tVar 2) tNil)) E) tNext)
    (tSeq (tAsg (tCB (cList K) (tCons (tFld K (tVar 0) "column_heights") tNil)) (gName 3))
    (tSeq (tAsg (tOp oAdd (tOp (rIxL K) (tVar 3) (tVar 1)) (tVar 2)) (gSub (tVar 3) (tVar 1) rSetL))
    (tRet (tCall (spGrownX K C_Profile C_LimitExceeded) [] E (tCons (tVar 3) (tCons (tFld K (tVar 0) "column_widths") tNil))))))))
def t__law_is_int (K : PySem.W.Frag) : TS :=
  (tRet (tAndV (tCB (rIsi K) (tCons (tVar 0) (tCons (tC (.ty "int")) tNil))) (tNotV (tCB (rIsi K) (tCons (tVar 0) (tCons (tC (.ty "bool")) tNil))))))
local macro_rules | `(tactic| walk_at "rv st") => `(tactic| first
  | with_reducible refine iteT ?_ | with_reducible refine iteF ?_ | with_reducible refine w_nx ?_ | with_reducible refine w_yes ?_ | with_reducible refine w_rt ?_ | with_reducible refine iteNT ?_ | with_reducible refine iteNF ?_ | with_reducible refine iteNRf ?_ | with_reducible refine iteRf ?_ | with_reducible refine w_seqA ?_ | with_reducible refine w_seqD ?_ | with_reducible refine w_seqP ?_ | with_reducible refine w_asg ?_ | with_reducible refine w_ret ?_ | with_reducible refine w_drop ?_ | with_reducible refine w_ifs ?_ | with_reducible refine w_next ?_ | with_reducible refine w_par ?_
  | with_reducible refine w_op ?_ | with_reducible refine w_un ?_ | ((with_reducible show tVar _ _ _ _); refine' w_var ?hv ?_; (case hv => exact rfl)) | with_reducible refine w_c ?_ | with_reducible refine w_test ?_ | with_reducible refine w_tB ?_
  | with_reducible refine w_bl ?_ | with_reducible refine w_I0 ?_ | with_reducible refine w_U ?_ | with_reducible refine w_eqI ?_ | with_reducible refine w_neI ?_
  | with_reducible refine w_cons ?_ | with_reducible refine w_nil ?_ | with_reducible refine w_gn ?_ | with_reducible refine w_gsub ?_ | with_reducible refine w_and ?_ | with_reducible refine w_or ?_ | with_reducible refine w_not ?_
  | with_reducible refine w_andV ?_ | with_reducible refine w_orV ?_ | with_reducible refine w_notV ?_ | with_reducible refine w_if ?_ | with_reducible refine w_cb ?_ | with_reducible refine w_call ?_ | with_reducible refine w_lst ?_ | with_reducible refine w_tup ?_
  | with_reducible refine w_sl ?_ | with_reducible refine w_noPart ?_ | with_reducible refine w_part ?_ | with_reducible refine w_ex1 ?_ | with_reducible refine w_exb ?_ | with_reducible refine w_intB ?_ | with_reducible refine w_intI ?_ | with_reducible refine w_abs ?_)
local macro_rules | `(tactic| walk_at "rv ix") => `(tactic| ((with_reducible show rIxL _ _ _ _ _); refine' w_ixL (sq_lst ?ha) ?hb ?_; (case ha => first | exact upd_same | assumption); (case hb => first | exact rfl | assumption)))
local macro_rules | `(tactic| walk_at "rv ar") => `(tactic| first
  | (refine' w_I ?hc ?_; (case hc => first | (show (0 : Int) < _; first | assumption | decide | omega) | exact pow_c (by decide) (by decide) (by first | decide | omega) (by first | decide | omega) | exact mul_r (by first | decide | omega) (by first | decide | omega) | exact mul_l (by first | decide | omega) (by first | decide | omega) | exact divw (by first | assumption | decide | omega) (by first | assumption | decide | omega))))
local macro_rules | `(tactic| walk_at "rv go") => `(tactic| repeat first | walk_at "rv st" | walk_at "rv ix" | ((with_reducible show rI _ _ _ _ _ _); walk_at "rv ar"))
theorem p_colI {K : PySem.W.Frag} {C : Addr} {vs : List V} {H : Hp} {Q : VK} {E : XK} (h : spExc K C "IndexError" "IndexError.__new__" "IndexError.__init__" bm_IndexError "value" vs H Q E) : t_InvalidColumn___init__ K C { nx := fun _ H' => Q .non H', rt := Q } (start ["self", "value"] vs) H := p_exc "not a column" h fun _ _ => rfl
theorem p_numI {K : PySem.W.Frag} {C : Addr} {vs : List V} {H : Hp} {Q : VK} {E : XK} (h : spExc K C "ValueError" "ValueError.__new__" "ValueError.__init__" bm_ValueError "value" vs H Q E) : t_InvalidNumber___init__ K C { nx := fun _ H' => Q .non H', rt := Q } (start ["self", "value"] vs) H := p_exc "not a valid number here" h fun _ _ => rfl
theorem p_raisX {K : PySem.W.Frag} {CP CL CC CN : Addr} {vs : List V} {H : Hp} {Q : VK} {E : XK} (h : spRaisX K CP CL CC CN vs H Q E) : t_Profile_raisedX K CP CL CC CN E { nx := fun _ H' => Q .non H', rt := Q } (start ["self", "column", "height", "heights"] vs) H := by
  obtain ⟨p, v, w, hs, ws, rfl, P, X, hp, ok, hv, hw, k1, k2, k3⟩ := h
  obtain ⟨dx, t1, t2, h0, h1, h2⟩ := id hp
  unfold t_Profile_raisedX
  have l60 := ok.le
  refine w_seq ?_
  walk_at "rv go"
  refine w_lenO h0 ?_
  refine ⟨p, hs, ws, rfl, P, hp, _, rfl, ⟨by omega, Int.lt_of_le_of_lt (b := 60) (by omega) (by decide)⟩, ?_⟩
  walk_at "rv go"
  refine ⟨v, 0, _, rfl, hv, ?_⟩
  cases e1 : inI 0 ((hs.length : Int) - 1) v with
  | false =>
    walk_at "rv go"
    refine w_raise ?_
    refine w_mkO ?_
    walk_at "rv go"
    exact exc_new X.oC X.fC fun d H' nd e hd => k1 e1 d H' nd e hd
  | true =>
    walk_at "rv go"
    refine w_seq ?_
    walk_at "rv go"
    refine ⟨w, 0, 1000000000000000000000000000000, rfl, hw, ?_⟩
    cases e2 : inI 0 1000000000000000000000000000000 w with
    | false =>
      walk_at "rv go"
      refine w_raise ?_
      refine w_mkO ?_
      walk_at "rv go"
      exact exc_new X.oN X.fN fun d H' nd e hd => k2 e1 e2 d H' nd e hd
    | true =>
      obtain ⟨i, rfl, i0, i1⟩ := inI_int e1
      obtain ⟨r, rfl, r0, r1⟩ := inI_int e2
      obtain ⟨c, rfl⟩ : ∃ c : Nat, i = (c : Int) := ⟨i.toNat, by omega⟩
      have hc : c < hs.length := by omega
      obtain ⟨k4, k5⟩ := k3 c r rfl rfl hc r0 r1
      walk_at "rv go"
      refine w_fld rfl h0 P.cl P.nH (pfl_h _ _) ?_
      walk_at "rv go"
      refine lst_callR (.inr h1) fun l nl => ?_
      walk_at "rv go"
      refine w_ixL (sq_lst upd_same) (at_hN hc) ?_
      walk_at "rv go"
      refine w_setL (xs := hs.map V.int) (j := c) upd_same (by rw [List.length_map]; exact ixN_nat hc) ?_
      rw [map_set]
      have eS : Same H (upd (upd H l (.lst (hs.map V.int))) l (.lst ((hs.set c (hN hs c + r)).map V.int))) := fun b o hb => by
        have n : b ≠ l := ne_of_none hb nl
        rw [upd_ne n, upd_ne n]
        exact hb
      walk_at "rv go"
      refine w_fld rfl (eS _ _ h0) P.cl P.nW (pfl_w _ _) ?_
      walk_at "rv go"
      have hN1 := ok.hh _ (hN_mem hc)
      refine ⟨l, t2, rsX hs c r, ws, rfl, P, X.oL, X.fL, .inl upd_same, .inr (eS _ _ h2), by rw [rsX_len]; exact ok.pos, by rw [rsX_len]; exact ok.le, by rw [rsX_len]; exact ok.eq, fun a1 a2 q H3 nq e3 hq => ?_, fun a1 d H3 nd e3 hd => ?_⟩
      · refine k4 ?_ q H3 (free_same eS nq) (eS.trans e3) hq
        refine Classical.byContradiction fun g => rsX_bad hc (fun z => g z.2) a1
      · refine k5 ?_ d H3 (free_same eS nd) (eS.trans e3) hd
        refine Classical.byContradiction fun g => a1 ⟨(rsX_ok ok hc ⟨by have := hN1.1; omega, by omega⟩).hh, ok.ww⟩
theorem p_isint16 {K : PySem.W.Frag} {vs : List V} {H : Hp} {Q : VK} {E : XK} (h : spWhole K vs H Q E) : t__law_is_int K { nx := fun _ H' => Q .non H', rt := Q } (start ["_law_value"] vs) H := p_whole h
theorem wA {K : PySem.W.Frag} {D : Ends} {i : Nat} {Wo : WX} {c : Value} {ts : Addr → Value → Option Addr → TS} {r : List Cl} {cls : Value} {d : Option Addr} {σ : L2.St} {H : Hp} (em : PySem.W.exmOne K cls c = some true)
    (q : ∀ a, H a = none → ts a cls d { nx := fun σ' H' => D.nx (σ'.set i none) H', rt := D.rt, bk := fun σ' H' => D.bk (σ'.set i none) H', ct := fun σ' H' => D.ct (σ'.set i none) H' } (σ.set i (some (.ref a))) H) : wAsL K i Wo D ((c, ts) :: r) cls d σ H := ⟨true, em, (fun _ => q), fun z => Bool.noConfusion z⟩
theorem wB {K : PySem.W.Frag} {D : Ends} {i : Nat} {Wo : WX} {c : Value} {ts : Addr → Value → Option Addr → TS} {r : List Cl} {cls : Value} {d : Option Addr} {σ : L2.St} {H : Hp} (em : PySem.W.exmOne K cls c = some false) (q : wAsL K i Wo D r cls d σ H) : wAsL K i Wo D ((c, ts) :: r) cls d σ H := ⟨false, em, (fun z => Bool.noConfusion z), fun _ => q⟩
theorem dp4 {K : PySem.W.Frag} {H : Hp} {r : Addr} {a y : Str} (hr : H r = some (.tup [.str a, .str y, .bl true, .bl false])) : Dp K H (.ref r) (.tuple [.str a, .str y, .bool true, .bool false]) := .tup (sq_tup hr) (.cons (.str _) (.cons (.str _) (.cons (.bl _) (.cons (.bl _) .nil))))
theorem dp4i {K : PySem.W.Frag} {H : Hp} {r : Addr} {a : Str} {i : Int} (hr : H r = some (.tup [.str a, .int i, .bl true, .bl false])) : Dp K H (.ref r) (.tuple [.str a, .int i, .bool true, .bool false]) := .tup (sq_tup hr) (.cons (.str _) (.cons (.int _) (.cons (.bl _) (.cons (.bl _) .nil))))
theorem e30 : (10 : Int) ^ Int.toNat 30 = 1000000000000000000000000000000 := rfl
theorem odd_s {C : Addr} {H : Hp} {x : Str} (h1 : PyData.strOk (reprText x) = true := by decide +kernel) (h2 : (reprText x).length ≤ 1000 := by decide +kernel) : Odd C H (.str x) (PyData.str x).shown := .str x h1 h2
theorem odd_t {C : Addr} {H : Hp} {a : Addr} (zs : List Int) (h : H a = some (.tup (zs.map V.int))) (hl : zs.length ≤ 1 := by decide) (hz : ∀ z ∈ zs, z.natAbs < 10 ^ 32 := by decide) (h1 : PyData.strOk (PyData.tuple (zs.map PyData.int)).shown = true := by decide +kernel) (h2 : (PyData.tuple (zs.map PyData.int)).shown.length ≤ 1000 := by decide +kernel) : Odd C H (.ref a) (PyData.tuple (zs.map PyData.int)).shown := .tup zs h hl hz h1 h2
theorem odd_l {C : Addr} {H : Hp} {a : Addr} (zs : List Int) (h : H a = some (.lst (zs.map V.int))) (hl : zs.length ≤ 1 := by decide) (hz : ∀ z ∈ zs, z.natAbs < 10 ^ 32 := by decide) (h1 : PyData.strOk (PyData.list (zs.map PyData.int)).shown = true := by decide +kernel) (h2 : (PyData.list (zs.map PyData.int)).shown.length ≤ 1000 := by decide +kernel) : Odd C H (.ref a) (PyData.list (zs.map PyData.int)).shown := .lst zs h hl hz h1 h2
theorem odd_i {C : Addr} {H : Hp} {i : Int} (h1 : -1000000000000000000000000000000000 ≤ i) (h2 : i ≤ 1000000000000000000000000000000000) : Odd C H (.int i) (PyData.int i).shown := .int i (Nat.lt_of_le_of_lt (m := 1000000000000000000000000000000000) (by omega) (by decide))
end Rv
namespace Rv
open PySem PySem.Spec PyProof.Rows L2
/-- a set that is just made -/
abbrev eS (w : World) : Obj := { cls := .type "set", dict := none, data := .set #[] 0 (.fresh 0 0 (!w.params.followText "set-order")) }
end Rv
namespace Rv
open PySem PySem.Spec PyProof.Rows L2
local macro_rules | `(tactic| walk_at "rv st") => `(tactic| first
  | with_reducible refine iteT ?_ | with_reducible refine iteF ?_ | with_reducible refine w_nx ?_ | with_reducible refine w_yes ?_ | with_reducible refine w_rt ?_ | with_reducible refine iteNT ?_ | with_reducible refine iteNF ?_ | with_reducible refine iteNRf ?_ | with_reducible refine iteRf ?_ | with_reducible refine w_seqA ?_ | with_reducible refine w_seqD ?_ | with_reducible refine w_seqP ?_ | with_reducible refine w_asg ?_ | with_reducible refine w_ret ?_ | with_reducible refine w_drop ?_ | with_reducible refine w_ifs ?_ | with_reducible refine w_next ?_ | with_reducible refine w_par ?_
  | with_reducible refine w_op ?_ | with_reducible refine w_un ?_ | ((with_reducible show tVar _ _ _ _); refine' w_var ?hv ?_; (case hv => exact rfl)) | with_reducible refine w_c ?_ | with_reducible refine w_test ?_ | with_reducible refine w_tB ?_
  | with_reducible refine w_bl ?_ | with_reducible refine w_I0 ?_ | with_reducible refine w_U ?_ | with_reducible refine w_eqI ?_ | with_reducible refine w_neI ?_
  | with_reducible refine w_cons ?_ | with_reducible refine w_nil ?_ | with_reducible refine w_gn ?_ | with_reducible refine w_gsub ?_ | with_reducible refine w_and ?_ | with_reducible refine w_or ?_ | with_reducible refine w_not ?_
  | with_reducible refine w_andV ?_ | with_reducible refine w_orV ?_ | with_reducible refine w_notV ?_ | with_reducible refine w_if ?_ | with_reducible refine w_cb ?_ | with_reducible refine w_call ?_ | with_reducible refine w_lst ?_ | with_reducible refine w_tup ?_
  | with_reducible refine w_sl ?_ | with_reducible refine w_noPart ?_ | with_reducible refine w_part ?_ | with_reducible refine w_ex1 ?_ | with_reducible refine w_exb ?_ | with_reducible refine w_intB ?_ | with_reducible refine w_intI ?_ | with_reducible refine w_abs ?_)
local macro_rules | `(tactic| walk_at "rv ix") => `(tactic| ((with_reducible show rIxL _ _ _ _ _); refine' w_ixL (sq_lst ?ha) ?hb ?_; (case ha => first | exact upd_same | assumption); (case hb => first | exact rfl | assumption)))
local macro_rules | `(tactic| walk_at "rv ar") => `(tactic| first
  | (refine' w_I ?hc ?_; (case hc => first | (show (0 : Int) < _; first | assumption | decide | omega) | exact pow_c (by decide) (by decide) (by first | decide | omega) (by first | decide | omega) | exact mul_r (by first | decide | omega) (by first | decide | omega) | exact mul_l (by first | decide | omega) (by first | decide | omega) | exact divw (by first | assumption | decide | omega) (by first | assumption | decide | omega))))
local macro_rules | `(tactic| walk_at "rv go") => `(tactic| repeat first | walk_at "rv st" | walk_at "rv ix" | ((with_reducible show rI _ _ _ _ _ _); walk_at "rv ar"))
def sub (xs : List Int) (f l : Nat) : List Int := (xs.drop f).take (l + 1 - f)
theorem sqt_same {K : PySem.W.Frag} {H H' : Hp} {a : Addr} {xs : List V} (h : SqT K H a xs) (e : Same H H') : SqT K H' a xs := by
  rcases h with (h | ⟨o, h⟩) | h
  · exact .inl (.inl (e _ _ h))
  · exact .inl (.inr ⟨o, e _ _ h⟩)
  · exact .inr h
end Rv
namespace Rv
open PySem PySem.Spec PyProof.Rows L2
/-- what a value is as a number -/
inductive NumK (K : PySem.W.Frag) (C : Addr) (H : Hp) : V → Option (Int × Int) → Prop where
  | int (i : Int) : NumK K C H (.int i) (some (i, 1))
  | rat {p : Addr} {t b : Int} (h : RatAt C H p t b) : NumK K C H (.ref p) (some (t, b))
  | other {v : V} {t : Value} (ty : TyX K H v t) (kR : PySem.W.kitOne K t (.ref C) = some false) (wh : Whole K H v) (no : isI v = false) : NumK K C H v none
theorem NumK.same {K : PySem.W.Frag} {C : Addr} {H H' : Hp} {v : V} {o : Option (Int × Int)} (h : NumK K C H v o) (e : Same H H') : NumK K C H' v o := by
  cases h with
  | int i => exact .int i
  | rat h => exact .rat (h.same e)
  | other ty kR wh no => exact .other (ty_same ty e) kR (wh.same e) no
/-- the exception of the class at C with the value v leaves -/
def Rz (H : Hp) (C : Addr) (v : V) (E : XK) : Prop := ∀ d H', H d = none → Same H H' → H' d = some (.xd [("value", v)]) → E (.ref C) (some d) H'
theorem Rz.same {H H1 : Hp} {C : Addr} {v : V} {E : XK} (h : Rz H C v E) (e : Same H H1) : Rz H1 C v E := fun d H' nd e1 hd => h d H' (free_same e nd) (e.trans e1) hd
def SzO (k : Nat) (o : Option (Int × Int)) : Prop := ∀ n d, o = some (n, d) → Sz k n ∧ Sz k d
local macro_rules | `(tactic| walk_at "rv st") => `(tactic| first
  | with_reducible refine iteT ?_ | with_reducible refine iteF ?_ | with_reducible refine w_nx ?_ | with_reducible refine w_yes ?_ | with_reducible refine w_rt ?_ | with_reducible refine iteNT ?_ | with_reducible refine iteNF ?_ | with_reducible refine iteNRf ?_ | with_reducible refine iteRf ?_ | with_reducible refine w_seqA ?_ | with_reducible refine w_seqD ?_ | with_reducible refine w_seqP ?_ | with_reducible refine w_asg ?_ | with_reducible refine w_ret ?_ | with_reducible refine w_drop ?_ | with_reducible refine w_ifs ?_ | with_reducible refine w_next ?_ | with_reducible refine w_par ?_
  | with_reducible refine w_op ?_ | with_reducible refine w_un ?_ | ((with_reducible show tVar _ _ _ _); refine' w_var ?hv ?_; (case hv => exact rfl)) | with_reducible refine w_c ?_ | with_reducible refine w_test ?_ | with_reducible refine w_tB ?_
  | with_reducible refine w_bl ?_ | with_reducible refine w_I0 ?_ | with_reducible refine w_U ?_ | with_reducible refine w_eqI ?_ | with_reducible refine w_neI ?_
  | with_reducible refine w_cons ?_ | with_reducible refine w_nil ?_ | with_reducible refine w_gn ?_ | with_reducible refine w_gsub ?_ | with_reducible refine w_and ?_ | with_reducible refine w_or ?_ | with_reducible refine w_not ?_
  | with_reducible refine w_andV ?_ | with_reducible refine w_orV ?_ | with_reducible refine w_notV ?_ | with_reducible refine w_if ?_ | with_reducible refine w_cb ?_ | with_reducible refine w_call ?_ | with_reducible refine w_lst ?_ | with_reducible refine w_tup ?_
  | with_reducible refine w_sl ?_ | with_reducible refine w_noPart ?_ | with_reducible refine w_part ?_ | with_reducible refine w_ex1 ?_ | with_reducible refine w_exb ?_ | with_reducible refine w_intB ?_ | with_reducible refine w_intI ?_ | with_reducible refine w_abs ?_)
local macro_rules | `(tactic| walk_at "rv ix") => `(tactic| ((with_reducible show rIxL _ _ _ _ _); refine' w_ixL (sq_lst ?ha) ?hb ?_; (case ha => first | exact upd_same | assumption); (case hb => first | exact rfl | assumption)))
local macro_rules | `(tactic| walk_at "rv ar") => `(tactic| first
  | (refine' w_I ?hc ?_; (case hc => first | (show (0 : Int) < _; first | assumption | decide | omega) | exact pow_c (by decide) (by decide) (by first | decide | omega) (by first | decide | omega) | exact mul_r (by first | decide | omega) (by first | decide | omega) | exact mul_l (by first | decide | omega) (by first | decide | omega) | exact divw (by first | assumption | decide | omega) (by first | assumption | decide | omega))))
local macro_rules | `(tactic| walk_at "rv go") => `(tactic| repeat first | walk_at "rv st" | walk_at "rv ix" | ((with_reducible show rI _ _ _ _ _ _); walk_at "rv ar"))
/-- repr of a value of any kind, of {} too -/
def cReprB (K : PySem.W.Frag) (C : Addr) (sp : Sp) : List V → Hp → VK → Prop := fun xs H Q => cReprA K C sp xs H Q ∨ ∃ a, xs = [.ref a] ∧ H a = some (.dK []) ∧ Q (.str (PyData.dict []).shown) H
theorem call_reprB {X : Cx} {k : Nat} {C : Addr} {sp : Sp} (c : CalUC X.prog X.w X.K X.mg X.base k C "__repr__" sp) (hg : X.A.guards = some []) (hr : L2H.RoomH (k + 1) X.A) : CallR X (.builtin "repr") (cReprB X.K C sp) := by
  intro pins s σ H xs us Q I r h
  rcases h with h | ⟨a, rfl, ha, q⟩
  · exact call_reprA c hg hr pins s σ H xs us Q I r h
  · obtain ⟨u, rfl, ru⟩ := vals1 r
    cases (show u = Value.ref a from ru)
    have hu := hr.un
    obtain ⟨_, ns, vs, kv, o, es, ep, h1, h2, h3, h4, h5, h6⟩ := I.hok a _ ha
    cases kv
    have he : es.toList = [] := by
      cases h7 : es.toList with
      | nil => rfl
      | cons x l =>
        rw [h7] at h5
        cases h5
    have rd : PySem.Reads s.heap (.ref a) (.dict []) (a :: [] ++ []) := .dict h1 h2.1 h3 (by rw [he]; exact .nil) (by rw [he]; exact .nil)
    refine PySem.repr_of_reads' rd (by simp [PyData.showable, PyData.showableKv]) (fun _ hm => ?_) hg (by simp only [PyData.depth, PyData.depthKv]; omega) (fun b o e => e) (fun h' u tk hk => ⟨.str _, H, I.kept hk, ⟨_, rfl⟩, q⟩) (by decide +kernel)
    have hm : sysModules = a := by simpa using hm
    rw [← hm] at ns
    exact Bool.noConfusion (show true = false from ns)
end Rv
namespace Rv
open PySem PySem.Spec PyProof.Rows L2
/-- a value that the law hands in: as before, or {} -/
inductive OddD (C : Addr) (H : Hp) : V → Str → Prop where
  | odd {v : V} {y : Str} (o : Odd C H v y) : OddD C H v y
  | dic {a : Addr} (h : H a = some (.dK [])) : OddD C H (.ref a) (PyData.dict []).shown
theorem OddD.same {C : Addr} {H H' : Hp} {v : V} {y : Str} (o : OddD C H v y) (e : Same H H') : OddD C H' v y := by
  cases o with
  | odd o => exact .odd (o.same e)
  | dic h => exact .dic (e _ _ h)
theorem OddD.but {C : Addr} {H H' : Hp} {v : V} {y : Str} {d c : Addr} (o : OddD C H v y) (D : DrawsAt H d c) (e : But d H H') : OddD C H' v y := by
  cases o with
  | odd o => exact .odd (o.but D e)
  | dic h =>
    obtain ⟨ns, pos, num, seed, q, _⟩ := D
    exact .dic (e _ _ (fun z => by rw [z, q] at h; cases h) h)
theorem OddD.ok {C : Addr} {H : Hp} {v : V} {y : Str} (o : OddD C H v y) : PyData.strOk y = true := by
  cases o with
  | odd o => exact o.ok
  | dic h => decide +kernel
theorem OddD.wh {K : PySem.W.Frag} {C : Addr} {H : Hp} {v : V} {y : Str} (R : RCls K C) (k : RKi K C) (o : OddD C H v y) : Whole K H v := by
  cases o with
  | odd o => exact o.wh R k
  | dic h => exact .other (t := .type "dict") (.base (.dK h)) (kit_ty (by decide +kernel)) fun i z => nomatch z
theorem OddD.rp {K : PySem.W.Frag} {C : Addr} {H : Hp} {Q : VK} {v : V} {y : Str} (R : RCls K C) (o : OddD C H v y) (q : Q (.str y) H) : cReprB K C (spRRepr K C) [v] H Q := by
  cases o with
  | odd o => exact .inl (o.rp R q)
  | dic h => exact .inr ⟨_, rfl, h, q⟩
theorem sz40 {z : Int} (h : z.natAbs < 10 ^ 40) : Sz 200 z := Nat.lt_of_lt_of_le h (by decide)
theorem Odd.num {K : PySem.W.Frag} {C : Addr} {H : Hp} {v : V} {y : Str} (O : OdC K C) (o : Odd C H v y) : ∃ z, NumK K C H v z ∧ SzO 200 z := by
  have none' : SzO 200 none := fun n d e => nomatch e
  cases o with
  | non => exact ⟨_, .other (.base .non) (O.ki "NoneType" (by simp)) (.other (.base .non) (kit_ty (by decide +kernel)) fun i z => nomatch z) rfl, none'⟩
  | bl b => exact ⟨_, .other (.base (.bl b)) (O.ki "bool" (by simp)) (.bl b) rfl, none'⟩
  | int i h => exact ⟨_, .int i, fun n d e => by cases e; exact ⟨sz40 h, sz_one (by decide)⟩⟩
  | str x h1 h2 => exact ⟨_, .other (.base (.str x)) (O.ki "str" (by simp)) (.other (.base (.str x)) (kit_ty (by decide +kernel)) fun i z => nomatch z) rfl, none'⟩
  | tup zs h hl hz h1 h2 => exact ⟨_, .other (.base (.tup h)) (O.ki "tuple" (by simp)) (.other (.base (.tup h)) (kit_ty (by decide +kernel)) fun i z => nomatch z) rfl, none'⟩
  | lst zs h hl hz h1 h2 => exact ⟨_, .other (.base (.lst h)) (O.ki "list" (by simp)) (.other (.base (.lst h)) (kit_ty (by decide +kernel)) fun i z => nomatch z) rfl, none'⟩
  | rat t b h ht hb => exact ⟨_, .rat h, fun n d e => by cases e; exact ⟨sz40 ht, sz40 hb⟩⟩
theorem OddD.num {K : PySem.W.Frag} {C : Addr} {H : Hp} {v : V} {y : Str} (O : OdC K C) (o : OddD C H v y) : ∃ z, NumK K C H v z ∧ SzO 200 z := by
  cases o with
  | odd o => exact o.num O
  | dic h => exact ⟨_, .other (.base (.dK h)) (O.ki "dict" (by simp)) (.other (.base (.dK h)) (kit_ty (by decide +kernel)) fun i z => nomatch z) rfl, fun n d e => nomatch e⟩
theorem SzO.mono {j k : Nat} {o : Option (Int × Int)} (h : SzO j o) (e : j ≤ k) : SzO k o := fun n d q => ⟨(h n d q).1.mono e, (h n d q).2.mono e⟩
theorem dp2f {K : PySem.W.Frag} {H : Hp} {r : Addr} {a : Str} {b : Bool} (h : H r = some (.tup [.str a, .bl b])) : Dp K H (.ref r) (.tuple [.str a, .bool b]) := .tup (sq_tup h) (.cons (.str _) (.cons (.bl _) .nil))
theorem w_callD {sp : Sp} {dvs : List V} {E : L2.St → XK} {t : TA} {σ : L2.St} {H : Hp} {Q : VK} (q : t σ H fun vs H1 => sp (vs ++ dvs) H1 Q (E σ)) : tCallD sp dvs E t σ H Q := q
theorem w_dnewK {σ : L2.St} {H : Hp} {Q : VK} (q : ∀ d, H d = none → Q (.ref d) (upd H d (.dK []))) : tDNewK σ H Q := q
end Rv
/-! zip of two rows, each a list or a tuple. -/
namespace Rv
open PySem PySem.Spec PyProof.Rows L2
/-- the class of the iterator: a tuple's or a list's -/
def itC : Bool → String
  | true => "tuple_iterator"
  | false => "list_iterator"
def ItS (t : Bool) (h : Heap) (it l : Addr) (i : Nat) : Prop := match t with
  | true => h.IsTupleIter it l i
  | false => h.IsListIter it l i
def SqS (t : Bool) (h : Heap) (l : Addr) (items : Array Value) : Prop := match t with
  | true => h.IsTuple l items
  | false => h.IsList l items
def RowS (K : PySem.W.Frag) (H : Hp) (t : Bool) (a : Addr) (xs : List V) : Prop := match t with
  | true => SqT K H a xs
  | false => SqL K H a xs
theorem ItS.obj {t : Bool} {h : Heap} {it l : Addr} {i : Nat} (s : ItS t h it l i) : ∃ o vs, h.get? it = some o ∧ o.data = .fields vs := by
  cases t
  · obtain ⟨o, e, _, d⟩ := s
    exact ⟨o, _, e, d⟩
  · obtain ⟨o, e, _, d⟩ := s
    exact ⟨o, _, e, d⟩
theorem ItS.at {t : Bool} {h h' : Heap} {it l : Addr} {i : Nat} (s : ItS t h it l i) (k : ∀ o, h.get? it = some o → h'.get? it = some o) : ItS t h' it l i := by
  cases t
  · exact Heap.IsListIter.at s k
  · exact Heap.IsTupleIter.at s k
theorem drawsS {prog : Program} {w : World} {A : Around} (hh : A.handled = none) (t : Bool) (it l : Addr) (hne : l ≠ it) (items : Array Value) :
    Draws prog w A it [it, l] items.size (fun i v => items[i]? = some v) (fun i h => ItS t h it l i ∧ SqS t h l items) := by
  cases t
  · exact Draws.list hh it l hne items
  · exact Draws.tuple hh it l hne items
theorem SqS.push {t : Bool} {h : Heap} {l : Addr} {items : Array Value} (s : SqS t h l items) (o : Obj) : SqS t (h.push o) l items := by
  cases t
  · exact Heap.IsList.push s _
  · exact Heap.IsTuple.push s _
theorem SqS.lt {t : Bool} {h : Heap} {l : Addr} {items : Array Value} (s : SqS t h l items) : l < h.objs.size := by
  cases t
  · obtain ⟨o, e, _⟩ := s
    exact Heap.lt_size e
  · obtain ⟨o, e, _⟩ := s
    exact Heap.lt_size e
abbrev zm1 (t1 : Bool) (h : Heap) (l1 : Addr) : Heap := h.push { cls := .type (itC t1), data := .fields #[.ref l1, .int 0 0] }
abbrev zm2 (t1 t2 : Bool) (h : Heap) (l1 l2 : Addr) : Heap := (zm1 t1 h l1).push { cls := .type (itC t2), data := .fields #[.ref l2, .int 0 0] }
abbrev zm3 (t1 t2 : Bool) (h : Heap) (l1 l2 : Addr) : Heap := (zm2 t1 t2 h l1 l2).push { cls := .type "tuple", data := .seq #[.ref h.objs.size, .ref (zm1 t1 h l1).objs.size] }
abbrev zm4 (t1 t2 : Bool) (h : Heap) (l1 l2 : Addr) : Heap := (zm3 t1 t2 h l1 l2).push { cls := .type "tuple", data := .seq #[.none, .none] }
abbrev zm5 (t1 t2 : Bool) (h : Heap) (l1 l2 : Addr) : Heap := (zm4 t1 t2 h l1 l2).push { cls := .type "zip", data := .fields #[.none, .bool false, .bool false, .ref (zm2 t1 t2 h l1 l2).objs.size, .ref (zm3 t1 t2 h l1 l2).objs.size] }
theorem zm_new (t1 t2 : Bool) (l1 l2 : Addr) (xs ys : Array Value) :
    Meets (Builtin.«zip.__new__» ⟨[.type "zip", .ref l1, .ref l2], []⟩) (fun _ R s => SqS t1 s.heap l1 xs ∧ SqS t2 s.heap l2 ys ∧
      R (.ok (.ret (.ref (zm4 t1 t2 s.heap l1 l2).objs.size))) { s with heap := zm5 t1 t2 s.heap l1 l2 }) :=
  .of_wp fun prog w A R s h => by
    obtain ⟨hp, g, d, tk, os⟩ := s
    obtain ⟨hl1, hl2, h⟩ := h
    have hsub := sub_zip
    cases t1 <;> cases t2
    · have hL1 : Heap.IsList (Shared.heap ⟨hp, g, d, tk, os⟩) l1 xs := hl1
      have hL2 : Heap.IsList (Shared.heap ⟨hp.push { cls := .type "list_iterator", data := .fields #[.ref l1, .int 0 0] }, g, d, tk, os⟩) l2 ys := Heap.IsList.push hl2 _
      wp_walk using wpAny_pyIter_list hL1, wpAny_pyIter_list hL2
      exact ⟨_, rfl, h⟩
    · have hL1 : Heap.IsList (Shared.heap ⟨hp, g, d, tk, os⟩) l1 xs := hl1
      have hL2 : Heap.IsTuple (Shared.heap ⟨hp.push { cls := .type "list_iterator", data := .fields #[.ref l1, .int 0 0] }, g, d, tk, os⟩) l2 ys := Heap.IsTuple.push hl2 _
      wp_walk using wpAny_pyIter_list hL1, wpAny_pyIter_tuple hL2
      exact ⟨_, rfl, h⟩
    · have hL1 : Heap.IsTuple (Shared.heap ⟨hp, g, d, tk, os⟩) l1 xs := hl1
      have hL2 : Heap.IsList (Shared.heap ⟨hp.push { cls := .type "tuple_iterator", data := .fields #[.ref l1, .int 0 0] }, g, d, tk, os⟩) l2 ys := Heap.IsList.push hl2 _
      wp_walk using wpAny_pyIter_tuple hL1, wpAny_pyIter_list hL2
      exact ⟨_, rfl, h⟩
    · have hL1 : Heap.IsTuple (Shared.heap ⟨hp, g, d, tk, os⟩) l1 xs := hl1
      have hL2 : Heap.IsTuple (Shared.heap ⟨hp.push { cls := .type "tuple_iterator", data := .fields #[.ref l1, .int 0 0] }, g, d, tk, os⟩) l2 ys := Heap.IsTuple.push hl2 _
      wp_walk using wpAny_pyIter_tuple hL1, wpAny_pyIter_tuple hL2
      exact ⟨_, rfl, h⟩
theorem its_new {t : Bool} {h : Heap} {it l : Addr} (e : h.get? it = some { cls := .type (itC t), data := .fields #[.ref l, .int 0 0] }) : ItS t h it l 0 := by
  cases t
  · exact ⟨_, e, rfl, rfl⟩
  · exact ⟨_, e, rfl, rfl⟩
section
variable {prog : Program} {w : World} {A : Around} {E : Value → Shared → Prop} {s : Shared}
theorem call_zipM {t1 t2 : Bool} {l1 l2 : Addr} {xs ys : Array Value} {Q : Value → Shared → Prop} (hl1 : SqS t1 s.heap l1 xs) (hl2 : SqS t2 s.heap l2 ys)
    (h : ∀ h', IsZip h' (s.heap.objs.size + 4) (s.heap.objs.size + 2) (s.heap.objs.size + 3) .none → IsPair h' (s.heap.objs.size + 2) (.ref s.heap.objs.size) (.ref (s.heap.objs.size + 1)) →
      IsPair h' (s.heap.objs.size + 3) .none .none → ItS t1 h' s.heap.objs.size l1 0 → ItS t2 h' (s.heap.objs.size + 1) l2 0 → h'.objs.size = s.heap.objs.size + 5 →
      (∀ c o, s.heap.get? c = some o → h'.get? c = some o) → Q (.ref (s.heap.objs.size + 4)) { s with heap := h' }) :
    wpAny (model prog w) A (call (.type "zip") [.ref l1, .ref l2]) Q E s := by
  refine callType_new F.called_zip (by decide) (F.typeCall_zip_2 _ _) (F.newCall_zip_2 _ _) (fun obj => F.args_object_init_3 obj _ _) F.entry_zip_new
    (zm_new t1 t2 l1 l2 xs ys) ⟨hl1, hl2, ?_⟩
  have z1 : (zm1 t1 s.heap l1).objs.size = s.heap.objs.size + 1 := Heap.size_push ..
  have z2 : (zm2 t1 t2 s.heap l1 l2).objs.size = s.heap.objs.size + 2 := by rw [Heap.size_push, z1]
  have z3 : (zm3 t1 t2 s.heap l1 l2).objs.size = s.heap.objs.size + 3 := by rw [Heap.size_push, z2]
  have z4 : (zm4 t1 t2 s.heap l1 l2).objs.size = s.heap.objs.size + 4 := by rw [Heap.size_push, z3]
  have z5 : (zm5 t1 t2 s.heap l1 l2).objs.size = s.heap.objs.size + 5 := by rw [Heap.size_push, z4]
  have g5 : (zm5 t1 t2 s.heap l1 l2).get? (zm4 t1 t2 s.heap l1 l2).objs.size = some _ := Heap.get?_push_size _ rfl
  have g4 : (zm5 t1 t2 s.heap l1 l2).get? (zm3 t1 t2 s.heap l1 l2).objs.size = some _ := Heap.get?_push_of_some _ (Heap.get?_push_size _ rfl)
  have g3 : (zm5 t1 t2 s.heap l1 l2).get? (zm2 t1 t2 s.heap l1 l2).objs.size = some _ := Heap.get?_push_of_some _ (Heap.get?_push_of_some _ (Heap.get?_push_size _ rfl))
  have g2 : (zm5 t1 t2 s.heap l1 l2).get? (zm1 t1 s.heap l1).objs.size = some _ := Heap.get?_push_of_some _ (Heap.get?_push_of_some _ (Heap.get?_push_of_some _ (Heap.get?_push_size _ rfl)))
  have g1 : (zm5 t1 t2 s.heap l1 l2).get? s.heap.objs.size = some _ := Heap.get?_push_of_some _ (Heap.get?_push_of_some _ (Heap.get?_push_of_some _ (Heap.get?_push_of_some _ (Heap.get?_push_size _ rfl))))
  show _ ∧ _
  rw [z2, z3, z4] at g5
  rw [z1, z2] at g3
  rw [z3] at g4
  rw [z1] at g2
  rw [z4]
  exact ⟨⟨_, g5, rfl⟩, h _ g5 g3 g4 (its_new g1) (its_new g2) z5 fun c o x =>
    Heap.get?_push_of_some _ (Heap.get?_push_of_some _ (Heap.get?_push_of_some _ (Heap.get?_push_of_some _ (Heap.get?_push_of_some _ x))))⟩
end
theorem RowS.get {X : Cx} {pins : List (Addr × Obj)} {σ : L2.St} {H : Hp} {s : Shared} {t : Bool} {a : Addr} {xs : List V} (I : Inv X pins σ H s) (h : RowS X.K H t a xs) : ∃ its : List Value, Vals xs its ∧ SqS t s.heap a its.toArray := by
  cases t
  · obtain ⟨its, r, p, _⟩ := I.list h
    exact ⟨its, r, p.isList⟩
  · obtain ⟨its, r, p, _⟩ := I.tuple h
    exact ⟨its, r, p⟩
theorem RowS.inj {X : Cx} {pins : List (Addr × Obj)} {σ : L2.St} {H : Hp} {s : Shared} {t : Bool} {a : Addr} {xs ys : List V} (I : Inv X pins σ H s) (h : RowS X.K H t a xs) (g : RowS X.K H t a ys) : xs = ys := by
  cases t
  · exact I.list_inj h g
  · exact I.tuple_inj h g
/-- the rows at a and b as they stand at each turn, the items in new pairs -/
def ItzM (K : PySem.W.Frag) (t1 t2 : Bool) (a b : Addr) : It :=
  ⟨fun i H => ∃ (xs ys : List V) (x y : V), RowS K H t1 a xs ∧ RowS K H t2 b ys ∧ xs[i]? = some x ∧ ys[i]? = some y,
    fun i H v H' => ∃ T x y, v = .ref T ∧ H T = none ∧ H' = upd H T (.tup [x, y]) ∧ (∀ xs, RowS K H t1 a xs → xs[i]? = some x) ∧ ∀ ys, RowS K H t2 b ys → ys[i]? = some y,
    fun i H => ∃ xs ys : List V, RowS K H t1 a xs ∧ RowS K H t2 b ys ∧ xs.length = ys.length ∧ xs.length = i⟩
theorem zsep {z TI TO i1 i2 a b : Addr} (D : ZipApart z TI TO i1 i2 a b) (ai2 : a ≠ i2) (bi1 : b ≠ i1) : ZipSep2 z TI TO i1 i2 [i1, a] [i2, b] where
  TIz := D.TIz
  TOz := D.TOz
  TITO := D.TITO
  TIi1 := D.TIi1
  mem1 := by simp
  zf1 := by simp [D.i1z.symm, D.l1z.symm]
  Tf1 := by simp [D.TOi1, D.l1TO.symm]
  TIi2 := D.TIi2
  mem2 := by simp
  zf2 := by simp [D.i2z.symm, D.l2z.symm]
  Tf2 := by simp [D.TOi2, D.l2TO.symm]
  sep1_2 := by simp [D.i12, bi1.symm]
  sep2_1 := by simp [D.i12.symm, ai2.symm]
theorem turn_zipM {P : Program} {w : World} {K : PySem.W.Frag} {elts : List Expr} {kk : Nat} {tpos : Pos} {t1 t2 : Bool} {a b z TI TO i1 i2 : Addr} (D : ZipApart z TI TO i1 i2 a b) :
    Turn P w K (.Tuple elts kk tpos) (ItzM K t1 t2 a b) [z, TI, TO, i1, i2] z (fun i h => IsZip h z TI TO .none ∧ IsPair h TI (.ref i1) (.ref i2) ∧ (∃ x y, IsPair h TO x y) ∧ ItS t1 h i1 a i ∧ ItS t2 h i2 b i) where
  mem := by simp
  obj := fun i h st c hc => by
    obtain ⟨hz, hTI, ⟨x, y, hTO⟩, h1, h2⟩ := st
    obtain ⟨o1, v1, e1, d1⟩ := h1.obj
    obtain ⟨o2, v2, e2, d2⟩ := h2.obj
    have e' : c = z ∨ c = TI ∨ c = TO ∨ c = i1 ∨ c = i2 := by simpa using hc
    rcases e' with q | q | q | q | q
    · rw [q]; exact ⟨_, hz, fun v q => nomatch q⟩
    · rw [q]; exact ⟨_, hTI, fun v q => nomatch q⟩
    · rw [q]; exact ⟨_, hTO, fun v q => nomatch q⟩
    · rw [q]; exact ⟨o1, e1, fun v q => by rw [d1] at q; cases q⟩
    · rw [q]; exact ⟨o2, e2, fun v q => by rw [d2] at q; cases q⟩
  keep := fun i h h' st k => by
    obtain ⟨hz, hTI, ⟨x, y, hTO⟩, h1, h2⟩ := st
    exact ⟨k z (by simp) _ hz, k TI (by simp) _ hTI, ⟨x, y, k TO (by simp) _ hTO⟩, h1.at fun o q => k i1 (by simp) o q, h2.at fun o q => k i2 (by simp) o q⟩
  item := by
    intro X hP hw hK hc i pins s σ H E I hf st hg
    subst hP hw hK
    obtain ⟨hz, hTI, ⟨x0, y0, hTO⟩, h1, h2⟩ := st
    obtain ⟨xs, ys, x, y, hqx, hqy, hx, hy⟩ := hg
    obtain ⟨its, rv, p⟩ := hqx.get I
    obtain ⟨its2, rv2, p2⟩ := hqy.get I
    obtain ⟨u, hu, ru⟩ := rv.get hx
    obtain ⟨u2, hu2, ru2⟩ := rv2.get hy
    have hzl : z < s.heap.objs.size := Heap.lt_size hz
    have il1 : i < its.toArray.size := by
      rw [List.size_toArray]
      exact (List.getElem?_eq_some_iff.mp hu).1
    have il2 : i < its2.toArray.size := by
      rw [List.size_toArray]
      exact (List.getElem?_eq_some_iff.mp hu2).1
    refine wpAny_pyNext_zipD2_item (zsep D D.l1i2 D.l2i1) (drawsS (A := X.A.in1) (I.ok.hd hc) t1 i1 a D.l1i1 its.toArray) (drawsS (A := X.A.in1) (I.ok.hd hc) t2 i2 b D.l2i2 its2.toArray) hz hTI hTO ⟨h1, p⟩ ⟨h2, p2⟩ il1 il2
      fun w1 w2 h' tk hw1 hw2 z' TO' s1' s2' hT hsz hk => ?_
    obtain ⟨h1', _⟩ := s1'
    obtain ⟨h2', _⟩ := s2'
    have e1 : w1 = u := by
      have q : its[i]? = some w1 := by simpa using hw1
      rw [hu] at q
      exact (Option.some.inj q).symm
    have e2 : w2 = u2 := by
      have q : its2[i]? = some w2 := by simpa using hw2
      rw [hu2] at q
      exact (Option.some.inj q).symm
    subst e1 e2
    refine ⟨_, rfl, wpAny_letOwnedTupleGo_zip (s := { s with heap := h', toks := tk }) z' fun h'' z'' sb => ?_⟩
    have hT2 : h''.get? s.heap.objs.size = some { cls := .type "tuple", data := .seq #[w1, w2] } := (sb.2 _ (Nat.ne_of_gt hzl)).trans hT
    have new : ObjOk X.prog X.w (upd H s.heap.objs.size (.tup [x, y])) h'' s.heap.objs.size (.tup [x, y]) :=
      ⟨by show 2 ≤ sizeLine; decide, [w1, w2], .cons ru (.cons ru2 .nil), ⟨_, hT2, rfl, _, rfl⟩⟩
    have I1 : Inv X pins σ (upd H s.heap.objs.size (.tup [x, y])) { s with heap := h'', toks := tk } :=
      I.turnedNew (t' := tk) (ch := [z, TI, TO, i1, i2]) (fun c o hb q => (sb.2 c (fun q' => hb (by simp [q']))).trans (hk c o (fun q' => hb (by simp [q'])) (fun q' => hb (by simp [q'])) (fun q' => hb (by simp [q'])) (fun q' => hb (by simp [q'])) q)) hf (Nat.le_refl _) new
    refine ⟨.ref s.heap.objs.size, _, I1, rfl, ⟨_, x, y, rfl, I.hok.fresh (Nat.le_refl _), rfl, fun l hl => by rw [hl.inj I hqx]; exact hx, fun l hl => by rw [hl.inj I hqy]; exact hy⟩, ⟨z'', ?_, ⟨w1, w2, ?_⟩, ?_, ?_⟩, fun c hcm => ?_⟩
    · exact (sb.2 _ D.TIz).trans (hk _ _ D.TIz D.TITO D.TIi1 D.TIi2 hTI)
    · exact (sb.2 _ D.TOz).trans TO'
    · exact h1'.at fun o q => (sb.2 _ D.i1z).trans q
    · exact h2'.at fun o q => (sb.2 _ D.i2z).trans q
    · have hlt : c < s.heap.objs.size := by
        obtain ⟨o1, v1, e1, d1⟩ := h1.obj
        obtain ⟨o2, v2, e2, d2⟩ := h2.obj
        have e' : c = z ∨ c = TI ∨ c = TO ∨ c = i1 ∨ c = i2 := by simpa using hcm
        rcases e' with q | q | q | q | q
        · rw [q]; exact hzl
        · rw [q]; exact Heap.lt_size hTI
        · rw [q]; exact Heap.lt_size hTO
        · rw [q]; exact Heap.lt_size e1
        · rw [q]; exact Heap.lt_size e2
      rw [upd_ne (Nat.ne_of_lt hlt)]
      exact (hf c hcm).1
  done := by
    intro X hP hw hK hc i pins s σ H E I hf st hg
    subst hP hw hK
    obtain ⟨hz, hTI, ⟨x0, y0, hTO⟩, h1, h2⟩ := st
    obtain ⟨xs, ys, hqx, hqy, hl, hend⟩ := hg
    obtain ⟨its, rv, p⟩ := hqx.get I
    obtain ⟨its2, rv2, p2⟩ := hqy.get I
    have l1 := rv.length
    have l2 := rv2.length
    refine wpAny_pyNext_zipD2_end (zsep D D.l1i2 D.l2i1) (drawsS (A := X.A.in1) (I.ok.hd hc) t1 i1 a D.l1i1 its.toArray) (drawsS (A := X.A.in1) (I.ok.hd hc) t2 i2 b D.l2i2 its2.toArray) hz hTI hTO ⟨h1, p⟩ ⟨h2, p2⟩ (by simp; omega) (by simp; omega) (.inl (by simp; omega))
      fun h' tk hk => ⟨rfl, I.turnedL (t' := tk) (ch := [z, TI, TO, i1, i2]) (fun c o hb q =>
      hk c o (fun q' => hb (by simp [q'])) (fun q' => hb (by simp [q'])) (fun q' => hb (by simp [q'])) (fun q' => hb (by simp [q'])) q) hf⟩
  self := fun A i s Q E st h => wpAny_pyIter_zip st.1 h
def iAtM (K : PySem.W.Frag) (t1 t2 : Bool) (a b : Addr) : TI := fun _ H R => (∃ xs ys, RowS K H t1 a xs ∧ RowS K H t2 b ys) ∧ R (ItzM K t1 t2 a b) H
def iZipM (K : PySem.W.Frag) (t1 t2 : Bool) (ta : TA) : TI := fun σ H R => ta σ H fun vs H1 => ∃ a b, vs = [.ref a, .ref b] ∧ (∃ xs ys, RowS K H1 t1 a xs ∧ RowS K H1 t2 b ys) ∧ R (ItzM K t1 t2 a b) H1
theorem pi_zipM {X : Cx} {t1 t2 : Bool} {e e2 : Expr} {ta : TA} {p pos tpos : Pos} {elts : List Expr} {kk : Nat} (hg : Gl X "zip") (hm : X.mg "zip" = none) (ha : PA X [e, e2] ta)
    (hs : starEach [e, e2] X.env = (false, eval e X.env) :: starEach [e2] X.env := by rfl) (hpl : (backTo pos (starEach [e2] X.env)).any (·.1) = false := by rfl) :
    PI X (.Tuple elts kk tpos) (.Call (.Name "zip" p) [e, e2] [] pos) (iZipM X.K t1 t2 ta) := by
  refine ⟨fun pins s σ H R I h => ?_⟩
  refine Call_ (ld_blt I hg hm PyProof.Rows.boot_zip (PyProof.Rows.callWith_type1 (thn (ha.run pos pins s σ H _ I h) fun us s1 ⟨vs, H1, I1, r1, q1⟩ => ?_) hs hpl))
  obtain ⟨a, b, ex, ⟨xs, ys, hqx, hqy⟩, q⟩ := q1
  subst ex
  cases r1 with
  | cons r rr =>
    cases rr with
    | cons r' rr =>
      cases rr
      cases r
      cases r'
      have fresh5 : ∀ c, c ∈ [s1.heap.objs.size + 4, s1.heap.objs.size + 2, s1.heap.objs.size + 3, s1.heap.objs.size, s1.heap.objs.size + 1] → FpOk X pins H1 c := fun c hcm => by
        have e' : c = s1.heap.objs.size + 4 ∨ c = s1.heap.objs.size + 2 ∨ c = s1.heap.objs.size + 3 ∨ c = s1.heap.objs.size ∨ c = s1.heap.objs.size + 1 := by simpa using hcm
        have hle : s1.heap.objs.size ≤ c := by
          rcases e' with z | z | z | z | z
          · rw [z]; exact Nat.le_add_right _ _
          · rw [z]; exact Nat.le_add_right _ _
          · rw [z]; exact Nat.le_add_right _ _
          · rw [z]; exact Nat.le_refl _
          · rw [z]; exact Nat.le_add_right _ _
        exact I1.fpOk hle (I1.hok.fresh hle)
      obtain ⟨its, rv, p1⟩ := hqx.get I1
      obtain ⟨its2, rv2, p2⟩ := hqy.get I1
      refine call_zipM p1 p2 fun h' hz hTI hTO h1 h2 hsz hk => wpAny_pyIter_zip hz ?_
      have I2 : Inv X pins σ H1 { s1 with heap := h' } := I1.kept (t' := s1.toks) hk
      exact ⟨s1.heap.objs.size + 4, [s1.heap.objs.size + 4, s1.heap.objs.size + 2, s1.heap.objs.size + 3, s1.heap.objs.size, s1.heap.objs.size + 1], _, _, H1, rfl, I2, turn_zipM (PySem.W.ktu_apart s1.heap.objs.size a b p1.lt p2.lt), ⟨hz, hTI, ⟨_, _, hTO⟩, h1, h2⟩, fresh5, q⟩
section
variable {K : PySem.W.Frag} {σ : L2.St} {H : Hp} {Q : VK} {te : TE} {tt : TT} {tr : TA} {g : TG} {a b : Addr} {xs ys : List V} {vs : List Nat} {t1 t2 : Bool}
/-- [.. for x, y in zip(t, u) if ..] -/
theorem w_lczm (q : tr σ H fun ws H1 => ∃ a b, ws = [.ref a, .ref b] ∧ tLc (iAtM K t1 t2 a b) g tt te vs σ H1 Q) : tLc (iZipM K t1 t2 tr) g tt te vs σ H Q := q
theorem w_lcZM (hx : RowS K H t1 a xs) (hy : RowS K H t2 b ys) (he : xs.length = ys.length) (J : Addr → Nat → List V → Hp → Prop) (h0 : ∀ D, H D = none → J D 0 [] (upd H D (.lst [])))
    (hl : ∀ D i acc H1, J D i acc H1 → RowS K H1 t1 a xs ∧ RowS K H1 t2 b ys)
    (hs : ∀ D i acc x y T H1, xs[i]? = some x → ys[i]? = some y → J D i acc H1 → H1 T = none → g (.ref T) (wipe σ vs) (upd H1 T (.tup [x, y])) fun σ2 H2 => wipe σ2 vs = wipe σ vs ∧ tt σ2 H2 fun b H3 => if b = true then te σ2 H3 fun y H4 => ∃ bcc, H4 D = some (.lst bcc) ∧ bcc.length < sizeLine ∧ ∃ ccc, J D (i + 1) ccc (upd H4 D (.lst (bcc ++ [y]))) else ∃ ccc, J D (i + 1) ccc H3)
    (hd : ∀ D acc H1, J D xs.length acc H1 → Q (.ref D) H1) : tLc (iAtM K t1 t2 a b) g tt te vs σ H Q := by
  refine ⟨⟨xs, ys, hx, hy⟩, fun D nD => ?_⟩
  refine ⟨fun i m H2 => m = xs.length - i ∧ i ≤ xs.length ∧ ∃ acc, J D i acc H2, ⟨xs.length, by simp, Nat.zero_le _, [], h0 D nD⟩, ?_⟩
  rintro i m H2 ⟨rfl, hi, acc, q⟩
  obtain ⟨q1, q2⟩ := hl D i acc H2 q
  by_cases hlt : i < xs.length
  · have k2 : i < ys.length := by omega
    refine .inr ⟨⟨xs, ys, xs[i], ys[i], q1, q2, List.getElem?_eq_getElem hlt, List.getElem?_eq_getElem k2⟩, fun H' => ∃ ccc, J D (i + 1) ccc H', fun H' z => ⟨xs.length - (i + 1), by omega, rfl, hlt, z⟩, ?_⟩
    rintro z H' ⟨T, x, y, rfl, nT, rfl, hx, hy⟩
    exact hs D i acc x y T H2 (hx xs q1) (hy ys q2) q nT
  · have e : i = xs.length := by omega
    subst e
    exact .inl ⟨⟨xs, ys, q1, q2, he, rfl⟩, hd D acc H2 q⟩
end
end Rv
namespace RvM
open Rv PySem PySem.Spec PyProof.Rows L2
/-- a for over a tuple that is just made -/
def iTt (K : PySem.W.Frag) (a : Addr) : TI := fun _ H R => (∃ xs, SqT K H a xs) ∧ R (Itt K a) H
/-- [e for k in range(n)], each e a draw: what holds of each item -/
theorem w_lcDraw {σ : L2.St} {H : Hp} {Q : VK} {slot n : Nat} {tr : TA} {te : TE} {d c : Addr} {G : Int → Prop} (hD : DrawsAt H d c) (hn : n ≤ 60) (ha : ∀ AQ : List V → Hp → Prop, AQ [.int (n : Int)] H → tr σ H AQ)
    (hs : ∀ (j : Int) H1 (Q : VK), But d H H1 → DrawsAt H1 d c → (∀ y H2, G y → But d H1 H2 → DrawsAt H2 d c → Q (.int y) H2) → te ((σ.set slot none).set slot (some (.int j))) H1 Q)
    (k : ∀ D H1 (zs : List Int), zs.length = n → (∀ z ∈ zs, G z) → But d H H1 → DrawsAt H1 d c → H D = none → H1 D = some (.lst (zs.map V.int)) → Q (.ref D) H1) : tLc (iRng1 tr) (gName slot) tYes te [slot] σ H Q := by
  refine w_lcR (n := n) (by omega) ha (fun D acc H' => ∃ zs : List Int, acc = zs.map V.int ∧ (∀ z ∈ zs, G z) ∧ But d H H' ∧ DrawsAt H' d c ∧ H' D = some (.lst acc) ∧ D ≠ d ∧ D ≠ c ∧ H D = none) (fun D nD => ?_) ?_ ?_
  · exact ⟨[], rfl, (fun _ h => nomatch h), (But.refl d H).new nD, hD.new (same_new (Same.refl H) nD), upd_same, hD.nd nD, hD.nc nD, nD⟩
  · rintro D acc H' hl ⟨zs, rfl, hok, b, DD, hD', nDd, nDc, nD⟩
    refine hs _ H' _ b DD fun y H4 gy e4 D4 => ?_
    have b4 := b.trans e4
    refine w_app (J := fun D acc H' => ∃ zs : List Int, acc = zs.map V.int ∧ (∀ z ∈ zs, G z) ∧ But d H H' ∧ DrawsAt H' d c ∧ H' D = some (.lst acc) ∧ D ≠ d ∧ D ≠ c ∧ H D = none) (e4 _ _ nDd hD') (by rw [List.length_map] at hl ⊢; omega) ⟨zs ++ [y], (by rw [map_app]), ?_, ?_, D4.wr nDd nDc, upd_same, nDd, nDc, nD⟩
    · intro y' hy
      rcases List.mem_append.mp hy with h | h
      · exact hok y' h
      · rw [List.mem_singleton.mp h]
        exact gy
    · exact fun c o nc h => by
        have q := b4 c o nc h
        rw [upd_ne (ne_of_none h nD)]
        exact q
  · rintro D acc H' hl ⟨zs, rfl, hok, b, DD, hD', nDd, nDc, nD⟩
    rw [List.length_map] at hl
    exact k D H' zs (by omega) hok b DD nD hD'
theorem cut_pre {xs : List Int} {n : Nat} (h : n ≤ xs.length) : cutV (xs.map V.int) none (some (n : Int)) = (xs.take n).map V.int := by
  have ln : (xs.map V.int).length = xs.length := List.length_map ..
  unfold cutV
  rw [show HT.sIx (xs.map V.int).length 0 none = 0 from rfl, HT.sIx_nat, ln, List.drop_zero, List.map_take]
  congr 1
  omega
theorem cut_suf {xs : List Int} {n : Nat} (h : n ≤ xs.length) : cutV (xs.map V.int) (some (n : Int)) none = (xs.drop n).map V.int := by
  have ln : (xs.map V.int).length = xs.length := List.length_map ..
  unfold cutV
  rw [show HT.sIx (xs.map V.int).length (xs.map V.int).length none = (xs.map V.int).length from rfl, HT.sIx_nat, ln, List.map_drop]
  rw [show min n xs.length = n by omega]
  exact List.take_of_length_le (by rw [List.length_drop, ln]; omega)
theorem prod_le {z x : Int} {A B M : Nat} (h : z.natAbs ≤ A) (g : x.natAbs ≤ B) (e : A * B ≤ M := by decide) : (z * x).natAbs ≤ M := by
  rw [Int.natAbs_mul]
  exact Nat.le_trans (Nat.mul_le_mul h g) e
local macro_rules | `(tactic| walk_at "rv st") => `(tactic| first
  | with_reducible refine iteT ?_ | with_reducible refine iteF ?_ | with_reducible refine w_nx ?_ | with_reducible refine w_yes ?_ | with_reducible refine w_rt ?_ | with_reducible refine iteNT ?_ | with_reducible refine iteNF ?_ | with_reducible refine iteNRf ?_ | with_reducible refine iteRf ?_ | with_reducible refine w_seqA ?_ | with_reducible refine w_seqD ?_ | with_reducible refine w_seqP ?_ | with_reducible refine w_asg ?_ | with_reducible refine w_ret ?_ | with_reducible refine w_drop ?_ | with_reducible refine w_ifs ?_ | with_reducible refine w_next ?_ | with_reducible refine w_par ?_
  | with_reducible refine w_op ?_ | with_reducible refine w_un ?_ | ((with_reducible show tVar _ _ _ _); refine' w_var ?hv ?_; (case hv => exact rfl)) | with_reducible refine w_c ?_ | with_reducible refine w_test ?_ | with_reducible refine w_tB ?_
  | with_reducible refine w_bl ?_ | with_reducible refine w_I0 ?_ | with_reducible refine w_U ?_ | with_reducible refine w_eqI ?_ | with_reducible refine w_neI ?_
  | with_reducible refine w_cons ?_ | with_reducible refine w_nil ?_ | with_reducible refine w_gn ?_ | with_reducible refine w_gsub ?_ | with_reducible refine w_and ?_ | with_reducible refine w_or ?_ | with_reducible refine w_not ?_
  | with_reducible refine w_andV ?_ | with_reducible refine w_orV ?_ | with_reducible refine w_notV ?_ | with_reducible refine w_if ?_ | with_reducible refine w_cb ?_ | with_reducible refine w_call ?_ | with_reducible refine w_lst ?_ | with_reducible refine w_tup ?_
  | with_reducible refine w_sl ?_ | with_reducible refine w_noPart ?_ | with_reducible refine w_part ?_ | with_reducible refine w_ex1 ?_ | with_reducible refine w_exb ?_ | with_reducible refine w_intB ?_ | with_reducible refine w_intI ?_ | with_reducible refine w_abs ?_)
local macro_rules | `(tactic| walk_at "rv ix") => `(tactic| ((with_reducible show rIxL _ _ _ _ _); refine' w_ixL (sq_lst ?ha) ?hb ?_; (case ha => first | exact upd_same | assumption); (case hb => first | exact rfl | assumption)))
local macro_rules | `(tactic| walk_at "rv ar") => `(tactic| first
  | (refine' w_I ?hc ?_; (case hc => first | (show (0 : Int) < _; first | assumption | decide | omega) | exact pow_c (by decide) (by decide) (by first | decide | omega) (by first | decide | omega) | exact mul_r (by first | decide | omega) (by first | decide | omega) | exact mul_l (by first | decide | omega) (by first | decide | omega) | exact divw (by first | assumption | decide | omega) (by first | assumption | decide | omega))))
local macro_rules | `(tactic| walk_at "rv go") => `(tactic| repeat first | walk_at "rv st" | walk_at "rv ix" | ((with_reducible show rI _ _ _ _ _ _); walk_at "rv ar"))
/-! comprehensions whose items are a function of the place -/
theorem rowS_same {K : PySem.W.Frag} {H H' : Hp} {t : Bool} {a : Addr} {xs : List V} (h : RowS K H t a xs) (e : Same H H') : RowS K H' t a xs := by
  cases t
  · rcases h with (h | ⟨o, h⟩) | h
    · exact .inl (.inl (e _ _ h))
    · exact .inl (.inr ⟨o, e _ _ h⟩)
    · exact .inr h
  · exact sqt_same h e
theorem map_range_succ {g : Nat → Int} {i : Nat} : ((List.range (i + 1)).map g).map V.int = ((List.range i).map g).map V.int ++ [.int (g i)] := by
  rw [List.range_succ, List.map_append, List.map_append]
  rfl
/-- [e for k in range(n)] -/
theorem w_lcF {σ : L2.St} {H : Hp} {Q : VK} {slot n : Nat} {tr : TA} {te : TE} {g : Nat → Int} (hn : n ≤ 1000) (ha : ∀ AQ : List V → Hp → Prop, AQ [.int (n : Int)] H → tr σ H AQ)
    (hs : ∀ j, j < n → ∀ H1 (Q : VK), Same H H1 → (∀ H2, Same H1 H2 → Q (.int (g j)) H2) → te ((σ.set slot none).set slot (some (.int (j : Int)))) H1 Q)
    (k : ∀ D H1, H D = none → Same H H1 → H1 D = some (.lst (((List.range n).map g).map V.int)) → Q (.ref D) H1) : tLc (iRng1 tr) (gName slot) tYes te [slot] σ H Q := by
  refine w_lcR (n := n) (by omega) ha (fun D acc H' => Same H H' ∧ H D = none ∧ acc.length ≤ n ∧ acc = ((List.range acc.length).map g).map V.int ∧ H' D = some (.lst acc)) (fun D nD => ?_) ?_ ?_
  · exact ⟨same_new (Same.refl H) nD, nD, Nat.zero_le _, rfl, upd_same⟩
  · rintro D acc H1 hl ⟨e, nD, _, hacc, hD⟩
    refine hs acc.length hl H1 _ e fun H2 e2 => ?_
    refine w_app (J := fun D acc H' => Same H H' ∧ H D = none ∧ acc.length ≤ n ∧ acc = ((List.range acc.length).map g).map V.int ∧ H' D = some (.lst acc)) (e2 _ _ hD) (by omega) ?_
    refine ⟨fun c o hc => ?_, nD, by rw [List.length_append]; show acc.length + 1 ≤ n; omega, ?_, upd_same⟩
    · rw [upd_ne (ne_of_none hc nD)]
      exact e2 _ _ (e _ _ hc)
    · rw [List.length_append]
      show acc ++ [V.int (g acc.length)] = ((List.range (acc.length + 1)).map g).map V.int
      rw [map_range_succ, ← hacc]
  · rintro D acc H1 hl ⟨e, nD, _, hacc, hD⟩
    rw [hl] at hacc
    exact k D H1 nD e (by rw [hD, hacc])
theorem w_lct {K : PySem.W.Frag} {σ : L2.St} {H : Hp} {Q : VK} {tl te : TE} {tt : TT} {g : TG} {vs : List Nat} (q : tl σ H fun x H1 => ∃ a, x = .ref a ∧ tLc (iTt K a) g tt te vs σ H1 Q) : tLc (iTup K tl) g tt te vs σ H Q := q
/-- [e for z in t], a tuple of ints at hand -/
theorem w_lcIT {K : PySem.W.Frag} {σ : L2.St} {H : Hp} {Q : VK} {slot : Nat} {te : TE} {g : Int → Int} {t : Addr} {zs : List Int} (hx : SqT K H t (zs.map V.int)) (hlen : zs.length ≤ 1000)
    (hs : ∀ z ∈ zs, ∀ H1 (Q : VK), Same H H1 → (∀ H2, Same H1 H2 → Q (.int (g z)) H2) → te ((σ.set slot none).set slot (some (.int z))) H1 Q)
    (k : ∀ D H1, H D = none → Same H H1 → H1 D = some (.lst ((zs.map g).map V.int)) → Q (.ref D) H1) : tLc (iTt K t) (gName slot) tYes te [slot] σ H Q := by
  refine ⟨⟨_, hx⟩, fun D nD => ?_⟩
  refine lc_tup (xs := zs.map V.int) (fun i H' => Same H H' ∧ H' D = some (.lst (((zs.take i).map g).map V.int))) ⟨same_new (Same.refl H) nD, by rw [List.take_zero]; exact upd_same⟩ (fun i H' _ ⟨e, _⟩ => sqt_same hx e) ?_ ?_
  · rintro i x H' hxi ⟨e, hD⟩
    rw [List.getElem?_map] at hxi
    obtain ⟨z, hz, rfl⟩ := Option.map_eq_some_iff.mp hxi
    have il : i < zs.length := (List.getElem?_eq_some_iff.mp hz).1
    refine ⟨?_, ?_⟩
    · show ((σ.set slot none).set slot _).set slot none = σ.set slot none
      rw [List.set_set, List.set_set]
    · refine w_yes ?_
      refine iteT ?_
      refine hs z (List.mem_of_getElem? hz) H' _ e fun H2 e2 => ?_
      refine ⟨_, e2 _ _ hD, Nat.lt_of_lt_of_le (show (((zs.take i).map g).map V.int).length < 100001 by simp; omega) (by decide), ?_, ?_⟩
      · exact fun c o hc => by
          rw [upd_ne (ne_of_none hc nD)]
          exact e2 _ _ (e _ _ hc)
      · rw [upd_same, List.take_add_one, hz]
        simp
  · rintro H3 ⟨e3, hD⟩
    rw [List.length_map, List.take_length] at hD
    exact k D H3 nD e3 hD
/-- [e for x, y in zip(t, u)], ints -/
theorem w_lcZF {K : PySem.W.Frag} {σ : L2.St} {H : Hp} {Q : VK} {s1 s2 : Nat} {te : TE} {t1 t2 : Bool} {a b : Addr} {xs ys : List Int} {g : Nat → Int} (hx : RowS K H t1 a (xs.map V.int)) (hy : RowS K H t2 b (ys.map V.int)) (he : xs.length = ys.length) (hlen : xs.length ≤ 1000) (hne : s1 ≠ s2)
    (hs : ∀ i, i < xs.length → ∀ H1 (Q : VK), Same H H1 → (∀ H2, Same H1 H2 → Q (.int (g i)) H2) → te (((wipe σ [s1, s2]).set s1 (some (.int (hN xs i)))).set s2 (some (.int (hN ys i)))) H1 Q)
    (k : ∀ D H1, H D = none → Same H H1 → H1 D = some (.lst (((List.range xs.length).map g).map V.int)) → Q (.ref D) H1) : tLc (iAtM K t1 t2 a b) (gTup K 2 (gCons (gName s1) (gCons (gName s2) gNil))) tYes te [s1, s2] σ H Q := by
  refine w_lcZM (J := fun D i acc H' => Same H H' ∧ H D = none ∧ acc = ((List.range i).map g).map V.int ∧ H' D = some (.lst acc)) hx hy (by rw [List.length_map, List.length_map, he]) (fun D nD => ⟨same_new (Same.refl H) nD, nD, rfl, upd_same⟩) (fun D i acc H1 ⟨e, _⟩ => ⟨rowS_same hx e, rowS_same hy e⟩) ?_ ?_
  · rintro D i acc x y T H1 hxi hyi ⟨e, nD, hacc, hD⟩ nT
    rw [List.getElem?_map] at hxi hyi
    obtain ⟨z, hz, rfl⟩ := Option.map_eq_some_iff.mp hxi
    obtain ⟨w', hw, rfl⟩ := Option.map_eq_some_iff.mp hyi
    have il : i < xs.length := (List.getElem?_eq_some_iff.mp hz).1
    have ez : hN xs i = z := by
      unfold hN
      rw [hz]
      rfl
    have ew : hN ys i = w' := by
      unfold hN
      rw [hw]
      rfl
    have e1 := same_new (o := .tup [.int z, .int w']) (Same.refl H1) nT
    refine ⟨T, [.int z, .int w'], rfl, sq_tup upd_same, rfl, _, _, rfl, ?_⟩
    refine ⟨_, _, rfl, rfl, ?_⟩
    refine ⟨?_, ?_⟩
    · show ((((σ.set s2 none).set s1 none).set s1 _).set s2 _ |>.set s2 none).set s1 none = (σ.set s2 none).set s1 none
      rw [List.set_set, List.set_set]
      rw [List.set_comm _ _ hne, List.set_set]
      rw [List.set_set]
    · refine w_yes ?_
      refine iteT ?_
      have q := hs i il (upd H1 T (.tup [.int z, .int w'])) (fun y H4 => ∃ bcc, H4 D = some (.lst bcc) ∧ bcc.length < sizeLine ∧ ∃ ccc, (Same H (upd H4 D (.lst (bcc ++ [y]))) ∧ H D = none ∧ ccc = ((List.range (i + 1)).map g).map V.int ∧ (upd H4 D (.lst (bcc ++ [y]))) D = some (.lst ccc))) (e.trans e1) fun H2 e2 => ?_
      · rw [ez, ew] at q
        exact q
      · refine ⟨acc, e2 _ _ (e1 _ _ hD), Nat.lt_of_lt_of_le (show acc.length < 100001 by rw [hacc]; simp; omega) (by decide), ((List.range (i + 1)).map g).map V.int, ?_, nD, rfl, ?_⟩
        · exact fun c o hc => by
            rw [upd_ne (ne_of_none hc nD)]
            exact e2 _ _ (e1 _ _ (e _ _ hc))
        · rw [upd_same, hacc, map_range_succ]
  · rintro D acc H1 ⟨e, nD, hacc, hD⟩
    rw [List.length_map] at hacc
    exact k D H1 nD e (by rw [hD, hacc])
theorem w_slA {K : PySem.W.Frag} {H : Hp} {Q : VK} {t : Addr} {xs : List V} {lo hi : Option Int} (hT : SqT K H t xs) (k : ∀ x H', Same H H' → SqT K H' x (cutV xs lo hi) → Q (.ref x) H') : rSlA K (.ref t) lo hi H Q := by
  refine ⟨t, _, rfl, hT, ?_, ?_⟩
  · rintro ⟨h1, h2⟩
    have e : cutV xs lo hi = xs := by
      unfold cutV
      rw [h1, h2, List.drop_zero]
      exact List.take_of_length_le (by omega)
    exact k t H (Same.refl H) (by rw [e]; exact hT)
  · exact fun _ p np => k p _ (same_new (Same.refl H) np) (sq_tup upd_same)
theorem op_subO {X : Cx} {CX : CXT} {k : Nat} {sp : Sp} {E : XK} {C : Addr} (c : CalO X.prog X.w X.K X.mg X.base CX k C "__sub__" sp) (oc : OpC X.K C) (hr : Room k X.A) (hx : Passes CX X E) : OpR X (binaryOp .Sub) (rAddO C sp E) := by
  intro pins s σ H x y v u Q I rx ry h
  obtain ⟨a, dx, fs, b, dy, gs, rfl, ha, rfl, hb', q⟩ := h
  cases (show v = Value.ref a from rx)
  cases (show u = Value.ref b from ry)
  obtain ⟨f, fd, F, hs, hf, hb⟩ := c.ex
  obtain ⟨mA, J, _⟩ := ins_get I.hok ha
  obtain ⟨od, J, _⟩ := J.look
  obtain ⟨mB, J', _⟩ := ins_get I.hok hb'
  obtain ⟨od', J', _⟩ := J'.look
  obtain ⟨m, hF⟩ := I.fr
  have go := run2 (y := .ref b) (u := .ref b) F hb hx hr I rfl q
  exact PySem.W.binop_K (op := .Sub) hF I.ok.mod.kin J J'.type oc.sf (by rw [show PySem.dunder (Operator.info .Sub).2 = ("__sub__" : Str) from by decide +kernel]; exact hs) hf go
end RvM
namespace RvM
open Rv PySem PySem.Spec PyProof.Rows L2
/-! the greatest of a row, the surfaces, the volume in the end -/
def mxF (a : Int) : List Int → Int
  | [] => a
  | y :: r => mxF (if a < y then y else a) r
theorem mxF_ge : ∀ (xs : List Int) (a : Int), a ≤ mxF a xs ∧ ∀ y ∈ xs, y ≤ mxF a xs
  | [], a => ⟨Int.le_refl _, fun _ h => nomatch h⟩
  | y :: r, a => by
    obtain ⟨h1, h2⟩ := mxF_ge r (if a < y then y else a)
    unfold mxF
    refine ⟨?_, fun z hz => ?_⟩
    · split at h1 <;> rename_i c
      · rw [if_pos c]
        omega
      · rw [if_neg c]
        exact h1
    · rcases List.mem_cons.mp hz with rfl | hz
      · split at h1 <;> rename_i c
        · rw [if_pos c]
          exact h1
        · rw [if_neg c]
          omega
      · exact h2 z hz
theorem mxF_mem : ∀ (xs : List Int) (a : Int), mxF a xs = a ∨ mxF a xs ∈ xs
  | [], a => .inl rfl
  | y :: r, a => by
    unfold mxF
    rcases mxF_mem r (if a < y then y else a) with h | h
    · rw [h]
      split
      · exact .inr List.mem_cons_self
      · exact .inl rfl
    · exact .inr (List.mem_cons_of_mem _ h)
def lfA (hs : List Int) (i : Nat) : Int := mxF (hN hs i) (hs.take i)
def rgA (hs : List Int) (i : Nat) : Int := mxF (hN hs i) (hs.drop i)
theorem mem_take1 {hs : List Int} {i : Nat} (h : i < hs.length) {y : Int} : y ∈ hs.take (i + 1) ↔ y ∈ hs.take i ∨ y = hN hs i := by
  rw [List.take_add_one, List.getElem?_eq_getElem h]
  have e : hN hs i = hs[i] := by
    unfold hN
    rw [List.getElem?_eq_getElem h]
    rfl
  rw [e]
  show y ∈ hs.take i ++ [hs[i]] ↔ _
  rw [List.mem_append, List.mem_singleton]
theorem hN_mem_drop {hs : List Int} {i : Nat} (h : i < hs.length) : hN hs i ∈ hs.drop i := by
  have e : hN hs i = hs[i] := by
    unfold hN
    rw [List.getElem?_eq_getElem h]
    rfl
  rw [e, List.drop_eq_getElem_cons h]
  exact List.mem_cons_self
theorem lfA_uniq {hs : List Int} {i : Nat} (h : i < hs.length) {m : Int} (h1 : m ∈ hs.take (i + 1)) (h2 : ∀ y ∈ hs.take (i + 1), y ≤ m) : m = lfA hs i := by
  obtain ⟨g1, g2⟩ := mxF_ge (hs.take i) (hN hs i)
  have a : m ≤ lfA hs i := by
    rcases (mem_take1 h).mp h1 with z | z
    · exact g2 m z
    · rw [z]
      exact g1
  have b : lfA hs i ≤ m := h2 _ ((mem_take1 h).mpr ((mxF_mem (hs.take i) (hN hs i)).symm))
  omega
theorem rgA_uniq {hs : List Int} {i : Nat} (h : i < hs.length) {m : Int} (h1 : m ∈ hs.drop i) (h2 : ∀ y ∈ hs.drop i, y ≤ m) : m = rgA hs i := by
  obtain ⟨g1, g2⟩ := mxF_ge (hs.drop i) (hN hs i)
  have a : m ≤ rgA hs i := g2 m h1
  have b : rgA hs i ≤ m := by
    rcases mxF_mem (hs.drop i) (hN hs i) with z | z
    · unfold rgA
      rw [z]
      exact h2 _ (hN_mem_drop h)
    · exact h2 _ z
  omega
theorem lfA_in {hs : List Int} {i : Nat} (h : i < hs.length) : lfA hs i ∈ hs ∧ hN hs i ≤ lfA hs i := by
  refine ⟨?_, (mxF_ge _ _).1⟩
  rcases mxF_mem (hs.take i) (hN hs i) with z | z
  · unfold lfA
    rw [z]
    exact hN_mem h
  · exact List.mem_of_mem_take z
theorem rgA_in {hs : List Int} {i : Nat} (h : i < hs.length) : rgA hs i ∈ hs ∧ hN hs i ≤ rgA hs i := by
  refine ⟨?_, (mxF_ge _ _).1⟩
  rcases mxF_mem (hs.drop i) (hN hs i) with z | z
  · unfold rgA
    rw [z]
    exact hN_mem h
  · exact List.mem_of_mem_drop z
def lvA (hs : List Int) (i : Nat) : Int := if rgA hs i < lfA hs i then rgA hs i else lfA hs i
theorem lvA_in {hs : List Int} {i : Nat} (h : i < hs.length) : lvA hs i ∈ hs ∧ hN hs i ≤ lvA hs i := by
  unfold lvA
  split
  · exact rgA_in h
  · exact lfA_in h
def sumN (f : Nat → Int) : Nat → Int
  | 0 => 0
  | n + 1 => sumN f n + f n
theorem sumN_abs {f : Nat → Int} {M : Nat} : ∀ {n : Nat}, (∀ i, i < n → (f i).natAbs ≤ M) → (sumN f n).natAbs ≤ n * M
  | 0, _ => by simp [sumN]
  | n + 1, h => by
    have a := sumN_abs (n := n) fun i hi => h i (by omega)
    have b := h n (by omega)
    rw [Nat.succ_mul]
    show (sumN f n + f n).natAbs ≤ _
    omega
theorem sum_range (f : Nat → Int) : ∀ n, ((List.range n).map f).sum = sumN f n
  | 0 => rfl
  | n + 1 => by
    rw [List.range_succ, List.map_append, List.sum_append, sum_range f n]
    show _ + (f n + 0) = sumN f n + f n
    omega
def eF (hs ws : List Int) (i : Nat) : Int := hN ws i * (lvA hs i - hN hs i)
/-- the volume in the end -/
def eV (hs ws : List Int) : Int := sumN (eF hs ws) hs.length
theorem eF_abs {hs ws : List Int} (ok : PrOk hs ws) {i : Nat} (h : i < hs.length) : (eF hs ws i).natAbs ≤ 2000000000000000000000000000000000000000000000000000000000000 := by
  have a := hok_sz (ok.hh _ (lvA_in h).1)
  have b := hok_sz (ok.hh _ (hN_mem h))
  have c := wok_sz (ok.ww _ (hN_mem (hs := ws) (i := i) (by rw [ok.eq]; exact h)))
  exact prod_le (A := 1000000000000000000000000000000) (B := 2000000000000000000000000000000) c (by omega)
theorem eV_abs {hs ws : List Int} (ok : PrOk hs ws) : (eV hs ws).natAbs ≤ 120000000000000000000000000000000000000000000000000000000000000 := by
  refine Nat.le_trans (sumN_abs (f := eF hs ws) (n := hs.length) fun i hi => eF_abs ok hi) ?_
  exact Nat.le_trans (Nat.mul_le_mul_right _ ok.le) (by decide)
end RvM
namespace RvM
open Rv PySem PySem.Spec PyProof.Rows L2
def spEndS (K : PySem.W.Frag) (C : Addr) : Sp := fun vs H Q _ => ∃ p hs ws, vs = [.ref p] ∧ PCls K C ∧ ProfAt K C H p hs ws ∧ PrOk hs ws ∧ ∀ l H', Same H H' → H' l = some (.lst (((List.range hs.length).map (lvA hs)).map V.int)) → Q (.ref l) H'
def spEndV (K : PySem.W.Frag) (CP CR : Addr) : Sp := fun vs H Q _ => ∃ p hs ws, vs = [.ref p] ∧ PCls K CP ∧ RCls K CR ∧ ProfAt K CP H p hs ws ∧ PrOk hs ws ∧ ∀ q H', Same H H' → RatAt CR H' q (eV hs ws) 1 → Q (.ref q) H'
def t_end_surfaces (K : PySem.W.Frag) (C_Profile : Addr) : TS :=
  (tSeq (tAsg (tProp C_Profile (getSp C_Profile "column_heights") [] E0 (tVar 0)) (gName 1))
    (tSeq (tAsg (tCB (cLen K) (tCons (tVar 1) tNil)) (gName 2))
    (tSeq (tAsg (tLc (iRng1 (tCons (tVar 2) tNil)) (gName 5) tYes (tCB (rMax K) (tCons (tLc (iTup K (tSl (rSlA K) (tVar 1) tNoPart (tPart (tOp oAdd (tVar 5) (tC (.int 1)))))) (gName 6) tYes (tCB cInt (tCons (tVar 6) tNil)) [6]) tNil)) [5]) (gName 3))
    (tSeq (tAsg (tLc (iRng1 (tCons (tVar 2) tNil)) (gName 5) tYes (tCB (rMax K) (tCons (tLc (iTup K (tSl (rSlA K) (tVar 1) (tPart (tVar 5)) tNoPart)) (gName 6) tYes (tCB cInt (tCons (tVar 6) tNil)) [6]) tNil)) [5]) (gName 4))
    (tRet (tLc (iZipM K false false (tCons (tVar 3) (tCons (tVar 4) tNil))) (gTup K 2 (gCons (gName 7) (gCons (gName 8) gNil))) tYes (tCB cMin2 (tCons (tCB cInt (tCons (tVar 7) tNil)) (tCons (tVar 8) tNil))) [7, 8]))))))
def t_end_volume (K : PySem.W.Frag) (C_Profile : Addr) (C_Ratio : Addr) : TS :=
  (tSeq (tAsg (tLc (iZipM K false true (tCons (tCall (spEndS K C_Profile) [] E0 (tCons (tVar 0) tNil)) (tCons (tProp C_Profile (getSp C_Profile "column_heights") [] E0 (tVar 0)) tNil))) (gTup K 2 (gCons (gName 2) (gCons (gName 3) gNil))) tYes (tOp oSub (tVar 2) (tVar 3)) [2, 3]) (gName 1))
    (tRet (tMake C_Ratio (spRInit K C_Ratio) [.int 1] E0 (tCons (tCB (rSum K) (tCons (tLc (iZipM K true false (tCons (tProp C_Profile (getSp C_Profile "column_widths") [] E0 (tVar 0)) (tCons (tVar 1) tNil))) (gTup K 2 (gCons (gName 4) (gCons (gName 5) gNil))) tYes (tOp oMulW (tVar 4) (tVar 5)) [4, 5]) tNil)) tNil))))
local macro_rules | `(tactic| walk_at "rv st") => `(tactic| first
  | with_reducible refine iteT ?_ | with_reducible refine iteF ?_ | with_reducible refine w_nx ?_ | with_reducible refine w_yes ?_ | with_reducible refine w_rt ?_ | with_reducible refine iteNT ?_ | with_reducible refine iteNF ?_ | with_reducible refine iteNRf ?_ | with_reducible refine iteRf ?_ | with_reducible refine w_seqA ?_ | with_reducible refine w_seqD ?_ | with_reducible refine w_seqP ?_ | with_reducible refine w_asg ?_ | with_reducible refine w_ret ?_ | with_reducible refine w_drop ?_ | with_reducible refine w_ifs ?_ | with_reducible refine w_next ?_ | with_reducible refine w_par ?_
  | with_reducible refine w_op ?_ | with_reducible refine w_un ?_ | ((with_reducible show tVar _ _ _ _); refine' w_var ?hv ?_; (case hv => exact rfl)) | with_reducible refine w_c ?_ | with_reducible refine w_test ?_ | with_reducible refine w_tB ?_
  | with_reducible refine w_bl ?_ | with_reducible refine w_I0 ?_ | with_reducible refine w_U ?_ | with_reducible refine w_eqI ?_ | with_reducible refine w_neI ?_
  | with_reducible refine w_cons ?_ | with_reducible refine w_nil ?_ | with_reducible refine w_gn ?_ | with_reducible refine w_gsub ?_ | with_reducible refine w_and ?_ | with_reducible refine w_or ?_ | with_reducible refine w_not ?_
  | with_reducible refine w_andV ?_ | with_reducible refine w_orV ?_ | with_reducible refine w_notV ?_ | with_reducible refine w_if ?_ | with_reducible refine w_cb ?_ | with_reducible refine w_call ?_ | with_reducible refine w_lst ?_ | with_reducible refine w_tup ?_
  | with_reducible refine w_sl ?_ | with_reducible refine w_noPart ?_ | with_reducible refine w_part ?_ | with_reducible refine w_ex1 ?_ | with_reducible refine w_exb ?_ | with_reducible refine w_intB ?_ | with_reducible refine w_intI ?_ | with_reducible refine w_abs ?_)
local macro_rules | `(tactic| walk_at "rv ix") => `(tactic| ((with_reducible show rIxL _ _ _ _ _); refine' w_ixL (sq_lst ?ha) ?hb ?_; (case ha => first | exact upd_same | assumption); (case hb => first | exact rfl | assumption)))
local macro_rules | `(tactic| walk_at "rv ar") => `(tactic| first
  | (refine' w_I ?hc ?_; (case hc => first | (show (0 : Int) < _; first | assumption | decide | omega) | exact pow_c (by decide) (by decide) (by first | decide | omega) (by first | decide | omega) | exact mul_r (by first | decide | omega) (by first | decide | omega) | exact mul_l (by first | decide | omega) (by first | decide | omega) | exact divw (by first | assumption | decide | omega) (by first | assumption | decide | omega))))
local macro_rules | `(tactic| walk_at "rv go") => `(tactic| repeat first | walk_at "rv st" | walk_at "rv ix" | ((with_reducible show rI _ _ _ _ _ _); walk_at "rv ar"))
theorem map_set (xs : List Int) (c : Nat) (z : Int) : (xs.map V.int).set c (.int z) = (xs.set c z).map V.int := by rw [List.map_set]
theorem w_maxI {K : PySem.W.Frag} {H : Hp} {Q : VK} {a : Addr} {ns : List Int} {m : Int} (h : H a = some (.lst (ns.map V.int))) (hp : 0 < ns.length) (u : ∀ z, z ∈ ns → (∀ y ∈ ns, y ≤ z) → z = m) (q : Q (.int m) H) : rMax K [.ref a] H Q :=
  ⟨a, ns, rfl, sq_lst h, hp, fun z hz hy => by rw [u z hz hy]; exact q⟩
theorem cut_preN {xs : List Int} {n : Nat} (h : n + 1 ≤ xs.length) : cutV (xs.map V.int) none (some ((n : Int) + 1)) = (xs.take (n + 1)).map V.int := by
  rw [show (n : Int) + 1 = ((n + 1 : Nat) : Int) by omega]
  exact cut_pre h
theorem map_id' (zs : List Int) : zs.map (fun z => z) = zs := by simp
theorem p_endS {K : PySem.W.Frag} {C : Addr} {vs : List V} {H : Hp} {Q : VK} {E : XK} (h : spEndS K C vs H Q E) : t_end_surfaces K C { nx := fun _ H' => Q .non H', rt := Q } (start ["profile", "heights", "many", "left", "right", "column", "height", "one", "other"] vs) H := by
  obtain ⟨p, hs, ws, rfl, P, ⟨dx, t1, t2, h0, h1, h2⟩, ok, k⟩ := h
  unfold t_end_surfaces
  have l60 := ok.le
  have l1 := ok.pos
  walk_at "rv go"
  refine w_prop rfl h0 ?_
  refine ⟨p, dx, _, _, rfl, h0, pfl_h _ _, ?_⟩
  walk_at "rv go"
  refine w_lenT (sq_tup h1) ?_
  rw [List.length_map]
  walk_at "rv go"
  refine w_lcF (g := lfA hs) (n := hs.length) (by omega) (fun AQ q => by walk_at "rv go"; exact q) (fun j hj H1 Q1 e1 q => ?_) fun D1 H1 nD1 e1 hD1 => ?_
  · walk_at "rv go"
    refine w_lct ?_
    walk_at "rv go"
    refine w_slA (sq_tup (e1 _ _ h1)) fun x H2 e2 hx => ?_
    rw [cut_preN (by omega)] at hx
    refine ⟨x, rfl, ?_⟩
    refine w_lcIT (g := fun z => z) hx (by rw [List.length_take]; omega) (fun z hz H3 Q3 e3 q3 => ?_) fun D H3 nD e3 hD => ?_
    · walk_at "rv go"
      exact q3 H3 (Same.refl _)
    · rw [map_id'] at hD
      walk_at "rv go"
      refine w_maxI hD (by rw [List.length_take]; omega) (fun z hz hy => lfA_uniq hj hz hy) ?_
      exact q H3 (e2.trans e3)
  walk_at "rv go"
  refine w_lcF (g := rgA hs) (n := hs.length) (by omega) (fun AQ q => by walk_at "rv go"; exact q) (fun j hj H2 Q1 e2 q => ?_) fun D2 H2 nD2 e2 hD2 => ?_
  · walk_at "rv go"
    refine w_lct ?_
    walk_at "rv go"
    refine w_slA (sq_tup (e2 _ _ (e1 _ _ h1))) fun x H3 e3 hx => ?_
    rw [cut_suf (by omega)] at hx
    refine ⟨x, rfl, ?_⟩
    refine w_lcIT (g := fun z => z) hx (by rw [List.length_drop]; omega) (fun z hz H4 Q3 e4 q3 => ?_) fun D H4 nD e4 hD => ?_
    · walk_at "rv go"
      exact q3 H4 (Same.refl _)
    · rw [map_id'] at hD
      walk_at "rv go"
      refine w_maxI hD (by rw [List.length_drop]; omega) (fun z hz hy => rgA_uniq hj hz hy) ?_
      exact q H4 (e3.trans e4)
  walk_at "rv go"
  refine w_lczm ?_
  walk_at "rv go"
  refine ⟨D1, D2, rfl, ?_⟩
  refine w_lcZF (t1 := false) (t2 := false) (xs := (List.range hs.length).map (lfA hs)) (ys := (List.range hs.length).map (rgA hs)) (g := lvA hs) (sq_lst (e2 _ _ hD1)) (sq_lst hD2) (by simp) (by simp; omega) (by decide) (fun i hi H3 Q3 e3 q3 => ?_) fun D H3 nD e3 hD => ?_
  · rw [List.length_map, List.length_range] at hi
    have g1 : hN ((List.range hs.length).map (lfA hs)) i = lfA hs i := by
      unfold hN
      rw [List.getElem?_map, List.getElem?_range hi]
      rfl
    have g2 : hN ((List.range hs.length).map (rgA hs)) i = rgA hs i := by
      unfold hN
      rw [List.getElem?_map, List.getElem?_range hi]
      rfl
    rw [g1, g2]
    walk_at "rv go"
    exact ⟨_, _, rfl, q3 H3 (Same.refl _)⟩
  · rw [List.length_map, List.length_range] at hD
    exact k D H3 ((e1.trans e2).trans e3) hD
theorem hN_range {g : Nat → Int} {n i : Nat} (h : i < n) : hN ((List.range n).map g) i = g i := by
  unfold hN
  rw [List.getElem?_map, List.getElem?_range h]
  rfl
theorem p_endV {K : PySem.W.Frag} {CP CR : Addr} {vs : List V} {H : Hp} {Q : VK} {E : XK} (h : spEndV K CP CR vs H Q E) : t_end_volume K CP CR { nx := fun _ H' => Q .non H', rt := Q } (start ["profile", "depths", "surface", "height", "width", "depth"] vs) H := by
  obtain ⟨p, hs, ws, rfl, P, R, hp, ok, k⟩ := h
  obtain ⟨dx, t1, t2, h0, h1, h2⟩ := id hp
  unfold t_end_volume
  have l60 := ok.le
  have lw := ok.eq
  walk_at "rv go"
  refine w_lczm ?_
  walk_at "rv go"
  refine ⟨p, hs, ws, rfl, P, hp, ok, fun l H1 e1 hl => ?_⟩
  walk_at "rv go"
  refine w_prop rfl (e1 _ _ h0) ?_
  refine ⟨p, dx, _, _, rfl, e1 _ _ h0, pfl_h _ _, ?_⟩
  walk_at "rv go"
  refine ⟨l, t1, rfl, ?_⟩
  refine w_lcZF (t1 := false) (t2 := true) (xs := (List.range hs.length).map (lvA hs)) (ys := hs) (g := fun i => lvA hs i - hN hs i) (sq_lst hl) (sq_tup (e1 _ _ h1)) (by simp) (by simp; omega) (by decide) (fun i hi H3 Q3 e3 q3 => ?_) fun D H3 nD e3 hD => ?_
  · rw [List.length_map, List.length_range] at hi
    rw [hN_range hi]
    walk_at "rv go"
    exact q3 H3 (Same.refl _)
  rw [List.length_map, List.length_range] at hD
  have e13 := e1.trans e3
  walk_at "rv go"
  refine w_make ?_
  walk_at "rv go"
  refine w_lczm ?_
  walk_at "rv go"
  refine w_prop rfl (e13 _ _ h0) ?_
  refine ⟨p, dx, _, _, rfl, e13 _ _ h0, pfl_w _ _, ?_⟩
  walk_at "rv go"
  refine ⟨t2, D, rfl, ?_⟩
  refine w_lcZF (t1 := true) (t2 := false) (xs := ws) (ys := (List.range hs.length).map fun i => lvA hs i - hN hs i) (g := eF hs ws) (sq_tup (e13 _ _ h2)) (sq_lst hD) (by simp; omega) (by omega) (by decide) (fun i hi H4 Q4 e4 q4 => ?_) fun D2 H4 nD2 e4 hD2 => ?_
  · rw [hN_range (by omega)]
    have b1 := wok_sz (ok.ww _ (hN_mem hi))
    have b2 := hok_sz (ok.hh _ (lvA_in (hs := hs) (i := i) (by omega)).1)
    have b3 := hok_sz (ok.hh _ (hN_mem (hs := hs) (i := i) (by omega)))
    walk_at "rv go"
    refine w_I (mulw (sz_lit (k := 100) b1) (sz_lit (k := 102) (M := 2000000000000000000000000000000) (by omega)) (by decide) (by decide) (by decide)) ?_
    exact q4 H4 (Same.refl _)
  rw [lw] at hD2
  walk_at "rv go"
  refine ⟨D2, _, rfl, sq_lst hD2, ?_⟩
  rw [sum_range]
  walk_at "rv go"
  refine mk_rat (us := [.int (sumN (eF hs ws) hs.length)]) (dvs := [.int 1]) rfl R (by decide) ((sz_lit (k := 4) (M := 1) (by decide)).mono (by decide)) fun x H5 t b e5 rd hx => ?_
  obtain ⟨rfl, rfl⟩ := rd.one
  exact k x H5 ((e13.trans e4).trans e5) hx
end RvM
namespace Rv
open PySem PySem.Spec PyProof.Rows L2
/-- what is told of a dam -/
def dG (hs : List Int) (v w : V) (y y' : Str) : PyData :=
  if inI 0 ((hs.length : Int) - 1) v = true then
    if inI 0 1000000000000000000000000000000 w = true then
      match v, w with
      | .int i, .int j => if hN hs i.toNat + j ≤ 1000000000000000000000000000000 then .tuple [.str "fine", .bool true] else .tuple [.str "limit", .int 1000000000000000000000000000000, .bool true, .bool false]
      | _, _ => .none
    else .tuple [.str "number", .str y', .bool true, .bool false]
  else .tuple [.str "column", .str y, .bool true, .bool false]
theorem dG_i {hs : List Int} {c : Nat} {r : Int} {y y' : Str} (hc : c < hs.length) (h0 : 0 ≤ r) (h1 : r ≤ 1000000000000000000000000000000) : dG hs (.int (c : Int)) (.int r) y y' =
    if hN hs c + r ≤ 1000000000000000000000000000000 then .tuple [.str "fine", .bool true] else .tuple [.str "limit", .int 1000000000000000000000000000000, .bool true, .bool false] := by
  unfold dG
  rw [inI_yes (show (0 : Int) ≤ (c : Int) by omega) (show (c : Int) ≤ (hs.length : Int) - 1 by omega), inI_yes h0 h1]
  rfl
def dB (w : V) (y' : Str) : PyData := if inI 0 1000000000000000000000000000000 w = true then .tuple [.str "fine", .bool true] else .tuple [.str "number", .str y', .bool true, .bool false]
theorem sh2f : SeqAt.shaped (.tuple [.str "fine", .bool true]) = true := by
  have s1 : PyData.strOk (Str.ofString "fine") = true := sok_str _
  simp [SeqAt.shaped, PyData.canLay0, PyData.canLayAll0, PyData.depth, PyData.depthAll, s1]
theorem sh_dG {hs : List Int} {v w : V} {y y' : Str} (h : PyData.strOk y = true) (h' : PyData.strOk y' = true) : SeqAt.shaped (dG hs v w y y') = true := by
  unfold dG
  split
  · split
    · split
      · split
        · exact sh2f
        · have s1 : PyData.strOk (Str.ofString "limit") = true := sok_str _
          simp [SeqAt.shaped, PyData.canLay0, PyData.canLayAll0, PyData.depth, PyData.depthAll, s1]
      · rfl
    · exact sh4 (sok_str _) h'
  · exact sh4 (sok_str _) h
theorem sh_dB {w : V} {y' : Str} (h' : PyData.strOk y' = true) : SeqAt.shaped (dB w y') = true := by
  unfold dB
  split
  · exact sh2f
  · exact sh4 (sok_str _) h'
def BestS (CR : Addr) (H : Hp) (v : V) : Prop := v = .non ∨ ∃ t c q g, v = .ref t ∧ H t = some (.tup [.int c, .ref q]) ∧ RatAt CR H q g 1 ∧ Sz 300 g
theorem BestS.same {CR : Addr} {H H' : Hp} {v : V} (h : BestS CR H v) (e : Same H H') : BestS CR H' v := by
  rcases h with h | ⟨t, c, q, g, h1, h2, h3, h4⟩
  · exact .inl h
  · exact .inr ⟨t, c, q, g, h1, e _ _ h2, h3.same e, h4⟩
def spGainX (K : PySem.W.Frag) (CP CR CL CC CN : Addr) : Sp := fun vs H Q E => ∃ p v w hs ws, vs = [.ref p, v, w] ∧ PCls K CP ∧ RCls K CR ∧ OX3 K CL CC CN ∧ ProfAt K CP H p hs ws ∧ PrOk hs ws ∧ Whole K H v ∧ Whole K H w ∧
  (inI 0 ((hs.length : Int) - 1) v = false → Rz H CC v E) ∧
  (inI 0 ((hs.length : Int) - 1) v = true → inI 0 1000000000000000000000000000000 w = false → Rz H CN w E) ∧
  (∀ (c : Nat) (r : Int), v = .int (c : Int) → w = .int r → c < hs.length → 0 ≤ r → r ≤ 1000000000000000000000000000000 →
    (hN hs c + r ≤ 1000000000000000000000000000000 → ∀ q H' g, Same H H' → RatAt CR H' q g 1 → Sz 300 g → Q (.ref q) H') ∧
    (1000000000000000000000000000000 < hN hs c + r → ∀ d H', H d = none → Same H H' → H' d = some (.xd [("limit", .int 1000000000000000000000000000000)]) → E (.ref CL) (some d) H'))
def spBest68 (K : PySem.W.Frag) (CP CR CL CC CN : Addr) : Sp := fun vs H Q E => ∃ p w hs ws, vs = [.ref p, w] ∧ PCls K CP ∧ RCls K CR ∧ OX3 K CL CC CN ∧ ProfAt K CP H p hs ws ∧ PrOk hs ws ∧ Whole K H w ∧
  (inI 0 1000000000000000000000000000000 w = false → Rz H CN w E) ∧ (inI 0 1000000000000000000000000000000 w = true → ∀ v H', Same H H' → BestS CR H' v → Q v H')
def spTold68 (K : PySem.W.Frag) (CP CR CL CC CN CE : Addr) : Sp := fun vs H Q _ => ∃ p v w y y' hs ws, vs = [.ref p, v, w] ∧ PCls K CP ∧ RCls K CR ∧ RKi K CR ∧ OX3 K CL CC CN ∧ EM3 K CL CC CN ∧ KI3 K CL CC CN CE ∧ ProfAt K CP H p hs ws ∧ PrOk hs ws ∧ OddD CR H v y ∧ OddD CR H w y' ∧ ∀ r H', Same H H' → Dp K H' (.ref r) (dG hs v w y y') → Q (.ref r) H'
def spTold68b (K : PySem.W.Frag) (CP CR CL CC CN CE : Addr) : Sp := fun vs H Q _ => ∃ p w y' hs ws, vs = [.ref p, w] ∧ PCls K CP ∧ RCls K CR ∧ RKi K CR ∧ OX3 K CL CC CN ∧ EM3 K CL CC CN ∧ KI3 K CL CC CN CE ∧ ProfAt K CP H p hs ws ∧ PrOk hs ws ∧ OddD CR H w y' ∧ ∀ r H', Same H H' → Dp K H' (.ref r) (dB w y') → Q (.ref r) H'
def spDue68 (K : PySem.W.Frag) (CR : Addr) : Sp := fun vs H Q _ => ∃ a v w y y' hs, vs = [.ref a, v, w] ∧ RCls K CR ∧ RKi K CR ∧ H a = some (.lst (hs.map V.int)) ∧ hs.length ≤ 60 ∧ OddD CR H v y ∧ OddD CR H w y' ∧ ∀ r H', Same H H' → Dp K H' (.ref r) (dG hs v w y y') → Q (.ref r) H'
def spDue68b (K : PySem.W.Frag) (CR : Addr) : Sp := fun vs H Q _ => ∃ w y', vs = [w] ∧ RCls K CR ∧ RKi K CR ∧ OddD CR H w y' ∧ ∀ r H', Same H H' → Dp K H' (.ref r) (dB w y') → Q (.ref r) H'
def spLaw68 (K : PySem.W.Frag) (CP CR CL CC CN CE : Addr) : Sp := fun vs H Q _ => ∃ (a : Addr) (ns : List Int), vs = [.ref a] ∧ SqL K H a (ns.map V.int) ∧ PCls K CP ∧ RCls K CR ∧ RKi K CR ∧ OX3 K CL CC CN ∧ EM3 K CL CC CN ∧ KI3 K CL CC CN CE ∧ ∀ H', Q (.bl true) H'
def t_dam_gain (K : PySem.W.Frag) (C_Profile : Addr) (C_Ratio : Addr) (C_LimitExceeded : Addr) (C_InvalidColumn : Addr) (C_InvalidNumber : Addr) (E : XK) : TS :=
  (tSeq (tAsg (tMeth C_Profile "raised" (spRaisX K C_Profile C_LimitExceeded C_InvalidColumn C_InvalidNumber) [] E (tVar 0) (tCons (tVar 1) (tCons (tVar 2) tNil))) (gName 3))
    (tRet (tOp (rAddO C_Ratio (spSub K C_Ratio) E0) (tCall (RvM.spEndV K C_Profile C_Ratio) [] E0 (tCons (tVar 3) tNil)) (tCall (RvM.spEndV K C_Profile C_Ratio) [] E0 (tCons (tVar 0) tNil)))))
def t_best_dam (K : PySem.W.Frag) (C_Profile : Addr) (C_Ratio : Addr) (C_LimitExceeded : Addr) (C_InvalidColumn : Addr) (C_InvalidNumber : Addr) (E : XK) : TS :=
  (tSeq (tIfS (tNot (tB (tCall (spWithin K) [] E0 (tCons (tVar 1) (tCons (tC (.int 0)) (tCons (tC (.int 1000000000000000000000000000000)) tNil)))))) (tRaise (tMkO C_InvalidNumber (spExc K C_InvalidNumber "ValueError" "ValueError.__new__" "ValueError.__init__" bm_ValueError "value") [] (tCons (tVar 1) tNil)) E) tNext)
    (tSeq (tAsg (tC .non) (gName 2))
    (tSeq (tFor (iEnumA K (tCons (tProp C_Profile (getSp C_Profile "column_heights") [] E0 (tVar 0)) tNil)) (gTup K 2 (gCons (gName 3) (gCons (gName 4) gNil))) (tSeq (tIfS (tTest (tOp oGt (tOp oAdd (tVar 4) (tVar 1)) (tC (.int 1000000000000000000000000000000)))) tCont tNext)
    (tSeq (tAsg (tCall (spGainX K C_Profile C_Ratio C_LimitExceeded C_InvalidColumn C_InvalidNumber) [] E (tCons (tVar 0) (tCons (tVar 3) (tCons (tVar 1) tNil)))) (gName 5))
    (tIfS (tOr (tTest (tOp oIsN (tVar 2) (tC .non))) (tTest (tOp (rOwn C_Ratio (spGt K C_Ratio) E0) (tVar 5) (tOp (rIxT K) (tVar 2) (tC (.int 1)))))) (tAsg (tTup (tCons (tVar 3) (tCons (tVar 5) tNil))) (gName 2)) tNext))))
    (tRet (tVar 2)))))
def t__law_gained (K : PySem.W.Frag) (C_Profile : Addr) (C_Ratio : Addr) (C_LimitExceeded : Addr) (C_InvalidColumn : Addr) (C_InvalidNumber : Addr) (C_RainError : Addr) : TS :=
  (tSeq (tAsg (tTup tNil) (gName 3))
    (tSeq (tTryL K 4 (fun W => (tAsg (tTup (tCons (tC (.str "fine")) (tCons (tCB (rIsi K) (tCons (tCallD (spGainX K C_Profile C_Ratio C_LimitExceeded C_InvalidColumn C_InvalidNumber) [] (WE W) (tCons (tVar 0) (tCons (tVar 1) (tCons (tVar 2) tNil)))) (tCons (tC (.ref C_Ratio)) tNil))) tNil))) (gName 3))) [(.ref C_InvalidColumn, fun xa xcls xd => (tAsg (tTup (tCons (tC (.str "column")) (tCons (tCB (cReprB K C_Ratio (spRRepr K C_Ratio)) (tCons (tXf xa xcls xd C_InvalidColumn "value" (tVar 4)) tNil)) (tCons (tCB (rIsD K C_InvalidColumn xa xcls xd) (tCons (tVar 4) (tCons (tC (.ty "IndexError")) tNil))) (tCons (tCB (rIsD K C_InvalidColumn xa xcls xd) (tCons (tVar 4) (tCons (tC (.ref C_RainError)) tNil))) tNil))))) (gName 3))), (.ref C_InvalidNumber, fun xa xcls xd => (tAsg (tTup (tCons (tC (.str "number")) (tCons (tCB (cReprB K C_Ratio (spRRepr K C_Ratio)) (tCons (tXf xa xcls xd C_InvalidNumber "value" (tVar 4)) tNil)) (tCons (tCB (rIsD K C_InvalidNumber xa xcls xd) (tCons (tVar 4) (tCons (tC (.ref C_RainError)) tNil))) (tCons (tCB (rIsD K C_InvalidNumber xa xcls xd) (tCons (tVar 4) (tCons (tC (.ty "IndexError")) tNil))) tNil))))) (gName 3))), (.ref C_LimitExceeded, fun xa xcls xd => (tAsg (tTup (tCons (tC (.str "limit")) (tCons (tXf xa xcls xd C_LimitExceeded "limit" (tVar 4)) (tCons (tCB (rIsD K C_LimitExceeded xa xcls xd) (tCons (tVar 4) (tCons (tC (.ty "OverflowError")) tNil))) (tCons (tCB (rIsD K C_LimitExceeded xa xcls xd) (tCons (tVar 4) (tCons (tC (.ref C_RainError)) tNil))) tNil))))) (gName 3)))] (fun _ _ _ _ => False))
    (tRet (tVar 3))))
def t__law_best68 (K : PySem.W.Frag) (C_Profile : Addr) (C_Ratio : Addr) (C_LimitExceeded : Addr) (C_InvalidColumn : Addr) (C_InvalidNumber : Addr) (C_RainError : Addr) : TS :=
  (tSeq (tAsg (tTup tNil) (gName 2))
    (tSeq (tTryAs K (.ref C_InvalidNumber) 4 (fun W => (tSeq (tAsg (tCallD (spBest68 K C_Profile C_Ratio C_LimitExceeded C_InvalidColumn C_InvalidNumber) [] (WE W) (tCons (tVar 0) (tCons (tVar 1) tNil))) (gName 3))
    (tAsg (tTup (tCons (tC (.str "fine")) (tCons (tOrV (tOp oIsN (tVar 3) (tC .non)) (tCB (rIsi K) (tCons (tVar 3) (tCons (tC (.ty "tuple")) tNil)))) tNil))) (gName 2)))) (fun xa xcls xd => (tAsg (tTup (tCons (tC (.str "number")) (tCons (tCB (cReprB K C_Ratio (spRRepr K C_Ratio)) (tCons (tXf xa xcls xd C_InvalidNumber "value" (tVar 4)) tNil)) (tCons (tCB (rIsD K C_InvalidNumber xa xcls xd) (tCons (tVar 4) (tCons (tC (.ref C_RainError)) tNil))) (tCons (tCB (rIsD K C_InvalidNumber xa xcls xd) (tCons (tVar 4) (tCons (tC (.ty "IndexError")) tNil))) tNil))))) (gName 2))) (fun _ _ _ _ => False))
    (tRet (tVar 2))))
def t__law_due68 (K : PySem.W.Frag) (C_Ratio : Addr) : TS :=
  (tSeq (tIfS (tOr (tNot (tB (tCall (spWhole K) [] E0 (tCons (tVar 1) tNil)))) (tNot (tTest (tChain oLe oLt (tC (.int 0)) (tVar 1) (tCB (cLen K) (tCons (tVar 0) tNil)))))) (tRet (tTup (tCons (tC (.str "column")) (tCons (tCB (cReprB K C_Ratio (spRRepr K C_Ratio)) (tCons (tVar 1) tNil)) (tCons (tC (.bl true)) (tCons (tC (.bl false)) tNil)))))) tNext)
    (tSeq (tIfS (tOr (tNot (tB (tCall (spWhole K) [] E0 (tCons (tVar 2) tNil)))) (tNot (tTest (tChain oLe oLe (tC (.int 0)) (tVar 2) (tOp oPow (tC (.int 10)) (tC (.int 30))))))) (tRet (tTup (tCons (tC (.str "number")) (tCons (tCB (cReprB K C_Ratio (spRRepr K C_Ratio)) (tCons (tVar 2) tNil)) (tCons (tC (.bl true)) (tCons (tC (.bl false)) tNil)))))) tNext)
    (tSeq (tIfS (tTest (tOp oGt (tOp oAdd (tOp (rIxL K) (tVar 0) (tVar 1)) (tVar 2)) (tOp oPow (tC (.int 10)) (tC (.int 30))))) (tRet (tTup (tCons (tC (.str "limit")) (tCons (tOp oPow (tC (.int 10)) (tC (.int 30))) (tCons (tC (.bl true)) (tCons (tC (.bl false)) tNil)))))) tNext)
    (tRet (tTup (tCons (tC (.str "fine")) (tCons (tC (.bl true)) tNil)))))))
def t__law_best_due (K : PySem.W.Frag) (C_Ratio : Addr) : TS :=
  (tSeq (tIfS (tOr (tNot (tB (tCall (spWhole K) [] E0 (tCons (tVar 0) tNil)))) (tNot (tTest (tChain oLe oLe (tC (.int 0)) (tVar 0) (tOp oPow (tC (.int 10)) (tC (.int 30))))))) (tRet (tTup (tCons (tC (.str "number")) (tCons (tCB (cReprB K C_Ratio (spRRepr K C_Ratio)) (tCons (tVar 0) tNil)) (tCons (tC (.bl true)) (tCons (tC (.bl false)) tNil)))))) tNext)
    (tRet (tTup (tCons (tC (.str "fine")) (tCons (tC (.bl true)) tNil)))))
def t_law68b (K : PySem.W.Frag) (C_Profile : Addr) (C_Ratio : Addr) (C_LimitExceeded : Addr) (C_InvalidColumn : Addr) (C_InvalidNumber : Addr) (C_RainError : Addr) : TS :=
  (tSeq (tIfS (tTest (tOp (rNeD K) (tCall (spTold68 K C_Profile C_Ratio C_LimitExceeded C_InvalidColumn C_InvalidNumber C_RainError) [] E0 (tCons (tVar 5) (tCons (tVar 12) (tCons (tVar 13) tNil)))) (tCall (spDue68 K C_Ratio) [] E0 (tCons (tVar 4) (tCons (tVar 12) (tCons (tVar 13) tNil)))))) (tRet (tC (.bl false))) tNext)
    (tIfS (tTest (tOp (rNeD K) (tCall (spTold68b K C_Profile C_Ratio C_LimitExceeded C_InvalidColumn C_InvalidNumber C_RainError) [] E0 (tCons (tVar 5) (tCons (tVar 13) tNil))) (tCall (spDue68b K C_Ratio) [] E0 (tCons (tVar 13) tNil)))) (tRet (tC (.bl false))) tNext))
def t_law68a (K : PySem.W.Frag) (C_Profile : Addr) (C_Ratio : Addr) (C_LimitExceeded : Addr) (C_InvalidColumn : Addr) (C_InvalidNumber : Addr) (C_RainError : Addr) : TS :=
  (tSeq (tAsg (tOp oAdd (tVar 2) (tCall (spDraw K) [] E0 (tCons (tVar 1) (tCons (tOp oPow (tC (.int 10)) (tC (.int 9))) tNil)))) (gName 7))
    (tSeq (tAsg (tOp oAdd (tOp oAdd (tOp oPow (tC (.int 10)) (tC (.int 30))) (tC (.int 1))) (tCall (spDraw K) [] E0 (tCons (tVar 1) (tCons (tOp oPow (tC (.int 10)) (tC (.int 9))) tNil)))) (gName 8))
    (tSeq (tAsg (tOp oSub (tOp oSub (tC (.int 0)) (tC (.int 1))) (tCall (spDraw K) [] E0 (tCons (tVar 1) (tCons (tVar 2) tNil)))) (gName 9))
    (tSeq (tAsg (tLst (tCons (tC .non) (tCons (tC (.bl true)) (tCons (tC (.bl false)) (tCons (tC (.str "0")) (tCons (tTup tNil) (tCons (tLst (tCons (tC (.int 0)) tNil)) (tCons tDNewK (tCons (tVar 9) (tCons (tOp oSub (tOp oSub (tC (.int 0)) (tVar 7)) (tC (.int 1))) (tCons (tVar 7) (tCons (tVar 2) (tCons (tMake C_Ratio (spRInit K C_Ratio) [.int 1] E0 (tCons (tC (.int 0)) tNil)) tNil))))))))))))) (gName 10))
    (tSeq (tAsg (tLst (tCons (tC .non) (tCons (tC (.bl true)) (tCons (tC (.bl false)) (tCons (tC (.str "1")) (tCons (tTup tNil) (tCons (tLst (tCons (tC (.int 1)) tNil)) (tCons tDNewK (tCons (tUn (rU fun i => .int (-i)) (tC (.int 1))) (tCons (tOp oSub (tC (.int 0)) (tVar 8)) (tCons (tVar 8) (tCons (tMake C_Ratio (spRInit K C_Ratio) [.int 1] E0 (tCons (tC (.int 1)) tNil)) (tCons (tMake C_Ratio (spRInit K C_Ratio) [.int 1] E0 (tCons (tC (.int 0)) tNil)) tNil))))))))))))) (gName 11))
    (tSeq (tAsg (tOp (rIxL K) (tLst (tCons (tOp (rIxL K) (tVar 10) (tCall (spDraw K) [] E0 (tCons (tVar 1) (tCons (tC (.int 12)) tNil)))) (tCons (tCall (spDraw K) [] E0 (tCons (tVar 1) (tCons (tVar 2) tNil))) tNil))) (tCB cInt (tCons (tOp oGt (tCall (spDraw K) [] E0 (tCons (tVar 1) (tCons (tC (.int 3)) tNil))) (tC (.int 0))) tNil))) (gName 12))
    (tSeq (tAsg (tOp (rIxL K) (tLst (tCons (tOp (rIxL K) (tVar 11) (tCall (spDraw K) [] E0 (tCons (tVar 1) (tCons (tC (.int 12)) tNil)))) (tCons (tCall (spDraw K) [] E0 (tCons (tVar 1) (tCons (tC (.int 3)) tNil))) (tCons (tCall (spDraw K) [] E0 (tCons (tVar 1) (tCons (tOp oAdd (tOp oPow (tC (.int 10)) (tC (.int 30))) (tC (.int 1))) tNil))) tNil)))) (tCall (spDraw K) [] E0 (tCons (tVar 1) (tCons (tC (.int 3)) tNil)))) (gName 13))
    (t_law68b K C_Profile C_Ratio C_LimitExceeded C_InvalidColumn C_InvalidNumber C_RainError))))))))
def t_law68 (K : PySem.W.Frag) (C_Profile : Addr) (C_Ratio : Addr) (C_LimitExceeded : Addr) (C_InvalidColumn : Addr) (C_InvalidNumber : Addr) (C_RainError : Addr) : TS :=
  (tSeq (tAsg (tCall (spDraws K) [] E0 (tCons (tVar 0) tNil)) (gName 1))
    (tSeq (tAsg (tOp oAdd (tC (.int 1)) (tCall (spDraw K) [] E0 (tCons (tVar 1) (tCons (tOp (rIxL K) (tLst (tCons (tC (.int 9)) (tCons (tC (.int 9)) (tCons (tC (.int 9)) (tCons (tC (.int 9)) (tCons (tC (.int 60)) tNil)))))) (tCall (spDraw K) [] E0 (tCons (tVar 1) (tCons (tC (.int 5)) tNil)))) tNil)))) (gName 2))
    (tSeq (tAsg (tOp (rIxL K) (tLst (tCons (tC (.int 2)) (tCons (tOp oPow (tC (.int 10)) (tC (.int 30))) tNil))) (tCall (spDraw K) [] E0 (tCons (tVar 1) (tCons (tC (.int 2)) tNil)))) (gName 3))
    (tSeq (tAsg (tLc (iRng1 (tCons (tVar 2) tNil)) (gName 14) tYes (tOp oSub (tCall (spDraw K) [] E0 (tCons (tVar 1) (tCons (tOp oAdd (tOp oMul (tC (.int 2)) (tVar 3)) (tC (.int 1))) tNil))) (tVar 3)) [14]) (gName 4))
    (tSeq (tAsg (tMake C_Profile (spInit K C_Profile) [] E0 (tCons (tVar 4) (tCons (tLc (iList K (tVar 4)) (gName 15) tYes (tOp oAdd (tC (.int 1)) (tCall (spDraw K) [] E0 (tCons (tVar 1) (tCons (tC (.int 9)) tNil)))) [15]) tNil))) (gName 5))
    (tSeq (tFor (iRng1 (tCons (tC (.int 4)) tNil)) (gName 6) (t_law68a K C_Profile C_Ratio C_LimitExceeded C_InvalidColumn C_InvalidNumber C_RainError))
    (tRet (tOp (rEqD K) (tProp C_Profile (getSp C_Profile "column_heights") [] E0 (tVar 5)) (tCB (cTuple K) (tCons (tVar 4) tNil))))))))))
local macro_rules | `(tactic| walk_at "rv st") => `(tactic| first
  | with_reducible refine iteT ?_ | with_reducible refine iteF ?_ | with_reducible refine w_nx ?_ | with_reducible refine w_yes ?_ | with_reducible refine w_rt ?_ | with_reducible refine iteNT ?_ | with_reducible refine iteNF ?_ | with_reducible refine iteNRf ?_ | with_reducible refine iteRf ?_ | with_reducible refine w_seqA ?_ | with_reducible refine w_seqD ?_ | with_reducible refine w_seqP ?_ | with_reducible refine w_asg ?_ | with_reducible refine w_ret ?_ | with_reducible refine w_drop ?_ | with_reducible refine w_ifs ?_ | with_reducible refine w_next ?_ | with_reducible refine w_par ?_
  | with_reducible refine w_op ?_ | with_reducible refine w_un ?_ | ((with_reducible show tVar _ _ _ _); refine' w_var ?hv ?_; (case hv => exact rfl)) | with_reducible refine w_c ?_ | with_reducible refine w_test ?_ | with_reducible refine w_tB ?_
  | with_reducible refine w_bl ?_ | with_reducible refine w_I0 ?_ | with_reducible refine w_U ?_ | with_reducible refine w_eqI ?_ | with_reducible refine w_neI ?_
  | with_reducible refine w_cons ?_ | with_reducible refine w_nil ?_ | with_reducible refine w_gn ?_ | with_reducible refine w_gsub ?_ | with_reducible refine w_and ?_ | with_reducible refine w_or ?_ | with_reducible refine w_not ?_
  | with_reducible refine w_andV ?_ | with_reducible refine w_orV ?_ | with_reducible refine w_notV ?_ | with_reducible refine w_if ?_ | with_reducible refine w_cb ?_ | with_reducible refine w_call ?_ | with_reducible refine w_lst ?_ | with_reducible refine w_tup ?_
  | with_reducible refine w_sl ?_ | with_reducible refine w_noPart ?_ | with_reducible refine w_part ?_ | with_reducible refine w_ex1 ?_ | with_reducible refine w_exb ?_ | with_reducible refine w_intB ?_ | with_reducible refine w_intI ?_ | with_reducible refine w_abs ?_)
local macro_rules | `(tactic| walk_at "rv ix") => `(tactic| ((with_reducible show rIxL _ _ _ _ _); refine' w_ixL (sq_lst ?ha) ?hb ?_; (case ha => first | exact upd_same | assumption); (case hb => first | exact rfl | assumption)))
local macro_rules | `(tactic| walk_at "rv ar") => `(tactic| first
  | (refine' w_I ?hc ?_; (case hc => first | (show (0 : Int) < _; first | assumption | decide | omega) | exact pow_c (by decide) (by decide) (by first | decide | omega) (by first | decide | omega) | exact mul_r (by first | decide | omega) (by first | decide | omega) | exact mul_l (by first | decide | omega) (by first | decide | omega) | exact divw (by first | assumption | decide | omega) (by first | assumption | decide | omega))))
local macro_rules | `(tactic| walk_at "rv go") => `(tactic| repeat first | walk_at "rv st" | walk_at "rv ix" | ((with_reducible show rI _ _ _ _ _ _); walk_at "rv ar"))
theorem p_gainX {K : PySem.W.Frag} {CP CR CL CC CN : Addr} {vs : List V} {H : Hp} {Q : VK} {E : XK} (h : spGainX K CP CR CL CC CN vs H Q E) : t_dam_gain K CP CR CL CC CN E { nx := fun _ H' => Q .non H', rt := Q } (start ["profile", "column", "height", "raised"] vs) H := by
  obtain ⟨p, v, w, hs, ws, rfl, P, R, X, hp, ok, hv, hw, k1, k2, k3⟩ := h
  obtain ⟨dx, t1, t2, h0, h1, h2⟩ := id hp
  unfold t_dam_gain
  walk_at "rv go"
  refine w_meth ?_
  walk_at "rv go"
  refine ⟨p, dx, _, rfl, h0, pfl_none _ _ (by decide +kernel) (by decide +kernel), ?_⟩
  walk_at "rv go"
  refine ⟨p, v, w, hs, ws, rfl, P, X, hp, ok, hv, hw, k1, k2, fun c r ev ew hc r0 r1 => ⟨fun hk q H1 nq e1 hq => ?_, fun hk => ((k3 c r ev ew hc r0 r1).2 hk)⟩⟩
  have k4 := (k3 c r ev ew hc r0 r1).1 hk
  walk_at "rv go"
  have okr := rsX_ok ok hc ⟨by have := (ok.hh _ (hN_mem hc)).1; omega, hk⟩
  refine ⟨q, rsX hs c r, ws, rfl, P, R, hq, okr, fun x H2 e2 hx => ?_⟩
  walk_at "rv go"
  refine ⟨p, hs, ws, rfl, P, R, (hp.same e1).same e2, ok, fun y H3 e3 hy => ?_⟩
  have hx3 := hx.same e3
  obtain ⟨_, dx1, hx'⟩ := id hx3
  obtain ⟨_, dx2, hy'⟩ := id hy
  refine ⟨x, dx1, _, y, dx2, _, rfl, hx', rfl, hy', ?_⟩
  have s1 : Sz 300 (1 : Int) := sz_lit (M := 1) (by decide)
  have a1 := RvM.eV_abs okr
  have a2 := RvM.eV_abs ok
  have s2 : Sz 300 (RvM.eV (rsX hs c r) ws) := sz_lit a1
  have s3 : Sz 300 (RvM.eV hs ws) := sz_lit a2
  refine ⟨x, .ref y, _, 1, _, 1, rfl, R, hx3, .inr ⟨y, rfl, hy⟩, s2.mono (by decide), s1.mono (by decide), s3.mono (by decide), s1.mono (by decide), fun q4 H4 u v e4 hq4 rd => ?_⟩
  rw [Int.mul_one] at rd
  obtain ⟨rfl, rfl⟩ := rd.one
  exact k4 q4 H4 _ (((e1.trans e2).trans e3).trans e4) hq4 (sz_lit (M := 240000000000000000000000000000000000000000000000000000000000000) (by show (RvM.eV (rsX hs c r) ws * 1 - RvM.eV hs ws * 1).natAbs ≤ _; omega))
theorem p_best68 {K : PySem.W.Frag} {CP CR CL CC CN : Addr} {vs : List V} {H : Hp} {Q : VK} {E : XK} (h : spBest68 K CP CR CL CC CN vs H Q E) : t_best_dam K CP CR CL CC CN E { nx := fun _ H' => Q .non H', rt := Q } (start ["profile", "height", "best", "column", "old", "gain"] vs) H := by
  obtain ⟨p, w, hs, ws, rfl, P, R, X, hp, ok, hw, k1, k2⟩ := h
  obtain ⟨dx, t1, t2, h0, h1, h2⟩ := id hp
  have l60 := ok.le
  unfold t_best_dam
  refine w_seq ?_
  walk_at "rv go"
  refine ⟨w, 0, 1000000000000000000000000000000, rfl, hw, ?_⟩
  cases c : inI 0 1000000000000000000000000000000 w with
  | false =>
    walk_at "rv go"
    refine w_raise ?_
    refine w_mkO ?_
    walk_at "rv go"
    exact exc_new X.oN X.fN fun d H' nd e hd => k1 c d H' nd e hd
  | true =>
    obtain ⟨r, rfl, r0, r1⟩ := inI_int c
    have k := k2 c
    walk_at "rv go"
    refine w_seq ?_
    refine st_is [some (.ref p), some (.int r), some .non, none, none, none] rfl ?_
    refine w_forEA (a := t1) (xs := hs.map V.int) (fun AQ q => ?_) (.inr (sq_tup h1)) (fun i σ' H' => i ≤ hs.length ∧ Same H H' ∧ ∃ v o3 o4 o5, BestS CR H' v ∧ σ' = [some (.ref p), some (.int r), some v, o3, o4, o5]) ⟨Nat.zero_le _, Same.refl H, .non, none, none, none, .inl rfl, rfl⟩ (fun i σ' H' ⟨_, e, _⟩ => ⟨fun z => e.seq z, fun z => sqT_same0 z e⟩) ?_ ?_
    · walk_at "rv go"
      refine w_prop rfl h0 ?_
      refine ⟨p, dx, _, _, rfl, h0, pfl_h _ _, ?_⟩
      walk_at "rv go"
      exact q
    · rintro i x T σ' H1 hx ⟨_, e1, v, o3, o4, o5, hv, rfl⟩ nT
      rw [List.getElem?_map] at hx
      obtain ⟨z, hz, rfl⟩ := Option.map_eq_some_iff.mp hx
      have hi : i < hs.length := (List.getElem?_eq_some_iff.mp hz).1
      have ez : z = hN hs i := by
        unfold hN
        rw [hz]
        rfl
      subst ez
      refine ⟨T, _, rfl, sq_tup upd_same, rfl, _, _, rfl, ?_⟩
      refine ⟨_, _, rfl, rfl, ?_⟩
      have eT : Same H1 (upd H1 T (.tup [.int (i : Int), .int (hN hs i)])) := same_new (Same.refl H1) nT
      generalize upd H1 T (.tup [.int (i : Int), .int (hN hs i)]) = H2 at eT ⊢
      have e2 := e1.trans eT
      have hv2 := hv.same eT
      show tSeq _ _ _ _ _
      refine st_is [some (.ref p), some (.int r), some v, some (.int (i : Int)), some (.int (hN hs i)), o5] rfl ?_
      refine w_seq ?_
      walk_at "rv go"
      refine w_both (fun c => ?_) (fun c => ?_)
      · exact ⟨hi, e2, v, _, _, _, hv2, rfl⟩
      · have hk : hN hs i + r ≤ 1000000000000000000000000000000 := by omega
        walk_at "rv go"
        refine ⟨p, .int (i : Int), .int r, hs, ws, rfl, P, R, X, hp.same e2, ok, .int _, .int _, fun z => absurd z (by rw [inI_yes (by omega) (by omega)]; exact fun z => nomatch z), fun _ z => absurd z (by rw [inI_yes r0 r1]; exact fun z => nomatch z), fun c' r' ec er hc _ _ => ⟨fun _ q H3 g e3 hq sg => ?_, fun z => ?_⟩⟩
        rotate_left
        · exfalso
          have e1 := V.int.inj ec
          have e2 := V.int.inj er
          have : c' = i := by omega
          subst this
          subst e2
          omega
        have e23 := e2.trans e3
        have hv3 := hv2.same e3
        walk_at "rv go"
        have put : ∀ H4, Same H3 H4 → tAsg (tTup (tCons (tVar 3) (tCons (tVar 5) tNil))) (gName 2) { nx := fun σ' H' => i + 1 ≤ hs.length ∧ Same H H' ∧ ∃ v o3 o4 o5, BestS CR H' v ∧ σ' = [some (.ref p), some (.int r), some v, o3, o4, o5], rt := Q } [some (.ref p), some (.int r), some v, some (.int (i : Int)), some (.int (hN hs i)), some (.ref q)] H4 := fun H4 e4 => by
          walk_at "rv go"
          refine ⟨szl (by show 2 ≤ 100000; omega), fun y ny => ?_⟩
          walk_at "rv go"
          have e5 := same_new (o := .tup [.int (i : Int), .ref q]) (Same.refl H4) ny
          exact ⟨hi, (e23.trans e4).trans e5, _, _, _, _, .inr ⟨y, _, q, g, rfl, upd_same, (hq.same e4).same e5, sg⟩, rfl⟩
        rcases hv3 with rfl | ⟨t, c', q', g', rfl, ht, hq', sg'⟩
        · refine ⟨rfl, _, rfl, ?_⟩
          refine iteRf ?_
          refine iteT ?_
          exact put H3 (Same.refl H3)
        · obtain ⟨_, dq, hqi⟩ := id hq
          obtain ⟨_, dq', hqi'⟩ := id hq'
          have s1 : Sz 300 (1 : Int) := sz_lit (M := 1) (by decide)
          refine ⟨rfl, _, rfl, ?_⟩
          rw [decide_eq_false (show ¬ V.ref t = V.non from fun z => nomatch z)]
          refine iteF ?_
          walk_at "rv go"
          refine w_ixT (xs := [.int c', .ref q']) (v := .ref q') (sq_tup ht) rfl ?_
          refine w_ownO hqi hqi' ?_
          refine ⟨q, .ref q', _, 1, _, 1, rfl, R, hq, .inr ⟨q', rfl, hq'⟩, sg.mono (by decide), s1.mono (by decide), sg'.mono (by decide), s1.mono (by decide), fun H4 e4 => ?_⟩
          refine ⟨_, rfl, ?_⟩
          refine w_both (fun l => ?_) (fun l => ?_)
          · exact put H4 e4
          · walk_at "rv go"
            exact ⟨hi, e23.trans e4, _, _, _, _, .inr ⟨t, c', q', g', rfl, e4 _ _ ht, hq'.same e4, sg'⟩, rfl⟩
    · rintro σ' H' ⟨_, e, v, o3, o4, o5, hv, rfl⟩
      walk_at "rv go"
      exact k v H' e hv
theorem p_told68 {K : PySem.W.Frag} {CP CR CL CC CN CE : Addr} {vs : List V} {H : Hp} {Q : VK} {E : XK} (h : spTold68 K CP CR CL CC CN CE vs H Q E) : t__law_gained K CP CR CL CC CN CE { nx := fun _ H' => Q .non H', rt := Q } (start ["_law_ground", "_law_at", "_law_rise", "_law_found", "e"] vs) H := by
  obtain ⟨p, v, w, y, y', hs, ws, rfl, P, R, rk, X, M, I, hp, ok, ov, ow, k⟩ := h
  unfold t__law_gained
  walk_at "rv go"
  refine ⟨szl (by show 0 ≤ 100000; omega), fun p0 n0 => ?_⟩
  have e0 : Same H (upd H p0 (.tup [])) := same_new (Same.refl H) n0
  generalize upd H p0 (.tup []) = H0 at e0 ⊢
  walk_at "rv go"
  refine w_seq ?_
  refine st_is [some (.ref p), some v, some w, some (.ref p0), none] rfl ?_
  show tAsg _ _ _ _ _
  walk_at "rv go"
  refine w_callD ?_
  walk_at "rv go"
  refine ⟨p, v, w, hs, ws, rfl, P, R, X, hp.same e0, ok, (ov.same e0).wh R rk, (ow.same e0).wh R rk, fun c d H1 nd e1 hd => ?_, fun c g d H1 nd e1 hd => ?_, fun c r ev ew hc r0 r1 => ⟨fun hk q H1 g e1 hq sg => ?_, fun hk d H1 nd e1 hd => ?_⟩⟩
  · refine wA M.cc fun u nu => ?_
    have oz := (ov.same e0).same e1
    walk_at "rv go"
    refine w_xf rfl hd rfl ?_
    walk_at "rv go"
    refine oz.rp R ?_
    walk_at "rv go"
    refine w_isD (cv := .type "IndexError") (fun u r => r) hd I.cI ?_
    walk_at "rv go"
    refine w_isD (cv := .ref CE) (fun u r => r) hd I.cR ?_
    walk_at "rv go"
    refine ⟨szl (by show 4 ≤ 100000; omega), fun r nr => ?_⟩
    walk_at "rv go"
    refine k r _ ((e0.trans e1).trans (same_new (Same.refl H1) nr)) ?_
    unfold dG
    rw [c]
    exact dp4 upd_same
  · refine wB M.nc (wA M.nn fun u nu => ?_)
    have oz := (ow.same e0).same e1
    walk_at "rv go"
    refine w_xf rfl hd rfl ?_
    walk_at "rv go"
    refine oz.rp R ?_
    walk_at "rv go"
    refine w_isD (cv := .ref CE) (fun u r => r) hd I.nR ?_
    walk_at "rv go"
    refine w_isD (cv := .type "IndexError") (fun u r => r) hd I.nI ?_
    walk_at "rv go"
    refine ⟨szl (by show 4 ≤ 100000; omega), fun r nr => ?_⟩
    walk_at "rv go"
    refine k r _ ((e0.trans e1).trans (same_new (Same.refl H1) nr)) ?_
    unfold dG
    rw [c, g]
    exact dp4 upd_same
  · obtain ⟨l1, dx, hqi⟩ := id hq
    refine w_cons ?_
    walk_at "rv go"
    refine isi_of (.own CR) (.base (.ins hqi R.cl R.cA R.cG R.cT R.cM)) kit_self ?_
    walk_at "rv go"
    refine ⟨szl (by show 2 ≤ 100000; omega), fun r nr => ?_⟩
    walk_at "rv go"
    refine k r _ ((e0.trans e1).trans (same_new (Same.refl H1) nr)) ?_
    rw [ev, ew, dG_i hc r0 r1, if_pos hk]
    exact dp2f upd_same
  · refine wB M.lc (wB M.ln (wA M.ll fun u nu => ?_))
    walk_at "rv go"
    refine w_xf rfl hd rfl ?_
    walk_at "rv go"
    refine w_isD (cv := .type "OverflowError") (fun u r => r) hd I.lO ?_
    walk_at "rv go"
    refine w_isD (cv := .ref CE) (fun u r => r) hd I.lR ?_
    walk_at "rv go"
    refine ⟨szl (by show 4 ≤ 100000; omega), fun r nr => ?_⟩
    walk_at "rv go"
    refine k r _ ((e0.trans e1).trans (same_new (Same.refl H1) nr)) ?_
    rw [ev, ew, dG_i hc r0 r1, if_neg (by omega)]
    exact dp4i upd_same
theorem p_told68b {K : PySem.W.Frag} {CP CR CL CC CN CE : Addr} {vs : List V} {H : Hp} {Q : VK} {E : XK} (h : spTold68b K CP CR CL CC CN CE vs H Q E) : t__law_best68 K CP CR CL CC CN CE { nx := fun _ H' => Q .non H', rt := Q } (start ["_law_ground", "_law_rise", "_law_found", "_law_told", "e"] vs) H := by
  obtain ⟨p, w, y', hs, ws, rfl, P, R, rk, X, M, I, hp, ok, ow, k⟩ := h
  unfold t__law_best68
  walk_at "rv go"
  refine ⟨szl (by show 0 ≤ 100000; omega), fun p0 n0 => ?_⟩
  have e0 : Same H (upd H p0 (.tup [])) := same_new (Same.refl H) n0
  generalize upd H p0 (.tup []) = H0 at e0 ⊢
  walk_at "rv go"
  refine w_seq ?_
  refine st_is [some (.ref p), some w, some (.ref p0), none, none] rfl ?_
  show tSeq (tAsg _ _) (tAsg _ _) _ _ _
  walk_at "rv go"
  refine w_callD ?_
  walk_at "rv go"
  refine ⟨p, w, hs, ws, rfl, P, R, X, hp.same e0, ok, (ow.same e0).wh R rk, fun c d H1 nd e1 hd => ?_, fun c v H1 e1 hv => ?_⟩
  · refine ⟨true, M.nn, fun _ u nu => ?_, fun z => nomatch z⟩
    have oz := (ow.same e0).same e1
    walk_at "rv go"
    refine w_xf rfl hd rfl ?_
    walk_at "rv go"
    refine oz.rp R ?_
    walk_at "rv go"
    refine w_isD (cv := .ref CE) (fun u r => r) hd I.nR ?_
    walk_at "rv go"
    refine w_isD (cv := .type "IndexError") (fun u r => r) hd I.nI ?_
    walk_at "rv go"
    refine ⟨szl (by show 4 ≤ 100000; omega), fun r nr => ?_⟩
    walk_at "rv go"
    refine k r _ ((e0.trans e1).trans (same_new (Same.refl H1) nr)) ?_
    unfold dB
    rw [c]
    exact dp4 upd_same
  · walk_at "rv go"
    refine ⟨rfl, _, rfl, ?_⟩
    rcases hv with rfl | ⟨t, c', q, g, rfl, ht, _, _⟩
    · rw [decide_eq_true rfl]
      walk_at "rv go"
      refine ⟨szl (by show 2 ≤ 100000; omega), fun r nr => ?_⟩
      walk_at "rv go"
      refine k r _ ((e0.trans e1).trans (same_new (Same.refl H1) nr)) ?_
      unfold dB
      rw [c]
      exact dp2f upd_same
    · rw [decide_eq_false (show ¬ V.ref t = V.non from fun z => nomatch z)]
      walk_at "rv go"
      refine isi_of (.ty "tuple") (.base (.tup ht)) kit_tt ?_
      walk_at "rv go"
      refine ⟨szl (by show 2 ≤ 100000; omega), fun r nr => ?_⟩
      walk_at "rv go"
      refine k r _ ((e0.trans e1).trans (same_new (Same.refl H1) nr)) ?_
      unfold dB
      rw [c]
      exact dp2f upd_same
theorem inI_le {lo n : Int} {i : Int} : inI lo n (.int i) = (decide (lo ≤ i) && decide (i ≤ n)) := rfl
/-- not isinstance(v, int) or isinstance(v, bool) or not lo <= v <= hi, the second bound being < or <= -/
theorem w_outP {K : PySem.W.Frag} {σ : L2.St} {H : Hp} {TQ : Bool → Hp → Prop} {v : V} {n : Nat} {r : R2} {th : TE} {lo hi : Int} (hn : σ[n]? = some (some v)) (W : Whole K H v) (hr : ∀ (i : Int) (Q : VK), Q (.bl (decide (i ≤ hi))) H → th σ H fun y H' => r (.int i) y H' Q) (hlo : lo = 0)
    (q : TQ (!inI lo hi v) H) : tOr (tNot (tB (tCall (spWhole K) [] E0 (tCons (tVar n) tNil)))) (tNot (tTest (tChain oLe r (tC (.int 0)) (tVar n) th))) σ H TQ := by
  subst hlo
  refine w_or ?_
  refine w_not ?_
  refine w_tB ?_
  refine w_call ?_
  refine w_cons ?_
  refine w_var hn ?_
  refine w_nil ?_
  refine ⟨v, rfl, W, ?_⟩
  refine w_exb ?_
  cases c : isI v with
  | false =>
    rw [inI_not c] at q
    exact iteNF q
  | true =>
    obtain ⟨i, rfl⟩ := isI_int c
    refine iteNT ?_
    refine w_not ?_
    refine w_test ?_
    refine w_chain ?_
    refine w_c ?_
    refine w_var hn ?_
    refine w_I0 ?_
    refine w_exb ?_
    rw [inI_le] at q
    by_cases g : 0 ≤ i
    · rw [decide_eq_true g, Bool.true_and] at q
      rw [decide_eq_true g]
      refine iteT ?_
      refine hr i _ ?_
      exact w_exb q
    · rw [decide_eq_false g, Bool.false_and] at q
      rw [decide_eq_false g]
      refine iteF ?_
      exact w_exb q
theorem p_due68 {K : PySem.W.Frag} {CR : Addr} {vs : List V} {H : Hp} {Q : VK} {E : XK} (h : spDue68 K CR vs H Q E) : t__law_due68 K CR { nx := fun _ H' => Q .non H', rt := Q } (start ["_law_heights", "_law_at", "_law_rise"] vs) H := by
  obtain ⟨a, v, w, y, y', hs, rfl, R, rk, ha, h60, ov, ow, k⟩ := h
  unfold t__law_due68
  refine w_seq ?_
  refine w_ifs ?_
  refine w_outP (lo := 0) (hi := (hs.length : Int) - 1) rfl (ov.wh R rk) (fun i Q q => ?_) rfl ?_
  · walk_at "rv go"
    refine w_lenL (sq_lst ha) ?_
    rw [List.length_map]
    refine w_I0 ?_
    rw [show decide (i < (hs.length : Int)) = decide (i ≤ (hs.length : Int) - 1) from decide_eq_decide.mpr (by omega)]
    exact q
  cases c : inI 0 ((hs.length : Int) - 1) v with
  | false =>
    walk_at "rv go"
    refine ov.rp R ?_
    walk_at "rv go"
    refine ⟨szl (by show 4 ≤ 100000; omega), fun r nr => ?_⟩
    refine k r _ (same_new (Same.refl H) nr) ?_
    unfold dG
    rw [c]
    exact dp4 upd_same
  | true =>
    obtain ⟨i, rfl, i0, i1⟩ := inI_int c
    obtain ⟨n, rfl⟩ : ∃ n : Nat, i = (n : Int) := ⟨i.toNat, by omega⟩
    walk_at "rv go"
    refine w_seq ?_
    refine w_ifs ?_
    refine w_outP (lo := 0) (hi := 1000000000000000000000000000000) rfl (ow.wh R rk) (fun i Q q => ?_) rfl ?_
    · walk_at "rv go"
      rw [e30]
      exact q
    cases g : inI 0 1000000000000000000000000000000 w with
    | false =>
      walk_at "rv go"
      refine ow.rp R ?_
      walk_at "rv go"
      refine ⟨szl (by show 4 ≤ 100000; omega), fun r nr => ?_⟩
      refine k r _ (same_new (Same.refl H) nr) ?_
      unfold dG
      rw [c, g]
      exact dp4 upd_same
    | true =>
      obtain ⟨j, rfl, j0, j1⟩ := inI_int g
      walk_at "rv go"
      refine w_seq ?_
      walk_at "rv go"
      refine w_ixL (sq_lst ha) (at_hN (by omega)) ?_
      walk_at "rv go"
      rw [e30]
      refine w_both (fun l => ?_) (fun l => ?_)
      · walk_at "rv go"
        rw [e30]
        refine ⟨szl (by show 4 ≤ 100000; omega), fun r nr => ?_⟩
        refine k r _ (same_new (Same.refl H) nr) ?_
        rw [dG_i (by omega) j0 j1, if_neg (by omega)]
        exact dp4i upd_same
      · walk_at "rv go"
        refine ⟨szl (by show 2 ≤ 100000; omega), fun r nr => ?_⟩
        refine k r _ (same_new (Same.refl H) nr) ?_
        rw [dG_i (by omega) j0 j1, if_pos (by omega)]
        exact dp2f upd_same
theorem p_due68b {K : PySem.W.Frag} {CR : Addr} {vs : List V} {H : Hp} {Q : VK} {E : XK} (h : spDue68b K CR vs H Q E) : t__law_best_due K CR { nx := fun _ H' => Q .non H', rt := Q } (start ["_law_rise"] vs) H := by
  obtain ⟨w, y', rfl, R, rk, ow, k⟩ := h
  unfold t__law_best_due
  refine w_seq ?_
  refine w_ifs ?_
  refine w_outP (lo := 0) (hi := 1000000000000000000000000000000) rfl (ow.wh R rk) (fun i Q q => ?_) rfl ?_
  · walk_at "rv go"
    rw [e30]
    exact q
  cases g : inI 0 1000000000000000000000000000000 w with
  | false =>
    walk_at "rv go"
    refine ow.rp R ?_
    walk_at "rv go"
    refine ⟨szl (by show 4 ≤ 100000; omega), fun r nr => ?_⟩
    refine k r _ (same_new (Same.refl H) nr) ?_
    unfold dB
    rw [g]
    exact dp4 upd_same
  | true =>
    walk_at "rv go"
    refine ⟨szl (by show 2 ≤ 100000; omega), fun r nr => ?_⟩
    refine k r _ (same_new (Same.refl H) nr) ?_
    unfold dB
    rw [g]
    exact dp2f upd_same
theorem p_law68b {K : PySem.W.Frag} {CP CR CL CC CN CE : Addr} {D : Ends} {H : Hp} {p ha : Addr} {v w : V} {y y' : Str} {hs ws : List Int} {σ : L2.St} (P : PCls K CP) (R : RCls K CR) (rk : RKi K CR) (X : OX3 K CL CC CN) (M : EM3 K CL CC CN) (I : KI3 K CL CC CN CE)
    (h4 : σ[4]? = some (some (.ref ha))) (h5 : σ[5]? = some (some (.ref p))) (h12 : σ[12]? = some (some v)) (h13 : σ[13]? = some (some w)) (hh : H ha = some (.lst (hs.map V.int))) (hp : ProfAt K CP H p hs ws) (ok : PrOk hs ws) (ov : OddD CR H v y) (ow : OddD CR H w y')
    (k : ∀ H', Same H H' → D.nx σ H') : t_law68b K CP CR CL CC CN CE D σ H := by
  unfold t_law68b
  refine w_seq ?_
  refine w_ifs ?_
  refine w_test ?_
  refine w_op ?_
  refine w_call ?_
  refine w_cons ?_
  refine w_var h5 ?_
  refine w_cons ?_
  refine w_var h12 ?_
  refine w_cons ?_
  refine w_var h13 ?_
  refine w_nil ?_
  refine ⟨p, v, w, y, y', hs, ws, rfl, P, R, rk, X, M, I, hp, ok, ov, ow, fun r H1 e1 d1 => ?_⟩
  refine w_call ?_
  refine w_cons ?_
  refine w_var h4 ?_
  refine w_cons ?_
  refine w_var h12 ?_
  refine w_cons ?_
  refine w_var h13 ?_
  refine w_nil ?_
  refine ⟨ha, v, w, y, y', hs, rfl, R, rk, e1 _ _ hh, ok.le, ov.same e1, ow.same e1, fun r2 H2 e2 d2 => ?_⟩
  refine neD_same (dp_same e2 _ _ d1) d2 (sh_dG ov.ok ow.ok) ?_
  refine w_exb ?_
  refine iteF ?_
  refine w_next ?_
  refine w_nx ?_
  refine w_ifs ?_
  refine w_test ?_
  refine w_op ?_
  refine w_call ?_
  refine w_cons ?_
  refine w_var h5 ?_
  refine w_cons ?_
  refine w_var h13 ?_
  refine w_nil ?_
  have e12 := e1.trans e2
  refine ⟨p, w, y', hs, ws, rfl, P, R, rk, X, M, I, hp.same e12, ok, ow.same e12, fun r3 H3 e3 d3 => ?_⟩
  refine w_call ?_
  refine w_cons ?_
  refine w_var h13 ?_
  refine w_nil ?_
  have e13 := e12.trans e3
  refine ⟨w, y', rfl, R, rk, ow.same e13, fun r4 H4 e4 d4 => ?_⟩
  refine neD_same (dp_same e4 _ _ d3) d4 (sh_dB ow.ok) ?_
  refine w_exb ?_
  refine iteF ?_
  refine w_next ?_
  exact k H4 (e13.trans e4)
def In68 (K : PySem.W.Frag) (CP : Addr) (a d c ha p : Addr) (hs ws : List Int) (sz : Int) (σ : L2.St) (H : Hp) : Prop := DrawsAt H d c ∧ ProfAt K CP H p hs ws ∧ H ha = some (.lst (hs.map V.int)) ∧ ha ≠ d ∧ ∃ x6 x7 x8 x9 x10 x11 x12 x13, σ = [some (.ref a), some (.ref d), some (.int (hs.length : Int)), some (.int sz), some (.ref ha), some (.ref p), x6, x7, x8, x9, x10, x11, x12, x13, none, none]
theorem p_law68a {K : PySem.W.Frag} {CP CR CL CC CN CE : Addr} {D : Ends} {H : Hp} {a d c p ha : Addr} {hs ws : List Int} {sz : Int} {σ : L2.St} (P : PCls K CP) (R : RCls K CR) (rk : RKi K CR) (X : OX3 K CL CC CN) (M : EM3 K CL CC CN) (I : KI3 K CL CC CN CE) (ok : PrOk hs ws)
    (h : In68 K CP a d c ha p hs ws sz σ H) (k : ∀ σ' H', In68 K CP a d c ha p hs ws sz σ' H' → D.nx σ' H') : t_law68a K CP CR CL CC CN CE D σ H := by
  obtain ⟨D0, hp0, hh0, had, x6, x7, x8, x9, x10, x11, x12, x13, rfl⟩ := h
  have l60 := ok.le
  have lp := ok.pos
  have dl : ∀ {H' : Hp}, DrawsAt H' d c → ∃ xs, H' d = some (.lst xs) := fun D => let ⟨_, _, _, _, q, _⟩ := D; ⟨_, q⟩
  unfold t_law68a
  walk_at "rv go"
  refine draw_call D0 (by decide) (by decide) fun f H1 fa fb b1 D1 => ?_
  replace fb : f < 1000000000 := fb
  walk_at "rv go"
  refine draw_call D1 (by decide) (by decide) fun g H2 ga gb b2 D2 => ?_
  replace gb : g < 1000000000 := gb
  walk_at "rv go"
  rw [e30]
  refine draw_call D2 (by omega) (Int.lt_of_le_of_lt (b := 60) (by omega) (by decide)) fun l H3 la lb b3 D3 => ?_
  have hp3 := ((hp0.but b1 (dl D0)).but b2 (dl D1)).but b3 (dl D2)
  have hh3 := b3 _ _ had (b2 _ _ had (b1 _ _ had hh0))
  refine w_I0 ?_
  refine w_gn ?_
  refine st_is [some (.ref a), some (.ref d), some (.int (hs.length : Int)), some (.int sz), some (.ref ha), some (.ref p), x6, some (.int ((hs.length : Int) + f)), some (.int (1000000000000000000000000000000 + 1 + g)), some (.int (0 - 1 - l)), x10, x11, x12, x13, none, none] rfl ?_
  generalize hF : (hs.length : Int) + f = F
  generalize hG : (1000000000000000000000000000000 : Int) + 1 + g = G
  generalize hL : (0 : Int) - 1 - l = L
  walk_at "rv go"
  refine ⟨szl (by show 0 ≤ 100000; omega), fun pt nt => ?_⟩
  have e4 := same_new (o := .tup []) (Same.refl H3) nt
  have ht : (upd H3 pt (.tup [])) pt = some (.tup (([] : List Int).map V.int)) := upd_same
  generalize upd H3 pt (.tup []) = H4 at e4 ht ⊢
  walk_at "rv go"
  refine ⟨szl (by show 1 ≤ 100000; omega), fun pl nl => ?_⟩
  have e5 := same_new (o := .lst [.int 0]) (Same.refl H4) nl
  have hl : (upd H4 pl (.lst [.int 0])) pl = some (.lst (([0] : List Int).map V.int)) := upd_same
  generalize upd H4 pl (.lst [.int 0]) = H5 at e5 hl ⊢
  walk_at "rv go"
  refine w_dnewK fun dd ndd => ?_
  have e6 := same_new (o := .dK []) (Same.refl H5) ndd
  have hdd : (upd H5 dd (.dK [])) dd = some (.dK []) := upd_same
  generalize upd H5 dd (.dK []) = H6 at e6 hdd ⊢
  walk_at "rv go"
  refine w_make ?_
  walk_at "rv go"
  refine mk_rat (us := [.int 0]) (dvs := [.int 1]) rfl R (by decide) (sz_one (by decide)) fun q1 H7 t1 u1 e7 hr1 hq1 => ?_
  obtain ⟨rfl, rfl⟩ := hr1.one
  walk_at "rv go"
  refine ⟨szl (by show 12 ≤ 100000; omega), fun px nx => ?_⟩
  have e8 := same_new (o := .lst [.non, .bl true, .bl false, .str "0", .ref pt, .ref pl, .ref dd, .int L, .int (0 - F - 1), .int F, .int (hs.length : Int), .ref q1]) (Same.refl H7) nx
  have hx : (upd H7 px (.lst [.non, .bl true, .bl false, .str "0", .ref pt, .ref pl, .ref dd, .int L, .int (0 - F - 1), .int F, .int (hs.length : Int), .ref q1])) px = some (.lst [.non, .bl true, .bl false, .str "0", .ref pt, .ref pl, .ref dd, .int L, .int (0 - F - 1), .int F, .int (hs.length : Int), .ref q1]) := upd_same
  generalize upd H7 px (.lst [.non, .bl true, .bl false, .str "0", .ref pt, .ref pl, .ref dd, .int L, .int (0 - F - 1), .int F, .int (hs.length : Int), .ref q1]) = H8 at e8 hx ⊢
  have e37 := ((e4.trans e5).trans e6).trans e7
  have e38 := e37.trans e8
  have D8 := D3.new e38
  have nxd : px ≠ d := (D3.new e37).nd nx
  have O1 : ∀ r : Int, 0 ≤ r → r < 12 → ∃ v y, atI [.non, .bl true, .bl false, .str "0", .ref pt, .ref pl, .ref dd, .int L, .int (0 - F - 1), .int F, .int (hs.length : Int), .ref q1] r = some v ∧ OddD CR H8 v y := fun r h0 h1 => by
    rcases (show r = 0 ∨ r = 1 ∨ r = 2 ∨ r = 3 ∨ r = 4 ∨ r = 5 ∨ r = 6 ∨ r = 7 ∨ r = 8 ∨ r = 9 ∨ r = 10 ∨ r = 11 by omega) with rfl | rfl | rfl | rfl | rfl | rfl | rfl | rfl | rfl | rfl | rfl | rfl
    · exact ⟨_, _, rfl, .odd .non⟩
    · exact ⟨_, _, rfl, .odd (.bl _)⟩
    · exact ⟨_, _, rfl, .odd (.bl _)⟩
    · exact ⟨_, _, rfl, .odd odd_s⟩
    · exact ⟨_, _, rfl, .odd (odd_t [] ((((e5.trans e6).trans e7).trans e8) _ _ ht))⟩
    · exact ⟨_, _, rfl, .odd (odd_l [0] (((e6.trans e7).trans e8) _ _ hl))⟩
    · exact ⟨_, _, rfl, .dic ((e7.trans e8) _ _ hdd)⟩
    · exact ⟨_, _, rfl, .odd (odd_i (by omega) (by omega))⟩
    · exact ⟨_, _, rfl, .odd (odd_i (by omega) (by omega))⟩
    · exact ⟨_, _, rfl, .odd (odd_i (by omega) (by omega))⟩
    · exact ⟨_, _, rfl, .odd (odd_i (by omega) (by omega))⟩
    · exact ⟨_, _, rfl, .odd (.rat 0 1 (hq1.same e8) (by decide) (by decide))⟩
  walk_at "rv go"
  refine ⟨szl (by show 0 ≤ 100000; omega), fun pt2 nt2 => ?_⟩
  have e9 := same_new (o := .tup []) (Same.refl H8) nt2
  have ht2 : (upd H8 pt2 (.tup [])) pt2 = some (.tup (([] : List Int).map V.int)) := upd_same
  generalize upd H8 pt2 (.tup []) = H9 at e9 ht2 ⊢
  walk_at "rv go"
  refine ⟨szl (by show 1 ≤ 100000; omega), fun pl2 nl2 => ?_⟩
  have e10 := same_new (o := .lst [.int 1]) (Same.refl H9) nl2
  have hl2 : (upd H9 pl2 (.lst [.int 1])) pl2 = some (.lst (([1] : List Int).map V.int)) := upd_same
  generalize upd H9 pl2 (.lst [.int 1]) = H10 at e10 hl2 ⊢
  walk_at "rv go"
  refine w_dnewK fun dd2 ndd2 => ?_
  have e11 := same_new (o := .dK []) (Same.refl H10) ndd2
  have hdd2 : (upd H10 dd2 (.dK [])) dd2 = some (.dK []) := upd_same
  generalize upd H10 dd2 (.dK []) = H11 at e11 hdd2 ⊢
  walk_at "rv go"
  refine w_make ?_
  walk_at "rv go"
  refine mk_rat (us := [.int 1]) (dvs := [.int 1]) rfl R (by decide) (sz_one (by decide)) fun q2 H12 t2 u2 e12 hr2 hq2 => ?_
  obtain ⟨rfl, rfl⟩ := hr2.one
  walk_at "rv go"
  refine w_make ?_
  walk_at "rv go"
  refine mk_rat (us := [.int 0]) (dvs := [.int 1]) rfl R (by decide) (sz_one (by decide)) fun q3 H13 t3 u3 e13 hr3 hq3 => ?_
  obtain ⟨rfl, rfl⟩ := hr3.one
  walk_at "rv go"
  refine ⟨szl (by show 12 ≤ 100000; omega), fun py ny => ?_⟩
  have e14 := same_new (o := .lst [.non, .bl true, .bl false, .str "1", .ref pt2, .ref pl2, .ref dd2, .int (-1), .int (0 - G), .int G, .ref q2, .ref q3]) (Same.refl H13) ny
  have hy : (upd H13 py (.lst [.non, .bl true, .bl false, .str "1", .ref pt2, .ref pl2, .ref dd2, .int (-1), .int (0 - G), .int G, .ref q2, .ref q3])) py = some (.lst [.non, .bl true, .bl false, .str "1", .ref pt2, .ref pl2, .ref dd2, .int (-1), .int (0 - G), .int G, .ref q2, .ref q3]) := upd_same
  generalize upd H13 py (.lst [.non, .bl true, .bl false, .str "1", .ref pt2, .ref pl2, .ref dd2, .int (-1), .int (0 - G), .int G, .ref q2, .ref q3]) = H14 at e14 hy ⊢
  have e813 := (((e9.trans e10).trans e11).trans e12).trans e13
  have e814 := e813.trans e14
  have D14 := D8.new e814
  have nyd : py ≠ d := (D8.new e813).nd ny
  have O2 : ∀ r : Int, 0 ≤ r → r < 12 → ∃ v y, atI [.non, .bl true, .bl false, .str "1", .ref pt2, .ref pl2, .ref dd2, .int (-1), .int (0 - G), .int G, .ref q2, .ref q3] r = some v ∧ OddD CR H14 v y := fun r h0 h1 => by
    rcases (show r = 0 ∨ r = 1 ∨ r = 2 ∨ r = 3 ∨ r = 4 ∨ r = 5 ∨ r = 6 ∨ r = 7 ∨ r = 8 ∨ r = 9 ∨ r = 10 ∨ r = 11 by omega) with rfl | rfl | rfl | rfl | rfl | rfl | rfl | rfl | rfl | rfl | rfl | rfl
    · exact ⟨_, _, rfl, .odd .non⟩
    · exact ⟨_, _, rfl, .odd (.bl _)⟩
    · exact ⟨_, _, rfl, .odd (.bl _)⟩
    · exact ⟨_, _, rfl, .odd odd_s⟩
    · exact ⟨_, _, rfl, .odd (odd_t [] (((((e10.trans e11).trans e12).trans e13).trans e14) _ _ ht2))⟩
    · exact ⟨_, _, rfl, .odd (odd_l [1] ((((e11.trans e12).trans e13).trans e14) _ _ hl2))⟩
    · exact ⟨_, _, rfl, .dic (((e12.trans e13).trans e14) _ _ hdd2)⟩
    · exact ⟨_, _, rfl, .odd (odd_i (by omega) (by omega))⟩
    · exact ⟨_, _, rfl, .odd (odd_i (by omega) (by omega))⟩
    · exact ⟨_, _, rfl, .odd (odd_i (by omega) (by omega))⟩
    · exact ⟨_, _, rfl, .odd (.rat 1 1 (hq2.same (e13.trans e14)) (by decide) (by decide))⟩
    · exact ⟨_, _, rfl, .odd (.rat 0 1 (hq3.same e14) (by decide) (by decide))⟩
  have e314 := e38.trans e814
  have hp14 := hp3.same e314
  have hh14 := e314 _ _ hh3
  refine w_gn ?_
  refine st_is [some (.ref a), some (.ref d), some (.int (hs.length : Int)), some (.int sz), some (.ref ha), some (.ref p), x6, some (.int F), some (.int G), some (.int L), some (.ref px), some (.ref py), x12, x13, none, none] rfl ?_
  walk_at "rv go"
  refine draw_call D14 (by decide) (by decide) fun z H15 za zb b15 D15 => ?_
  obtain ⟨v, y, ev, ov⟩ := O1 z za zb
  refine w_ixL (sq_lst (b15 _ _ nxd (e814 _ _ hx))) ev ?_
  have ov15 := (ov.same e814).but D14 b15
  walk_at "rv go"
  refine draw_call D15 (by omega) (Int.lt_of_le_of_lt (b := 60) (by omega) (by decide)) fun z2 H16 z2a z2b b16 D16 => ?_
  have ov16 := ov15.but D15 b16
  walk_at "rv go"
  refine ⟨szl (by show 2 ≤ 100000; omega), fun pa na => ?_⟩
  have e17 := same_new (o := .lst [v, .int z2]) (Same.refl H16) na
  have hpa : (upd H16 pa (.lst [v, .int z2])) pa = some (.lst [v, .int z2]) := upd_same
  generalize upd H16 pa (.lst [v, .int z2]) = H17 at e17 hpa ⊢
  have D17 := D16.new e17
  have nad : pa ≠ d := D16.nd na
  walk_at "rv go"
  refine draw_call D17 (by decide) (by decide) fun z3 H18 z3a z3b b18 D18 => ?_
  walk_at "rv go"
  have ov18 := (ov16.same e17).but D17 b18
  have A1 : ∃ v' y', atI [v, .int z2] (if decide (0 < z3) = true then 1 else 0) = some v' ∧ OddD CR H18 v' y' := by
    by_cases q : 0 < z3
    · rw [decide_eq_true q]
      exact ⟨.int z2, _, rfl, .odd (odd_i (by omega) (by omega))⟩
    · rw [decide_eq_false q]
      exact ⟨v, y, rfl, ov18⟩
  obtain ⟨v2, y2, ev2, ov2⟩ := A1
  refine w_ixL (sq_lst (b18 _ _ nad hpa)) ev2 ?_
  walk_at "rv go"
  refine draw_call D18 (by decide) (by decide) fun z4 H19 z4a z4b b19 D19 => ?_
  obtain ⟨w, yw, ew, ow⟩ := O2 z4 z4a z4b
  have hy19 := b19 _ _ nyd (b18 _ _ nyd (e17 _ _ (b16 _ _ nyd (b15 _ _ nyd hy))))
  have ow19 : OddD CR H19 w yw := (((((ow.but D14 b15).but D15 b16).same e17).but D17 b18).but D18 b19)
  refine w_ixL (sq_lst hy19) ew ?_
  walk_at "rv go"
  refine draw_call D19 (by decide) (by decide) fun z5 H20 z5a z5b b20 D20 => ?_
  walk_at "rv go"
  rw [e30]
  refine draw_call D20 (by decide) (by decide) fun z6 H21 z6a z6b b21 D21 => ?_
  walk_at "rv go"
  refine ⟨szl (by show 3 ≤ 100000; omega), fun pb nb => ?_⟩
  have e22 := same_new (o := .lst [w, .int z5, .int z6]) (Same.refl H21) nb
  have hpb : (upd H21 pb (.lst [w, .int z5, .int z6])) pb = some (.lst [w, .int z5, .int z6]) := upd_same
  generalize upd H21 pb (.lst [w, .int z5, .int z6]) = H22 at e22 hpb ⊢
  have D22 := D21.new e22
  have nbd : pb ≠ d := D21.nd nb
  walk_at "rv go"
  refine draw_call D22 (by decide) (by decide) fun z7 H23 z7a z7b b23 D23 => ?_
  have ow23 : OddD CR H23 w yw := ((((ow19.but D19 b20).but D20 b21).same e22).but D22 b23)
  have ov23 : OddD CR H23 v2 y2 := (((((ov2.but D18 b19).but D19 b20).but D20 b21).same e22).but D22 b23)
  have A2 : ∃ w' y', atI [w, .int z5, .int z6] z7 = some w' ∧ OddD CR H23 w' y' := by
    rcases (show z7 = 0 ∨ z7 = 1 ∨ z7 = 2 by omega) with rfl | rfl | rfl
    · exact ⟨w, yw, rfl, ow23⟩
    · exact ⟨.int z5, _, rfl, .odd (odd_i (by omega) (by omega))⟩
    · exact ⟨.int z6, _, rfl, .odd (odd_i (by omega) (by omega))⟩
  obtain ⟨w2, yw2, ew2, ow2⟩ := A2
  refine w_ixL (sq_lst (b23 _ _ nbd hpb)) ew2 ?_
  have hp23 := ((((((((hp14.but b15 (dl D14)).but b16 (dl D15)).same e17).but b18 (dl D17)).but b19 (dl D18)).but b20 (dl D19)).but b21 (dl D20)).same e22).but b23 (dl D22)
  have hh23 := b23 _ _ had (e22 _ _ (b21 _ _ had (b20 _ _ had (b19 _ _ had (b18 _ _ had (e17 _ _ (b16 _ _ had (b15 _ _ had hh14))))))))
  walk_at "rv go"
  refine st_is [some (.ref a), some (.ref d), some (.int (hs.length : Int)), some (.int sz), some (.ref ha), some (.ref p), x6, some (.int F), some (.int G), some (.int L), some (.ref px), some (.ref py), some v2, some w2, none, none] rfl ?_
  refine p_law68b P R rk X M I rfl rfl rfl rfl hh23 hp23 ok ov23 ow2 fun H24 e24 => ?_
  exact k _ _ ⟨D23.new e24, hp23.same e24, e24 _ _ hh23, had, _, _, _, _, _, _, _, _, rfl⟩
theorem p_law68 {K : PySem.W.Frag} {CP CR CL CC CN CE : Addr} {vs : List V} {H : Hp} {Q : VK} {E : XK} (h : spLaw68 K CP CR CL CC CN CE vs H Q E) : t_law68 K CP CR CL CC CN CE { nx := fun _ H' => Q .non H', rt := Q } (start ["_law_script", "_law_draws_here", "_law_many", "_law_size", "_law_heights", "_law_ground", "_law_turn", "_law_far", "_law_far_rise", "_law_less", "_law_wrong", "_law_odd", "_law_at", "_law_rise", "_law_k", "_law_one"] vs) H := by
  obtain ⟨a, ns, rfl, hS, P, R, rk, X, M, I, k⟩ := h
  unfold t_law68
  walk_at "rv go"
  refine ⟨a, ns, rfl, hS, fun d c H1 nd nc e1 D1 => ?_⟩
  walk_at "rv go"
  refine ⟨szl (by decide), fun p1 n1 => ?_⟩
  have n1d : p1 ≠ d := D1.nd n1
  have e2 := same_new (o := .lst [.int 9, .int 9, .int 9, .int 9, .int 60]) (Same.refl H1) n1
  have h1 : (upd H1 p1 (.lst [.int 9, .int 9, .int 9, .int 9, .int 60])) p1 = some (.lst [.int 9, .int 9, .int 9, .int 9, .int 60]) := upd_same
  generalize upd H1 p1 (.lst [.int 9, .int 9, .int 9, .int 9, .int 60]) = H2 at e2 h1 ⊢
  walk_at "rv go"
  refine draw_call (D1.new e2) (by decide) (by decide) fun r1 H3 r1a r1b b3 D3 => ?_
  have hm : ∃ m : Int, 0 < m ∧ m ≤ 60 ∧ atI [V.int 9, V.int 9, V.int 9, V.int 9, V.int 60] r1 = some (.int m) := by
    rcases (show r1 = 0 ∨ r1 = 1 ∨ r1 = 2 ∨ r1 = 3 ∨ r1 = 4 by omega) with rfl | rfl | rfl | rfl | rfl
    · exact ⟨9, by decide, by decide, rfl⟩
    · exact ⟨9, by decide, by decide, rfl⟩
    · exact ⟨9, by decide, by decide, rfl⟩
    · exact ⟨9, by decide, by decide, rfl⟩
    · exact ⟨60, by decide, by decide, rfl⟩
  obtain ⟨m, m0, m60, em⟩ := hm
  refine w_ixL (sq_lst (b3 _ _ n1d h1)) em ?_
  walk_at "rv go"
  refine draw_call D3 m0 (Int.lt_of_le_of_lt m60 (by decide)) fun r2 H4 r2a r2b b4 D4 => ?_
  obtain ⟨n, hn⟩ : ∃ n : Nat, 1 + r2 = (n : Int) := ⟨(1 + r2).toNat, by omega⟩
  walk_at "rv go"
  rw [hn]
  refine ⟨szl (by decide), fun p2 n2 => ?_⟩
  rw [e30]
  have n2d : p2 ≠ d := D4.nd n2
  have e5 := same_new (o := .lst [.int 2, .int 1000000000000000000000000000000]) (Same.refl H4) n2
  have h2 : (upd H4 p2 (.lst [.int 2, .int 1000000000000000000000000000000])) p2 = some (.lst [.int 2, .int 1000000000000000000000000000000]) := upd_same
  generalize upd H4 p2 (.lst [.int 2, .int 1000000000000000000000000000000]) = H5 at e5 h2 ⊢
  walk_at "rv go"
  refine draw_call (D4.new e5) (by decide) (by decide) fun r3 H6 r3a r3b b6 D6 => ?_
  have hz : ∃ s : Int, 0 < s ∧ s ≤ 1000000000000000000000000000000 ∧ atI [V.int 2, V.int 1000000000000000000000000000000] r3 = some (.int s) := by
    rcases (show r3 = 0 ∨ r3 = 1 by omega) with rfl | rfl
    · exact ⟨2, by decide, by decide, rfl⟩
    · exact ⟨1000000000000000000000000000000, by decide, by decide, rfl⟩
  obtain ⟨s, s0, s1, es⟩ := hz
  refine w_ixL (sq_lst (b6 _ _ n2d h2)) es ?_
  walk_at "rv go"
  refine RvM.w_lcDraw (n := n) (G := HOk1) D6 (by omega) (fun AQ q => by walk_at "rv go"; exact q) (fun j H7 Q7 b7 D7 q7 => ?_) fun ha H7 hs hl hok b7 D7 nha hh => ?_
  · walk_at "rv go"
    refine draw_call D7 (by omega) (Int.lt_of_le_of_lt (b := 2000000000000000000000000000001) (by omega) (by decide)) fun r4 H8 r4a r4b b8 D8 => ?_
    walk_at "rv go"
    exact q7 _ _ ⟨by omega, by omega⟩ b8 D8
  have had : ha ≠ d := D6.nd nha
  have l1 : 1 ≤ hs.length := by omega
  have l60 : hs.length ≤ 60 := by omega
  walk_at "rv go"
  refine w_make ?_
  walk_at "rv go"
  refine w_lcl ?_
  walk_at "rv go"
  refine ⟨ha, rfl, ?_⟩
  refine w_lcA (sq_lst hh) (fun D i acc H' => ∃ ws : List Int, acc = ws.map V.int ∧ ws.length = i ∧ (∀ z ∈ ws, WOk1 z) ∧ But d H7 H' ∧ DrawsAt H' d c ∧ H' D = some (.lst acc) ∧ D ≠ d ∧ D ≠ c ∧ H7 D = none)
    (fun D nD => ⟨[], rfl, rfl, (fun _ h => nomatch h), (But.refl d H7).new nD, D7.new (same_new (Same.refl H7) nD), upd_same, D7.nd nD, D7.nc nD, nD⟩) (fun D i acc H' ⟨_, _, _, _, b, _⟩ => sq_lst (b _ _ had hh)) ?_ ?_
  · rintro D i acc x H' hx ⟨ws, rfl, hl', wok, b, DD, hD', nDd, nDc, nD⟩
    walk_at "rv go"
    refine ⟨rfl, ?_⟩
    walk_at "rv go"
    refine draw_call DD (by decide) (by decide) fun r H8 ra rb e8 D8 => ?_
    walk_at "rv go"
    have il : i < hs.length := by
      have := (List.getElem?_eq_some_iff.mp hx).1
      rw [List.length_map] at this
      exact this
    refine ⟨ws.map V.int, e8 _ _ nDd hD', Nat.lt_of_lt_of_le (by rw [List.length_map]; omega : _ < 100001) (by decide), (ws ++ [1 + r]).map V.int, ws ++ [1 + r], rfl, by rw [List.length_append]; show ws.length + 1 = i + 1; omega, fun y hy => ?_, ?_, D8.wr nDd nDc, ?_, nDd, nDc, nD⟩
    · rcases List.mem_append.mp hy with h | h
      · exact wok y h
      · rw [List.mem_singleton.mp h]
        exact ⟨by omega, by omega⟩
    · exact fun c o nc h => by
        have q := (b.trans e8) c o nc h
        rw [upd_ne (ne_of_none h nD)]
        exact q
    · rw [upd_same, map_app]
  rintro hw acc H8 ⟨ws, rfl, hlw, wok, b8, D8, hhw, nwd, nwc, nhw⟩
  rw [List.length_map] at hlw
  have hh8 := b8 _ _ had hh
  walk_at "rv go"
  refine mk_profR (us := [.ref ha, .ref hw]) (dvs := []) rfl P (.inl hh8) l1 l60 hok (.inr ⟨hw, rfl, .inl hhw, hlw, wok⟩) fun p H9 np e9 hp => ?_
  have ok : PrOk hs ws := ⟨l1, l60, hlw, hok, wok⟩
  walk_at "rv go"
  refine w_seq ?_
  refine w_forR (n := 4) (by decide) (fun AQ q => by walk_at "rv go"; exact q) (fun i σ' H' => In68 K CP a d c ha p hs ws s σ' H') ⟨D8.new e9, hp, e9 _ _ hh8, had, none, none, none, none, none, none, none, none, by rw [hl]; rfl⟩ ?_ ?_
  · rintro i σ' H10 _ ⟨D10, hp10, hh10, _, x6, x7, x8, x9, x10, x11, x12, x13, rfl⟩
    refine p_law68a P R rk X M I ok (σ := [some (.ref a), some (.ref d), some (.int (hs.length : Int)), some (.int s), some (.ref ha), some (.ref p), some (.int (i : Int)), x7, x8, x9, x10, x11, x12, x13, none, none]) ⟨D10, hp10, hh10, had, _, _, _, _, _, _, _, _, rfl⟩ fun σ' H' z => z
  rintro σ' H10 ⟨D10, hp10, hh10, _, x6, x7, x8, x9, x10, x11, x12, x13, rfl⟩
  obtain ⟨dy, u1, u2, hpi, g1, g2⟩ := id hp10
  refine w_nx ?_
  walk_at "rv go"
  refine w_prop rfl hpi ?_
  refine ⟨p, dy, _, _, rfl, hpi, pfl_h _ _, ?_⟩
  walk_at "rv go"
  refine tup_call (.inl hh10) fun q1 H11 f1 g3 => ?_
  refine eqD_ok (sq_tup (f1 _ _ g1)) (sq_tup g3) ?_
  exact k _
end Rv
namespace Rv
open PySem PySem.Spec PyProof.Rows L2
def top (i : Nat) : Stmt := PySem.Challenge.pw_rainvalleys_k68_dams_refused.main.body.getD i (.Pass ⟨0, 0, 0, 0⟩)
abbrev s_LimitExceeded___init__ : Stmt := inClass (top 7) 0
theorem sc_LimitExceeded___init__ : FnScope ["self", "limit"] ["self", "limit"] (defScope s_LimitExceeded___init__) := ⟨rfl, rfl, rfl, by decide +kernel, rfl, by decide +kernel, by decide +kernel⟩
theorem d_LimitExceeded___init__ {P : Program} {w : World} {K : PySem.W.Frag} {mg : Str → Option Value} {base : Heap} {C_LimitExceeded : Addr} {CX : CXT} {f : Addr} {cdv : Value} {A : Around} {outer : List Env} {s : Shared} {H : Hp} {E : XK} (vi_OverflowError : PySem.W.findCls K (.type "OverflowError") (.type "type") "__init__" = some (.val (.builtin "OverflowError.__init__"))) (m_OverflowError : mg "OverflowError" = none)
    (hr : Room 0 (A.deeper (envOfC "LimitExceeded.__init__" (defScope s_LimitExceeded___init__) s.heap.objs.size f cdv))) :
    PSs (cxOf CX P w K mg base ["self", "limit"] "LimitExceeded.__init__" (defScope s_LimitExceeded___init__) f cdv A outer s H E) (defBody s_LimitExceeded___init__) (t_LimitExceeded___init__ K C_LimitExceeded) :=
  (pss_cons (ps_expr (pe_stdbase (by rfl) m_OverflowError (by decide +kernel) (by rfl) (by decide +kernel) vi_OverflowError (by decide +kernel) (pa_cons (pv 0) (pa_cons pe_str pa_nil))))
    (pss_one (ps_fst (pv 0) (pv 1))))
theorem ok_LimitExceeded___init__ {P : Program} {w : World} {K : PySem.W.Frag} {mg : Str → Option Value} {base : Heap} {C_LimitExceeded : Addr} {f : Addr} {fd : FuncData} (F : FunD K "__init__" "LimitExceeded.__init__" (defArgs s_LimitExceeded___init__) (defBody s_LimitExceeded___init__) (defScope s_LimitExceeded___init__) [] [] f fd) (vi_OverflowError : PySem.W.findCls K (.type "OverflowError") (.type "type") "__init__" = some (.val (.builtin "OverflowError.__init__"))) (m_OverflowError : mg "OverflowError" = none) : FnOk P w K mg base CX0 1 f fd ["self", "limit"] (spExc K C_LimitExceeded "OverflowError" "OverflowError.__new__" "OverflowError.__init__" bm_OverflowError "limit") :=
  F.ok sc_LimitExceeded___init__ (fun vs H Q E h => by first | (obtain ⟨_, rfl, _⟩ := h; rfl) | (obtain ⟨_, _, rfl, _⟩ := h; rfl) | (obtain ⟨_, _, _, rfl, _⟩ := h; rfl) | (obtain ⟨_, _, _, _, rfl, _⟩ := h; rfl) | (obtain ⟨_, _, _, _, _, rfl, _⟩ := h; rfl) | (obtain ⟨_, _, _, _, _, _, rfl, _⟩ := h; rfl) | (obtain ⟨_, _, _, _, _, _, _, rfl, _⟩ := h; rfl) | (obtain ⟨_, _, _, _, _, _, _, _, rfl, _⟩ := h; rfl) | (obtain ⟨_, _, _, _, _, _, _, _, _, rfl, _⟩ := h; rfl) | (obtain ⟨_, _, _, _, _, _, _, _, _, _, rfl, _⟩ := h; rfl) | (obtain ⟨_, _, _, _, _, _, _, _, _, _, _, rfl, _⟩ := h; rfl) | (obtain ⟨_, _, _, _, _, _, _, _, _, _, _, _, rfl, _⟩ := h; rfl) | (obtain ⟨_, _, _, _, _, _, _, _, _, _, _, _, _, rfl, _⟩ := h; rfl) | (obtain ⟨_, _, _, _, _, _, _, _, _, _, _, _, _, _, rfl, _⟩ := h; rfl) | (obtain ⟨_, _, _, _, _, _, _, _, _, _, _, _, _, _, _, rfl, _⟩ := h; rfl) | (obtain ⟨_, _, _, _, _, _, _, _, _, _, _, _, _, _, _, _, rfl, _⟩ := h; rfl) | (obtain ⟨_, _, _, _, _, _, _, _, _, _, _, _, _, _, _, _, _, rfl, _⟩ := h; rfl) | (obtain ⟨_, _, _, _, _, _, _, _, _, _, _, _, _, _, _, _, _, _, rfl, _⟩ := h; rfl) | (obtain ⟨_, _, _, _, _, _, _, _, _, _, _, _, _, _, _, _, _, _, _, rfl, _⟩ := h; rfl) | (obtain ⟨_, _, _, _, _, _, _, _, _, _, _, _, _, _, _, _, _, _, _, _, rfl, _⟩ := h; rfl) | (obtain ⟨_, _, _, _, _, _, _, _, _, _, _, _, _, _, _, _, _, _, _, _, _, rfl, _⟩ := h; rfl) | (obtain ⟨_, _, _, _, _, _, _, _, _, _, _, _, _, _, _, _, _, _, _, _, _, _, rfl, _⟩ := h; rfl) | (obtain ⟨_, _, _, _, _, _, _, _, _, _, _, _, _, _, _, _, _, _, _, _, _, _, _, rfl, _⟩ := h; rfl) | (obtain ⟨_, _, _, _, _, _, _, _, _, _, _, _, _, _, _, _, _, _, _, _, _, _, _, _, rfl, _⟩ := h; rfl) | (obtain ⟨_, _, _, _, _, _, _, _, _, _, _, _, _, _, _, _, _, _, _, _, _, _, _, _, _, rfl, _⟩ := h; rfl)) (fun cdv A outer s H vs Q E hr h => ⟨_, d_LimitExceeded___init__ vi_OverflowError m_OverflowError hr, p_limI h⟩)
abbrev s_InvalidColumn___init__ : Stmt := inClass (top 6) 0
theorem sc_InvalidColumn___init__ : FnScope ["self", "value"] ["self", "value"] (defScope s_InvalidColumn___init__) := ⟨rfl, rfl, rfl, by decide +kernel, rfl, by decide +kernel, by decide +kernel⟩
theorem d_InvalidColumn___init__ {P : Program} {w : World} {K : PySem.W.Frag} {mg : Str → Option Value} {base : Heap} {C_InvalidColumn : Addr} {CX : CXT} {f : Addr} {cdv : Value} {A : Around} {outer : List Env} {s : Shared} {H : Hp} {E : XK} (vi_IndexError : PySem.W.findCls K (.type "IndexError") (.type "type") "__init__" = some (.val (.builtin "IndexError.__init__"))) (m_IndexError : mg "IndexError" = none)
    (hr : Room 0 (A.deeper (envOfC "InvalidColumn.__init__" (defScope s_InvalidColumn___init__) s.heap.objs.size f cdv))) :
    PSs (cxOf CX P w K mg base ["self", "value"] "InvalidColumn.__init__" (defScope s_InvalidColumn___init__) f cdv A outer s H E) (defBody s_InvalidColumn___init__) (t_InvalidColumn___init__ K C_InvalidColumn) :=
  (pss_cons (ps_expr (pe_stdbase (by rfl) m_IndexError (by decide +kernel) (by rfl) (by decide +kernel) vi_IndexError (by decide +kernel) (pa_cons (pv 0) (pa_cons pe_str pa_nil))))
    (pss_one (ps_fst (pv 0) (pv 1))))
theorem ok_InvalidColumn___init__ {P : Program} {w : World} {K : PySem.W.Frag} {mg : Str → Option Value} {base : Heap} {C_InvalidColumn : Addr} {f : Addr} {fd : FuncData} (F : FunD K "__init__" "InvalidColumn.__init__" (defArgs s_InvalidColumn___init__) (defBody s_InvalidColumn___init__) (defScope s_InvalidColumn___init__) [] [] f fd) (vi_IndexError : PySem.W.findCls K (.type "IndexError") (.type "type") "__init__" = some (.val (.builtin "IndexError.__init__"))) (m_IndexError : mg "IndexError" = none) : FnOk P w K mg base CX0 1 f fd ["self", "value"] (spExc K C_InvalidColumn "IndexError" "IndexError.__new__" "IndexError.__init__" bm_IndexError "value") :=
  F.ok sc_InvalidColumn___init__ (fun vs H Q E h => by first | (obtain ⟨_, rfl, _⟩ := h; rfl) | (obtain ⟨_, _, rfl, _⟩ := h; rfl) | (obtain ⟨_, _, _, rfl, _⟩ := h; rfl) | (obtain ⟨_, _, _, _, rfl, _⟩ := h; rfl) | (obtain ⟨_, _, _, _, _, rfl, _⟩ := h; rfl) | (obtain ⟨_, _, _, _, _, _, rfl, _⟩ := h; rfl) | (obtain ⟨_, _, _, _, _, _, _, rfl, _⟩ := h; rfl) | (obtain ⟨_, _, _, _, _, _, _, _, rfl, _⟩ := h; rfl) | (obtain ⟨_, _, _, _, _, _, _, _, _, rfl, _⟩ := h; rfl) | (obtain ⟨_, _, _, _, _, _, _, _, _, _, rfl, _⟩ := h; rfl) | (obtain ⟨_, _, _, _, _, _, _, _, _, _, _, rfl, _⟩ := h; rfl) | (obtain ⟨_, _, _, _, _, _, _, _, _, _, _, _, rfl, _⟩ := h; rfl) | (obtain ⟨_, _, _, _, _, _, _, _, _, _, _, _, _, rfl, _⟩ := h; rfl) | (obtain ⟨_, _, _, _, _, _, _, _, _, _, _, _, _, _, rfl, _⟩ := h; rfl) | (obtain ⟨_, _, _, _, _, _, _, _, _, _, _, _, _, _, _, rfl, _⟩ := h; rfl) | (obtain ⟨_, _, _, _, _, _, _, _, _, _, _, _, _, _, _, _, rfl, _⟩ := h; rfl) | (obtain ⟨_, _, _, _, _, _, _, _, _, _, _, _, _, _, _, _, _, rfl, _⟩ := h; rfl) | (obtain ⟨_, _, _, _, _, _, _, _, _, _, _, _, _, _, _, _, _, _, rfl, _⟩ := h; rfl) | (obtain ⟨_, _, _, _, _, _, _, _, _, _, _, _, _, _, _, _, _, _, _, rfl, _⟩ := h; rfl) | (obtain ⟨_, _, _, _, _, _, _, _, _, _, _, _, _, _, _, _, _, _, _, _, rfl, _⟩ := h; rfl) | (obtain ⟨_, _, _, _, _, _, _, _, _, _, _, _, _, _, _, _, _, _, _, _, _, rfl, _⟩ := h; rfl) | (obtain ⟨_, _, _, _, _, _, _, _, _, _, _, _, _, _, _, _, _, _, _, _, _, _, rfl, _⟩ := h; rfl) | (obtain ⟨_, _, _, _, _, _, _, _, _, _, _, _, _, _, _, _, _, _, _, _, _, _, _, rfl, _⟩ := h; rfl) | (obtain ⟨_, _, _, _, _, _, _, _, _, _, _, _, _, _, _, _, _, _, _, _, _, _, _, _, rfl, _⟩ := h; rfl) | (obtain ⟨_, _, _, _, _, _, _, _, _, _, _, _, _, _, _, _, _, _, _, _, _, _, _, _, _, rfl, _⟩ := h; rfl)) (fun cdv A outer s H vs Q E hr h => ⟨_, d_InvalidColumn___init__ vi_IndexError m_IndexError hr, p_colI h⟩)
abbrev s_InvalidNumber___init__ : Stmt := inClass (top 3) 0
theorem sc_InvalidNumber___init__ : FnScope ["self", "value"] ["self", "value"] (defScope s_InvalidNumber___init__) := ⟨rfl, rfl, rfl, by decide +kernel, rfl, by decide +kernel, by decide +kernel⟩
theorem d_InvalidNumber___init__ {P : Program} {w : World} {K : PySem.W.Frag} {mg : Str → Option Value} {base : Heap} {C_InvalidNumber : Addr} {CX : CXT} {f : Addr} {cdv : Value} {A : Around} {outer : List Env} {s : Shared} {H : Hp} {E : XK} (bg_RainError : BaseG K C_RainError "ValueError.__init__") (g_RainError : mg "RainError" = some (.ref C_RainError))
    (hr : Room 0 (A.deeper (envOfC "InvalidNumber.__init__" (defScope s_InvalidNumber___init__) s.heap.objs.size f cdv))) :
    PSs (cxOf CX P w K mg base ["self", "value"] "InvalidNumber.__init__" (defScope s_InvalidNumber___init__) f cdv A outer s H E) (defBody s_InvalidNumber___init__) (t_InvalidNumber___init__ K C_InvalidNumber) :=
  (pss_cons (ps_expr (pe_ownbaseG bg_RainError (by rfl) g_RainError (pa_cons (pv 0) (pa_cons pe_str pa_nil))))
    (pss_one (ps_fst (pv 0) (pv 1))))
theorem ok_InvalidNumber___init__ {P : Program} {w : World} {K : PySem.W.Frag} {mg : Str → Option Value} {base : Heap} {C_InvalidNumber : Addr} {f : Addr} {fd : FuncData} (F : FunD K "__init__" "InvalidNumber.__init__" (defArgs s_InvalidNumber___init__) (defBody s_InvalidNumber___init__) (defScope s_InvalidNumber___init__) [] [] f fd) (bg_RainError : BaseG K C_RainError "ValueError.__init__") (g_RainError : mg "RainError" = some (.ref C_RainError)) : FnOk P w K mg base CX0 1 f fd ["self", "value"] (spExc K C_InvalidNumber "ValueError" "ValueError.__new__" "ValueError.__init__" bm_ValueError "value") :=
  F.ok sc_InvalidNumber___init__ (fun vs H Q E h => by first | (obtain ⟨_, rfl, _⟩ := h; rfl) | (obtain ⟨_, _, rfl, _⟩ := h; rfl) | (obtain ⟨_, _, _, rfl, _⟩ := h; rfl) | (obtain ⟨_, _, _, _, rfl, _⟩ := h; rfl) | (obtain ⟨_, _, _, _, _, rfl, _⟩ := h; rfl) | (obtain ⟨_, _, _, _, _, _, rfl, _⟩ := h; rfl) | (obtain ⟨_, _, _, _, _, _, _, rfl, _⟩ := h; rfl) | (obtain ⟨_, _, _, _, _, _, _, _, rfl, _⟩ := h; rfl) | (obtain ⟨_, _, _, _, _, _, _, _, _, rfl, _⟩ := h; rfl) | (obtain ⟨_, _, _, _, _, _, _, _, _, _, rfl, _⟩ := h; rfl) | (obtain ⟨_, _, _, _, _, _, _, _, _, _, _, rfl, _⟩ := h; rfl) | (obtain ⟨_, _, _, _, _, _, _, _, _, _, _, _, rfl, _⟩ := h; rfl) | (obtain ⟨_, _, _, _, _, _, _, _, _, _, _, _, _, rfl, _⟩ := h; rfl) | (obtain ⟨_, _, _, _, _, _, _, _, _, _, _, _, _, _, rfl, _⟩ := h; rfl) | (obtain ⟨_, _, _, _, _, _, _, _, _, _, _, _, _, _, _, rfl, _⟩ := h; rfl) | (obtain ⟨_, _, _, _, _, _, _, _, _, _, _, _, _, _, _, _, rfl, _⟩ := h; rfl) | (obtain ⟨_, _, _, _, _, _, _, _, _, _, _, _, _, _, _, _, _, rfl, _⟩ := h; rfl) | (obtain ⟨_, _, _, _, _, _, _, _, _, _, _, _, _, _, _, _, _, _, rfl, _⟩ := h; rfl) | (obtain ⟨_, _, _, _, _, _, _, _, _, _, _, _, _, _, _, _, _, _, _, rfl, _⟩ := h; rfl) | (obtain ⟨_, _, _, _, _, _, _, _, _, _, _, _, _, _, _, _, _, _, _, _, rfl, _⟩ := h; rfl) | (obtain ⟨_, _, _, _, _, _, _, _, _, _, _, _, _, _, _, _, _, _, _, _, _, rfl, _⟩ := h; rfl) | (obtain ⟨_, _, _, _, _, _, _, _, _, _, _, _, _, _, _, _, _, _, _, _, _, _, rfl, _⟩ := h; rfl) | (obtain ⟨_, _, _, _, _, _, _, _, _, _, _, _, _, _, _, _, _, _, _, _, _, _, _, rfl, _⟩ := h; rfl) | (obtain ⟨_, _, _, _, _, _, _, _, _, _, _, _, _, _, _, _, _, _, _, _, _, _, _, _, rfl, _⟩ := h; rfl) | (obtain ⟨_, _, _, _, _, _, _, _, _, _, _, _, _, _, _, _, _, _, _, _, _, _, _, _, _, rfl, _⟩ := h; rfl)) (fun cdv A outer s H vs Q E hr h => ⟨_, d_InvalidNumber___init__ bg_RainError g_RainError hr, p_numI h⟩)
abbrev s__law_draws : Stmt := top 32
theorem sc__law_draws : FnScope ["_law_script"] ["_law_script"] (defScope s__law_draws) := ⟨rfl, rfl, rfl, by decide +kernel, rfl, by decide +kernel, by decide +kernel⟩
theorem d__law_draws {P : Program} {w : World} {K : PySem.W.Frag} {mg : Str → Option Value} {base : Heap} {CX : CXT} {f : Addr} {cdv : Value} {A : Around} {outer : List Env} {s : Shared} {H : Hp} {E : XK} 
    (hr : Room 0 (A.deeper (envOfC "_law_draws" (defScope s__law_draws) s.heap.objs.size f cdv))) :
    PSs (cxOf CX P w K mg base ["_law_script"] "_law_draws" (defScope s__law_draws) f cdv A outer s H E) (defBody s__law_draws) (t__law_draws K) :=
  (pss_one (ps_ret (pe_lst (pa_cons (pe_slice sl_list (pv 0) po_none (po_some pe_int)) (pa_cons pe_int (pa_cons pe_int (pa_cons pe_int pa_nil)))))))
theorem ok__law_draws {P : Program} {w : World} {K : PySem.W.Frag} {mg : Str → Option Value} {base : Heap} {f : Addr} {fd : FuncData} (F : FunD K "_law_draws" "_law_draws" (defArgs s__law_draws) (defBody s__law_draws) (defScope s__law_draws) [] [] f fd)  : FnOk P w K mg base CX0 1 f fd ["_law_script"] (spDraws K) :=
  F.ok sc__law_draws (fun vs H Q E h => by first | (obtain ⟨_, rfl, _⟩ := h; rfl) | (obtain ⟨_, _, rfl, _⟩ := h; rfl) | (obtain ⟨_, _, _, rfl, _⟩ := h; rfl) | (obtain ⟨_, _, _, _, rfl, _⟩ := h; rfl) | (obtain ⟨_, _, _, _, _, rfl, _⟩ := h; rfl) | (obtain ⟨_, _, _, _, _, _, rfl, _⟩ := h; rfl) | (obtain ⟨_, _, _, _, _, _, _, rfl, _⟩ := h; rfl) | (obtain ⟨_, _, _, _, _, _, _, _, rfl, _⟩ := h; rfl) | (obtain ⟨_, _, _, _, _, _, _, _, _, rfl, _⟩ := h; rfl) | (obtain ⟨_, _, _, _, _, _, _, _, _, _, rfl, _⟩ := h; rfl) | (obtain ⟨_, _, _, _, _, _, _, _, _, _, _, rfl, _⟩ := h; rfl) | (obtain ⟨_, _, _, _, _, _, _, _, _, _, _, _, rfl, _⟩ := h; rfl) | (obtain ⟨_, _, _, _, _, _, _, _, _, _, _, _, _, rfl, _⟩ := h; rfl) | (obtain ⟨_, _, _, _, _, _, _, _, _, _, _, _, _, _, rfl, _⟩ := h; rfl) | (obtain ⟨_, _, _, _, _, _, _, _, _, _, _, _, _, _, _, rfl, _⟩ := h; rfl) | (obtain ⟨_, _, _, _, _, _, _, _, _, _, _, _, _, _, _, _, rfl, _⟩ := h; rfl) | (obtain ⟨_, _, _, _, _, _, _, _, _, _, _, _, _, _, _, _, _, rfl, _⟩ := h; rfl) | (obtain ⟨_, _, _, _, _, _, _, _, _, _, _, _, _, _, _, _, _, _, rfl, _⟩ := h; rfl) | (obtain ⟨_, _, _, _, _, _, _, _, _, _, _, _, _, _, _, _, _, _, _, rfl, _⟩ := h; rfl) | (obtain ⟨_, _, _, _, _, _, _, _, _, _, _, _, _, _, _, _, _, _, _, _, rfl, _⟩ := h; rfl) | (obtain ⟨_, _, _, _, _, _, _, _, _, _, _, _, _, _, _, _, _, _, _, _, _, rfl, _⟩ := h; rfl) | (obtain ⟨_, _, _, _, _, _, _, _, _, _, _, _, _, _, _, _, _, _, _, _, _, _, rfl, _⟩ := h; rfl) | (obtain ⟨_, _, _, _, _, _, _, _, _, _, _, _, _, _, _, _, _, _, _, _, _, _, _, rfl, _⟩ := h; rfl) | (obtain ⟨_, _, _, _, _, _, _, _, _, _, _, _, _, _, _, _, _, _, _, _, _, _, _, _, rfl, _⟩ := h; rfl) | (obtain ⟨_, _, _, _, _, _, _, _, _, _, _, _, _, _, _, _, _, _, _, _, _, _, _, _, _, rfl, _⟩ := h; rfl)) (fun cdv A outer s H vs Q E hr h => ⟨_, d__law_draws  hr, p_draws h⟩)
abbrev s__law_draw : Stmt := top 33
theorem sc__law_draw : FnScope ["_law_draws_here", "_law_many", "_law_cells", "_law_value", "_law_cell", "_law_mixed"] ["_law_draws_here", "_law_many"] (defScope s__law_draw) := ⟨rfl, rfl, rfl, by decide +kernel, rfl, by decide +kernel, by decide +kernel⟩
theorem d__law_draw {P : Program} {w : World} {K : PySem.W.Frag} {mg : Str → Option Value} {base : Heap} {CX : CXT} {f : Addr} {cdv : Value} {A : Around} {outer : List Env} {s : Shared} {H : Hp} {E : XK} (m_len : mg "len" = none)
    (hr : Room 0 (A.deeper (envOfC "_law_draw" (defScope s__law_draw) s.heap.objs.size f cdv))) :
    PSs (cxOf CX P w K mg base ["_law_draws_here", "_law_many", "_law_cells", "_law_value", "_law_cell", "_law_mixed"] "_law_draw" (defScope s__law_draw) f cdv A outer s H E) (defBody s__law_draw) (t__law_draw K) :=
  (pss_cons (ps_set (i := 2) sc__law_draw.nd rfl (by first | exact Or.inl rfl | exact Or.inr rfl) (pe_ix ix_list (pv 0) pe_int (fun _ _ => rfl)))
    (pss_cons (ps_if (PW.pt (pw_and (pt_cmpR op_eq (pe_ix ix_list (pv 0) pe_int (fun _ _ => rfl)) pe_int (nomark _)) (pw_and (pt_cmpR op_lt (pe_ix ix_list (pv 0) pe_int (fun _ _ => rfl)) (pe_callB call_len_seq (by rfl) m_len (by decide +kernel) (pa_cons (pv 2) pa_nil)) (nomark _)) (pw_and1 (pt_cmpR op_ge (pe_ix ix_list (pv 2) (pe_ix ix_list (pv 0) pe_int (fun _ _ => rfl)) (fun _ _ => rfl)) (pe_op op_pow pe_int pe_int) (nomark _)))))) (pss_cons (ps_asg (pe_ix ix_list (pv 2) (pe_ix ix_list (pv 0) pe_int (fun _ _ => rfl)) (fun _ _ => rfl)) (pg_sub (pv 0) pe_int set_list))
    (pss_one (ps_asg (pe_op op_add (pe_ix ix_list (pv 0) pe_int (fun _ _ => rfl)) pe_int) (pg_sub (pv 0) pe_int set_list)))) pss_nil)
    (pss_cons (ps_if (pt_cmpR op_gt (pe_ix ix_list (pv 0) pe_int (fun _ _ => rfl)) pe_int (nomark _)) (pss_cons (ps_set (i := 3) sc__law_draw.nd rfl (by first | exact Or.inl rfl | exact Or.inr rfl) (pe_op op_mod (pe_ix ix_list (pv 0) pe_int (fun _ _ => rfl)) (pv 1)))
    (pss_cons (ps_asg (pe_op op_fdivW (pe_ix ix_list (pv 0) pe_int (fun _ _ => rfl)) (pv 1)) (pg_sub (pv 0) pe_int set_list))
    (pss_one (ps_ret (pv 3))))) pss_nil)
    (pss_cons (ps_set (i := 4) sc__law_draw.nd rfl (by first | exact Or.inl rfl | exact Or.inr rfl) pe_int)
    (pss_cons (ps_if (pt_cmpR op_lt (pe_ix ix_list (pv 0) pe_int (fun _ _ => rfl)) (pe_callB call_len_seq (by rfl) m_len (by decide +kernel) (pa_cons (pv 2) pa_nil)) (nomark _)) (pss_cons (ps_set (i := 4) sc__law_draw.nd rfl (by first | exact Or.inl rfl | exact Or.inr rfl) (pe_ix ix_list (pv 2) (pe_ix ix_list (pv 0) pe_int (fun _ _ => rfl)) (fun _ _ => rfl)))
    (pss_one (ps_asg (pe_op op_add (pe_ix ix_list (pv 0) pe_int (fun _ _ => rfl)) pe_int) (pg_sub (pv 0) pe_int set_list)))) pss_nil)
    (pss_cons (ps_asg (pe_op op_mod (pe_op op_add (pe_op op_add (pe_op op_mul (pe_ix ix_list (pv 0) pe_int (fun _ _ => rfl)) pe_int) (pe_op op_mod (pv 4) pe_int)) pe_int) pe_int) (pg_sub (pv 0) pe_int set_list))
    (pss_cons (ps_set (i := 5) sc__law_draw.nd rfl (by first | exact Or.inl rfl | exact Or.inr rfl) (pe_op op_mod (pe_op op_pow (pe_ix ix_list (pv 0) pe_int (fun _ _ => rfl)) pe_int) pe_int))
    (pss_cons (ps_if (pt_cmpR op_gt (pv 1) (pe_op op_pow pe_int pe_int) (nomark _)) (pss_one (ps_set (i := 5) sc__law_draw.nd rfl (by first | exact Or.inl rfl | exact Or.inr rfl) (pe_op op_add (pe_op op_pow (pv 5) pe_int) (pv 5)))) pss_nil)
    (pss_one (ps_ret (pe_op op_mod (pv 5) (pv 1))))))))))))
theorem ok__law_draw {P : Program} {w : World} {K : PySem.W.Frag} {mg : Str → Option Value} {base : Heap} {f : Addr} {fd : FuncData} (F : FunD K "_law_draw" "_law_draw" (defArgs s__law_draw) (defBody s__law_draw) (defScope s__law_draw) [] [] f fd) (m_len : mg "len" = none) : FnOk P w K mg base CX0 1 f fd ["_law_draws_here", "_law_many"] (spDraw K) :=
  F.ok sc__law_draw (fun vs H Q E h => by first | (obtain ⟨_, rfl, _⟩ := h; rfl) | (obtain ⟨_, _, rfl, _⟩ := h; rfl) | (obtain ⟨_, _, _, rfl, _⟩ := h; rfl) | (obtain ⟨_, _, _, _, rfl, _⟩ := h; rfl) | (obtain ⟨_, _, _, _, _, rfl, _⟩ := h; rfl) | (obtain ⟨_, _, _, _, _, _, rfl, _⟩ := h; rfl) | (obtain ⟨_, _, _, _, _, _, _, rfl, _⟩ := h; rfl) | (obtain ⟨_, _, _, _, _, _, _, _, rfl, _⟩ := h; rfl) | (obtain ⟨_, _, _, _, _, _, _, _, _, rfl, _⟩ := h; rfl) | (obtain ⟨_, _, _, _, _, _, _, _, _, _, rfl, _⟩ := h; rfl) | (obtain ⟨_, _, _, _, _, _, _, _, _, _, _, rfl, _⟩ := h; rfl) | (obtain ⟨_, _, _, _, _, _, _, _, _, _, _, _, rfl, _⟩ := h; rfl) | (obtain ⟨_, _, _, _, _, _, _, _, _, _, _, _, _, rfl, _⟩ := h; rfl) | (obtain ⟨_, _, _, _, _, _, _, _, _, _, _, _, _, _, rfl, _⟩ := h; rfl) | (obtain ⟨_, _, _, _, _, _, _, _, _, _, _, _, _, _, _, rfl, _⟩ := h; rfl) | (obtain ⟨_, _, _, _, _, _, _, _, _, _, _, _, _, _, _, _, rfl, _⟩ := h; rfl) | (obtain ⟨_, _, _, _, _, _, _, _, _, _, _, _, _, _, _, _, _, rfl, _⟩ := h; rfl) | (obtain ⟨_, _, _, _, _, _, _, _, _, _, _, _, _, _, _, _, _, _, rfl, _⟩ := h; rfl) | (obtain ⟨_, _, _, _, _, _, _, _, _, _, _, _, _, _, _, _, _, _, _, rfl, _⟩ := h; rfl) | (obtain ⟨_, _, _, _, _, _, _, _, _, _, _, _, _, _, _, _, _, _, _, _, rfl, _⟩ := h; rfl) | (obtain ⟨_, _, _, _, _, _, _, _, _, _, _, _, _, _, _, _, _, _, _, _, _, rfl, _⟩ := h; rfl) | (obtain ⟨_, _, _, _, _, _, _, _, _, _, _, _, _, _, _, _, _, _, _, _, _, _, rfl, _⟩ := h; rfl) | (obtain ⟨_, _, _, _, _, _, _, _, _, _, _, _, _, _, _, _, _, _, _, _, _, _, _, rfl, _⟩ := h; rfl) | (obtain ⟨_, _, _, _, _, _, _, _, _, _, _, _, _, _, _, _, _, _, _, _, _, _, _, _, rfl, _⟩ := h; rfl) | (obtain ⟨_, _, _, _, _, _, _, _, _, _, _, _, _, _, _, _, _, _, _, _, _, _, _, _, _, rfl, _⟩ := h; rfl)) (fun cdv A outer s H vs Q E hr h => ⟨_, d__law_draw m_len hr, p_draw h⟩)
abbrev s_is_whole : Stmt := top 9
theorem sc_is_whole : FnScope ["value"] ["value"] (defScope s_is_whole) := ⟨rfl, rfl, rfl, by decide +kernel, rfl, by decide +kernel, by decide +kernel⟩
theorem d_is_whole {P : Program} {w : World} {K : PySem.W.Frag} {mg : Str → Option Value} {base : Heap} {CX : CXT} {f : Addr} {cdv : Value} {A : Around} {outer : List Env} {s : Shared} {H : Hp} {E : XK} (m_int : mg "int" = none) (m_isinstance : mg "isinstance" = none) (m_bool : mg "bool" = none)
    (hr : Room 0 (A.deeper (envOfC "is_whole" (defScope s_is_whole) s.heap.objs.size f cdv))) :
    PSs (cxOf CX P w K mg base ["value"] "is_whole" (defScope s_is_whole) f cdv A outer s H E) (defBody s_is_whole) (t_is_whole K) :=
  (pss_one (ps_ret (pe_and (pe_callB call_isi (by rfl) m_isinstance (by decide +kernel) (pa_cons (pv 0) (pa_cons (pe_bltn (by rfl) m_int (by decide +kernel) rfl) pa_nil))) (pe_one (pe_not (pe_callB call_isi (by rfl) m_isinstance (by decide +kernel) (pa_cons (pv 0) (pa_cons (pe_bltn (by rfl) m_bool (by decide +kernel) rfl) pa_nil))))))))
theorem ok_is_whole {P : Program} {w : World} {K : PySem.W.Frag} {mg : Str → Option Value} {base : Heap} {f : Addr} {fd : FuncData} (F : FunD K "is_whole" "is_whole" (defArgs s_is_whole) (defBody s_is_whole) (defScope s_is_whole) [] [] f fd) (m_int : mg "int" = none) (m_isinstance : mg "isinstance" = none) (m_bool : mg "bool" = none) : FnOk P w K mg base CX0 1 f fd ["value"] (spWhole K) :=
  F.ok sc_is_whole (fun vs H Q E h => by first | (obtain ⟨_, rfl, _⟩ := h; rfl) | (obtain ⟨_, _, rfl, _⟩ := h; rfl) | (obtain ⟨_, _, _, rfl, _⟩ := h; rfl) | (obtain ⟨_, _, _, _, rfl, _⟩ := h; rfl) | (obtain ⟨_, _, _, _, _, rfl, _⟩ := h; rfl) | (obtain ⟨_, _, _, _, _, _, rfl, _⟩ := h; rfl) | (obtain ⟨_, _, _, _, _, _, _, rfl, _⟩ := h; rfl) | (obtain ⟨_, _, _, _, _, _, _, _, rfl, _⟩ := h; rfl) | (obtain ⟨_, _, _, _, _, _, _, _, _, rfl, _⟩ := h; rfl) | (obtain ⟨_, _, _, _, _, _, _, _, _, _, rfl, _⟩ := h; rfl) | (obtain ⟨_, _, _, _, _, _, _, _, _, _, _, rfl, _⟩ := h; rfl) | (obtain ⟨_, _, _, _, _, _, _, _, _, _, _, _, rfl, _⟩ := h; rfl) | (obtain ⟨_, _, _, _, _, _, _, _, _, _, _, _, _, rfl, _⟩ := h; rfl) | (obtain ⟨_, _, _, _, _, _, _, _, _, _, _, _, _, _, rfl, _⟩ := h; rfl) | (obtain ⟨_, _, _, _, _, _, _, _, _, _, _, _, _, _, _, rfl, _⟩ := h; rfl) | (obtain ⟨_, _, _, _, _, _, _, _, _, _, _, _, _, _, _, _, rfl, _⟩ := h; rfl) | (obtain ⟨_, _, _, _, _, _, _, _, _, _, _, _, _, _, _, _, _, rfl, _⟩ := h; rfl) | (obtain ⟨_, _, _, _, _, _, _, _, _, _, _, _, _, _, _, _, _, _, rfl, _⟩ := h; rfl) | (obtain ⟨_, _, _, _, _, _, _, _, _, _, _, _, _, _, _, _, _, _, _, rfl, _⟩ := h; rfl) | (obtain ⟨_, _, _, _, _, _, _, _, _, _, _, _, _, _, _, _, _, _, _, _, rfl, _⟩ := h; rfl) | (obtain ⟨_, _, _, _, _, _, _, _, _, _, _, _, _, _, _, _, _, _, _, _, _, rfl, _⟩ := h; rfl) | (obtain ⟨_, _, _, _, _, _, _, _, _, _, _, _, _, _, _, _, _, _, _, _, _, _, rfl, _⟩ := h; rfl) | (obtain ⟨_, _, _, _, _, _, _, _, _, _, _, _, _, _, _, _, _, _, _, _, _, _, _, rfl, _⟩ := h; rfl) | (obtain ⟨_, _, _, _, _, _, _, _, _, _, _, _, _, _, _, _, _, _, _, _, _, _, _, _, rfl, _⟩ := h; rfl) | (obtain ⟨_, _, _, _, _, _, _, _, _, _, _, _, _, _, _, _, _, _, _, _, _, _, _, _, _, rfl, _⟩ := h; rfl)) (fun cdv A outer s H vs Q E hr h => ⟨_, d_is_whole m_int m_isinstance m_bool hr, p_whole h⟩)
abbrev s_is_whole_within : Stmt := top 10
theorem sc_is_whole_within : FnScope ["value", "least", "greatest"] ["value", "least", "greatest"] (defScope s_is_whole_within) := ⟨rfl, rfl, rfl, by decide +kernel, rfl, by decide +kernel, by decide +kernel⟩
theorem d_is_whole_within {P : Program} {w : World} {K : PySem.W.Frag} {mg : Str → Option Value} {base : Heap} {CX : CXT} {f : Addr} {cdv : Value} {A : Around} {outer : List Env} {s : Shared} {H : Hp} {E : XK} (c_is_whole : Cal P w K mg base CX0 1 "is_whole" ["value"] (spWhole K))
    (hr : Room 1 (A.deeper (envOfC "is_whole_within" (defScope s_is_whole_within) s.heap.objs.size f cdv))) :
    PSs (cxOf CX P w K mg base ["value", "least", "greatest"] "is_whole_within" (defScope s_is_whole_within) f cdv A outer s H E) (defBody s_is_whole_within) (t_is_whole_within K) :=
  (pss_one (ps_ret (pe_and (pe_cal c_is_whole (hr.mono (by decide)) rfl pass0 (pa_cons (pv 0) pa_nil)) (pe_one (pe_chain op_le op_le (pv 1) (pv 0) (pv 2))))))
theorem ok_is_whole_within {P : Program} {w : World} {K : PySem.W.Frag} {mg : Str → Option Value} {base : Heap} {f : Addr} {fd : FuncData} (F : FunD K "is_whole_within" "is_whole_within" (defArgs s_is_whole_within) (defBody s_is_whole_within) (defScope s_is_whole_within) [] [] f fd) (c_is_whole : Cal P w K mg base CX0 1 "is_whole" ["value"] (spWhole K)) : FnOk P w K mg base CX0 2 f fd ["value", "least", "greatest"] (spWithin K) :=
  F.ok sc_is_whole_within (fun vs H Q E h => by first | (obtain ⟨_, rfl, _⟩ := h; rfl) | (obtain ⟨_, _, rfl, _⟩ := h; rfl) | (obtain ⟨_, _, _, rfl, _⟩ := h; rfl) | (obtain ⟨_, _, _, _, rfl, _⟩ := h; rfl) | (obtain ⟨_, _, _, _, _, rfl, _⟩ := h; rfl) | (obtain ⟨_, _, _, _, _, _, rfl, _⟩ := h; rfl) | (obtain ⟨_, _, _, _, _, _, _, rfl, _⟩ := h; rfl) | (obtain ⟨_, _, _, _, _, _, _, _, rfl, _⟩ := h; rfl) | (obtain ⟨_, _, _, _, _, _, _, _, _, rfl, _⟩ := h; rfl) | (obtain ⟨_, _, _, _, _, _, _, _, _, _, rfl, _⟩ := h; rfl) | (obtain ⟨_, _, _, _, _, _, _, _, _, _, _, rfl, _⟩ := h; rfl) | (obtain ⟨_, _, _, _, _, _, _, _, _, _, _, _, rfl, _⟩ := h; rfl) | (obtain ⟨_, _, _, _, _, _, _, _, _, _, _, _, _, rfl, _⟩ := h; rfl) | (obtain ⟨_, _, _, _, _, _, _, _, _, _, _, _, _, _, rfl, _⟩ := h; rfl) | (obtain ⟨_, _, _, _, _, _, _, _, _, _, _, _, _, _, _, rfl, _⟩ := h; rfl) | (obtain ⟨_, _, _, _, _, _, _, _, _, _, _, _, _, _, _, _, rfl, _⟩ := h; rfl) | (obtain ⟨_, _, _, _, _, _, _, _, _, _, _, _, _, _, _, _, _, rfl, _⟩ := h; rfl) | (obtain ⟨_, _, _, _, _, _, _, _, _, _, _, _, _, _, _, _, _, _, rfl, _⟩ := h; rfl) | (obtain ⟨_, _, _, _, _, _, _, _, _, _, _, _, _, _, _, _, _, _, _, rfl, _⟩ := h; rfl) | (obtain ⟨_, _, _, _, _, _, _, _, _, _, _, _, _, _, _, _, _, _, _, _, rfl, _⟩ := h; rfl) | (obtain ⟨_, _, _, _, _, _, _, _, _, _, _, _, _, _, _, _, _, _, _, _, _, rfl, _⟩ := h; rfl) | (obtain ⟨_, _, _, _, _, _, _, _, _, _, _, _, _, _, _, _, _, _, _, _, _, _, rfl, _⟩ := h; rfl) | (obtain ⟨_, _, _, _, _, _, _, _, _, _, _, _, _, _, _, _, _, _, _, _, _, _, _, rfl, _⟩ := h; rfl) | (obtain ⟨_, _, _, _, _, _, _, _, _, _, _, _, _, _, _, _, _, _, _, _, _, _, _, _, rfl, _⟩ := h; rfl) | (obtain ⟨_, _, _, _, _, _, _, _, _, _, _, _, _, _, _, _, _, _, _, _, _, _, _, _, _, rfl, _⟩ := h; rfl)) (fun cdv A outer s H vs Q E hr h => ⟨_, d_is_whole_within c_is_whole hr, p_within h⟩)
abbrev s_first_outside : Stmt := top 11
theorem sc_first_outside : FnScope ["values", "least", "greatest", "index", "value"] ["values", "least", "greatest"] (defScope s_first_outside) := ⟨rfl, rfl, rfl, by decide +kernel, rfl, by decide +kernel, by decide +kernel⟩
theorem d_first_outside {P : Program} {w : World} {K : PySem.W.Frag} {mg : Str → Option Value} {base : Heap} {CX : CXT} {f : Addr} {cdv : Value} {A : Around} {outer : List Env} {s : Shared} {H : Hp} {E : XK} (m_enumerate : mg "enumerate" = none) (c_is_whole_within : Cal P w K mg base CX0 2 "is_whole_within" ["value", "least", "greatest"] (spWithin K))
    (hr : Room 2 (A.deeper (envOfC "first_outside" (defScope s_first_outside) s.heap.objs.size f cdv))) :
    PSs (cxOf CX P w K mg base ["values", "least", "greatest", "index", "value"] "first_outside" (defScope s_first_outside) f cdv A outer s H E) (defBody s_first_outside) (t_first_outside K) :=
  (pss_cons (ps_for (passes_of rfl) rfl (pi_enumA (by rfl) m_enumerate (pa_cons (pv 0) pa_nil)) (pg_tup (by rfl) (pgs_cons (pg_name (i := 3) sc_first_outside.nd rfl (by first | exact Or.inl rfl | exact Or.inr rfl)) (pgs_cons (pg_name (i := 4) sc_first_outside.nd rfl (by first | exact Or.inl rfl | exact Or.inr rfl)) pgs_nil))) (pss_one (ps_if (pt_not (pt_val (pe_cal c_is_whole_within (hr.mono (by decide)) rfl pass0 (pa_cons (pv 4) (pa_cons (pv 1) (pa_cons (pv 2) pa_nil)))))) (pss_one (ps_ret (pv 3))) pss_nil)))
    (pss_one (ps_ret pe_non)))
theorem ok_first_outside {P : Program} {w : World} {K : PySem.W.Frag} {mg : Str → Option Value} {base : Heap} {f : Addr} {fd : FuncData} (F : FunD K "first_outside" "first_outside" (defArgs s_first_outside) (defBody s_first_outside) (defScope s_first_outside) [] [] f fd) (m_enumerate : mg "enumerate" = none) (c_is_whole_within : Cal P w K mg base CX0 2 "is_whole_within" ["value", "least", "greatest"] (spWithin K)) : FnOk P w K mg base CX0 3 f fd ["values", "least", "greatest"] (spOutside K) :=
  F.ok sc_first_outside (fun vs H Q E h => by first | (obtain ⟨_, rfl, _⟩ := h; rfl) | (obtain ⟨_, _, rfl, _⟩ := h; rfl) | (obtain ⟨_, _, _, rfl, _⟩ := h; rfl) | (obtain ⟨_, _, _, _, rfl, _⟩ := h; rfl) | (obtain ⟨_, _, _, _, _, rfl, _⟩ := h; rfl) | (obtain ⟨_, _, _, _, _, _, rfl, _⟩ := h; rfl) | (obtain ⟨_, _, _, _, _, _, _, rfl, _⟩ := h; rfl) | (obtain ⟨_, _, _, _, _, _, _, _, rfl, _⟩ := h; rfl) | (obtain ⟨_, _, _, _, _, _, _, _, _, rfl, _⟩ := h; rfl) | (obtain ⟨_, _, _, _, _, _, _, _, _, _, rfl, _⟩ := h; rfl) | (obtain ⟨_, _, _, _, _, _, _, _, _, _, _, rfl, _⟩ := h; rfl) | (obtain ⟨_, _, _, _, _, _, _, _, _, _, _, _, rfl, _⟩ := h; rfl) | (obtain ⟨_, _, _, _, _, _, _, _, _, _, _, _, _, rfl, _⟩ := h; rfl) | (obtain ⟨_, _, _, _, _, _, _, _, _, _, _, _, _, _, rfl, _⟩ := h; rfl) | (obtain ⟨_, _, _, _, _, _, _, _, _, _, _, _, _, _, _, rfl, _⟩ := h; rfl) | (obtain ⟨_, _, _, _, _, _, _, _, _, _, _, _, _, _, _, _, rfl, _⟩ := h; rfl) | (obtain ⟨_, _, _, _, _, _, _, _, _, _, _, _, _, _, _, _, _, rfl, _⟩ := h; rfl) | (obtain ⟨_, _, _, _, _, _, _, _, _, _, _, _, _, _, _, _, _, _, rfl, _⟩ := h; rfl) | (obtain ⟨_, _, _, _, _, _, _, _, _, _, _, _, _, _, _, _, _, _, _, rfl, _⟩ := h; rfl) | (obtain ⟨_, _, _, _, _, _, _, _, _, _, _, _, _, _, _, _, _, _, _, _, rfl, _⟩ := h; rfl) | (obtain ⟨_, _, _, _, _, _, _, _, _, _, _, _, _, _, _, _, _, _, _, _, _, rfl, _⟩ := h; rfl) | (obtain ⟨_, _, _, _, _, _, _, _, _, _, _, _, _, _, _, _, _, _, _, _, _, _, rfl, _⟩ := h; rfl) | (obtain ⟨_, _, _, _, _, _, _, _, _, _, _, _, _, _, _, _, _, _, _, _, _, _, _, rfl, _⟩ := h; rfl) | (obtain ⟨_, _, _, _, _, _, _, _, _, _, _, _, _, _, _, _, _, _, _, _, _, _, _, _, rfl, _⟩ := h; rfl) | (obtain ⟨_, _, _, _, _, _, _, _, _, _, _, _, _, _, _, _, _, _, _, _, _, _, _, _, _, rfl, _⟩ := h; rfl)) (fun cdv A outer s H vs Q E hr h => ⟨_, d_first_outside m_enumerate c_is_whole_within hr, p_outside h⟩)
abbrev s_is_row : Stmt := top 15
theorem sc_is_row : FnScope ["values", "least", "most"] ["values", "least", "most"] (defScope s_is_row) := ⟨rfl, rfl, rfl, by decide +kernel, rfl, by decide +kernel, by decide +kernel⟩
theorem d_is_row {P : Program} {w : World} {K : PySem.W.Frag} {mg : Str → Option Value} {base : Heap} {CX : CXT} {f : Addr} {cdv : Value} {A : Around} {outer : List Env} {s : Shared} {H : Hp} {E : XK} (m_tuple : mg "tuple" = none) (m_list : mg "list" = none) (m_isinstance : mg "isinstance" = none) (m_len : mg "len" = none)
    (hr : Room 0 (A.deeper (envOfC "is_row" (defScope s_is_row) s.heap.objs.size f cdv))) :
    PSs (cxOf CX P w K mg base ["values", "least", "most"] "is_row" (defScope s_is_row) f cdv A outer s H E) (defBody s_is_row) (t_is_row K) :=
  (pss_one (ps_ret (pe_and (pe_callB call_isiT (by rfl) m_isinstance (by decide +kernel) (pa_cons (pv 0) (pa_cons (pe_tup (pa_cons (pe_bltn (by rfl) m_list (by decide +kernel) rfl) (pa_cons (pe_bltn (by rfl) m_tuple (by decide +kernel) rfl) pa_nil))) pa_nil))) (pe_one (pe_chain op_le op_le (pv 1) (pe_callB call_len_seq (by rfl) m_len (by decide +kernel) (pa_cons (pv 0) pa_nil)) (pv 2))))))
theorem ok_is_row {P : Program} {w : World} {K : PySem.W.Frag} {mg : Str → Option Value} {base : Heap} {f : Addr} {fd : FuncData} (F : FunD K "is_row" "is_row" (defArgs s_is_row) (defBody s_is_row) (defScope s_is_row) [] [] f fd) (m_tuple : mg "tuple" = none) (m_list : mg "list" = none) (m_isinstance : mg "isinstance" = none) (m_len : mg "len" = none) : FnOk P w K mg base CX0 1 f fd ["values", "least", "most"] (spRow K) :=
  F.ok sc_is_row (fun vs H Q E h => by first | (obtain ⟨_, rfl, _⟩ := h; rfl) | (obtain ⟨_, _, rfl, _⟩ := h; rfl) | (obtain ⟨_, _, _, rfl, _⟩ := h; rfl) | (obtain ⟨_, _, _, _, rfl, _⟩ := h; rfl) | (obtain ⟨_, _, _, _, _, rfl, _⟩ := h; rfl) | (obtain ⟨_, _, _, _, _, _, rfl, _⟩ := h; rfl) | (obtain ⟨_, _, _, _, _, _, _, rfl, _⟩ := h; rfl) | (obtain ⟨_, _, _, _, _, _, _, _, rfl, _⟩ := h; rfl) | (obtain ⟨_, _, _, _, _, _, _, _, _, rfl, _⟩ := h; rfl) | (obtain ⟨_, _, _, _, _, _, _, _, _, _, rfl, _⟩ := h; rfl) | (obtain ⟨_, _, _, _, _, _, _, _, _, _, _, rfl, _⟩ := h; rfl) | (obtain ⟨_, _, _, _, _, _, _, _, _, _, _, _, rfl, _⟩ := h; rfl) | (obtain ⟨_, _, _, _, _, _, _, _, _, _, _, _, _, rfl, _⟩ := h; rfl) | (obtain ⟨_, _, _, _, _, _, _, _, _, _, _, _, _, _, rfl, _⟩ := h; rfl) | (obtain ⟨_, _, _, _, _, _, _, _, _, _, _, _, _, _, _, rfl, _⟩ := h; rfl) | (obtain ⟨_, _, _, _, _, _, _, _, _, _, _, _, _, _, _, _, rfl, _⟩ := h; rfl) | (obtain ⟨_, _, _, _, _, _, _, _, _, _, _, _, _, _, _, _, _, rfl, _⟩ := h; rfl) | (obtain ⟨_, _, _, _, _, _, _, _, _, _, _, _, _, _, _, _, _, _, rfl, _⟩ := h; rfl) | (obtain ⟨_, _, _, _, _, _, _, _, _, _, _, _, _, _, _, _, _, _, _, rfl, _⟩ := h; rfl) | (obtain ⟨_, _, _, _, _, _, _, _, _, _, _, _, _, _, _, _, _, _, _, _, rfl, _⟩ := h; rfl) | (obtain ⟨_, _, _, _, _, _, _, _, _, _, _, _, _, _, _, _, _, _, _, _, _, rfl, _⟩ := h; rfl) | (obtain ⟨_, _, _, _, _, _, _, _, _, _, _, _, _, _, _, _, _, _, _, _, _, _, rfl, _⟩ := h; rfl) | (obtain ⟨_, _, _, _, _, _, _, _, _, _, _, _, _, _, _, _, _, _, _, _, _, _, _, rfl, _⟩ := h; rfl) | (obtain ⟨_, _, _, _, _, _, _, _, _, _, _, _, _, _, _, _, _, _, _, _, _, _, _, _, rfl, _⟩ := h; rfl) | (obtain ⟨_, _, _, _, _, _, _, _, _, _, _, _, _, _, _, _, _, _, _, _, _, _, _, _, _, rfl, _⟩ := h; rfl)) (fun cdv A outer s H vs Q E hr h => ⟨_, d_is_row m_tuple m_list m_isinstance m_len hr, p_row h⟩)
abbrev s_check_heights : Stmt := top 16
theorem sc_check_heights : FnScope ["heights", "wrong"] ["heights"] (defScope s_check_heights) := ⟨rfl, rfl, rfl, by decide +kernel, rfl, by decide +kernel, by decide +kernel⟩
theorem d_check_heights {P : Program} {w : World} {K : PySem.W.Frag} {mg : Str → Option Value} {base : Heap} {CX : CXT} {f : Addr} {cdv : Value} {A : Around} {outer : List Env} {s : Shared} {H : Hp} {E : XK} (m_MOST_COLUMNS : ∃ u, mg "MOST_COLUMNS" = some (.int 60 u)) (c_is_row : Cal P w K mg base CX0 1 "is_row" ["values", "least", "most"] (spRow K)) (m_GREATEST : ∃ u, mg "GREATEST" = some (.int 1000000000000000000000000000000 u)) (c_first_outside : Cal P w K mg base CX0 3 "first_outside" ["values", "least", "greatest"] (spOutside K))
    (hr : Room 3 (A.deeper (envOfC "check_heights" (defScope s_check_heights) s.heap.objs.size f cdv))) :
    PSs (cxOf CX P w K mg base ["heights", "wrong"] "check_heights" (defScope s_check_heights) f cdv A outer s H E) (defBody s_check_heights) (t_check_heights K) :=
  (pss_cons (ps_if (pt_not (pt_val (pe_cal c_is_row (hr.mono (by decide)) rfl pass0 (pa_cons (pv 0) (pa_cons pe_int (pa_cons (pe_gint m_MOST_COLUMNS rfl) pa_nil)))))) (pss_one ps_never) pss_nil)
    (pss_cons (ps_set (i := 1) sc_check_heights.nd rfl (by first | exact Or.inl rfl | exact Or.inr rfl) (pe_cal c_first_outside (hr.mono (by decide)) rfl pass0 (pa_cons (pv 0) (pa_cons (pe_un un_neg (pe_gint m_GREATEST rfl)) (pa_cons (pe_gint m_GREATEST rfl) pa_nil)))))
    (pss_one (ps_if (pt_cmpR op_notN (pv 1) pe_non (nomark _)) (pss_one ps_never) pss_nil))))
theorem ok_check_heights {P : Program} {w : World} {K : PySem.W.Frag} {mg : Str → Option Value} {base : Heap} {f : Addr} {fd : FuncData} (F : FunD K "check_heights" "check_heights" (defArgs s_check_heights) (defBody s_check_heights) (defScope s_check_heights) [] [] f fd) (m_MOST_COLUMNS : ∃ u, mg "MOST_COLUMNS" = some (.int 60 u)) (c_is_row : Cal P w K mg base CX0 1 "is_row" ["values", "least", "most"] (spRow K)) (m_GREATEST : ∃ u, mg "GREATEST" = some (.int 1000000000000000000000000000000 u)) (c_first_outside : Cal P w K mg base CX0 3 "first_outside" ["values", "least", "greatest"] (spOutside K)) : FnOk P w K mg base CX0 4 f fd ["heights"] (spCheckH K) :=
  F.ok sc_check_heights (fun vs H Q E h => by first | (obtain ⟨_, rfl, _⟩ := h; rfl) | (obtain ⟨_, _, rfl, _⟩ := h; rfl) | (obtain ⟨_, _, _, rfl, _⟩ := h; rfl) | (obtain ⟨_, _, _, _, rfl, _⟩ := h; rfl) | (obtain ⟨_, _, _, _, _, rfl, _⟩ := h; rfl) | (obtain ⟨_, _, _, _, _, _, rfl, _⟩ := h; rfl) | (obtain ⟨_, _, _, _, _, _, _, rfl, _⟩ := h; rfl) | (obtain ⟨_, _, _, _, _, _, _, _, rfl, _⟩ := h; rfl) | (obtain ⟨_, _, _, _, _, _, _, _, _, rfl, _⟩ := h; rfl) | (obtain ⟨_, _, _, _, _, _, _, _, _, _, rfl, _⟩ := h; rfl) | (obtain ⟨_, _, _, _, _, _, _, _, _, _, _, rfl, _⟩ := h; rfl) | (obtain ⟨_, _, _, _, _, _, _, _, _, _, _, _, rfl, _⟩ := h; rfl) | (obtain ⟨_, _, _, _, _, _, _, _, _, _, _, _, _, rfl, _⟩ := h; rfl) | (obtain ⟨_, _, _, _, _, _, _, _, _, _, _, _, _, _, rfl, _⟩ := h; rfl) | (obtain ⟨_, _, _, _, _, _, _, _, _, _, _, _, _, _, _, rfl, _⟩ := h; rfl) | (obtain ⟨_, _, _, _, _, _, _, _, _, _, _, _, _, _, _, _, rfl, _⟩ := h; rfl) | (obtain ⟨_, _, _, _, _, _, _, _, _, _, _, _, _, _, _, _, _, rfl, _⟩ := h; rfl) | (obtain ⟨_, _, _, _, _, _, _, _, _, _, _, _, _, _, _, _, _, _, rfl, _⟩ := h; rfl) | (obtain ⟨_, _, _, _, _, _, _, _, _, _, _, _, _, _, _, _, _, _, _, rfl, _⟩ := h; rfl) | (obtain ⟨_, _, _, _, _, _, _, _, _, _, _, _, _, _, _, _, _, _, _, _, rfl, _⟩ := h; rfl) | (obtain ⟨_, _, _, _, _, _, _, _, _, _, _, _, _, _, _, _, _, _, _, _, _, rfl, _⟩ := h; rfl) | (obtain ⟨_, _, _, _, _, _, _, _, _, _, _, _, _, _, _, _, _, _, _, _, _, _, rfl, _⟩ := h; rfl) | (obtain ⟨_, _, _, _, _, _, _, _, _, _, _, _, _, _, _, _, _, _, _, _, _, _, _, rfl, _⟩ := h; rfl) | (obtain ⟨_, _, _, _, _, _, _, _, _, _, _, _, _, _, _, _, _, _, _, _, _, _, _, _, rfl, _⟩ := h; rfl) | (obtain ⟨_, _, _, _, _, _, _, _, _, _, _, _, _, _, _, _, _, _, _, _, _, _, _, _, _, rfl, _⟩ := h; rfl)) (fun cdv A outer s H vs Q E hr h => ⟨_, d_check_heights m_MOST_COLUMNS c_is_row m_GREATEST c_first_outside hr, p_checkH h⟩)
abbrev s_check_widths : Stmt := top 17
theorem sc_check_widths : FnScope ["widths", "many", "wrong"] ["widths", "many"] (defScope s_check_widths) := ⟨rfl, rfl, rfl, by decide +kernel, rfl, by decide +kernel, by decide +kernel⟩
theorem d_check_widths {P : Program} {w : World} {K : PySem.W.Frag} {mg : Str → Option Value} {base : Heap} {CX : CXT} {f : Addr} {cdv : Value} {A : Around} {outer : List Env} {s : Shared} {H : Hp} {E : XK} (c_is_row : Cal P w K mg base CX0 1 "is_row" ["values", "least", "most"] (spRow K)) (m_GREATEST : ∃ u, mg "GREATEST" = some (.int 1000000000000000000000000000000 u)) (c_first_outside : Cal P w K mg base CX0 3 "first_outside" ["values", "least", "greatest"] (spOutside K))
    (hr : Room 3 (A.deeper (envOfC "check_widths" (defScope s_check_widths) s.heap.objs.size f cdv))) :
    PSs (cxOf CX P w K mg base ["widths", "many", "wrong"] "check_widths" (defScope s_check_widths) f cdv A outer s H E) (defBody s_check_widths) (t_check_widths K) :=
  (pss_cons (ps_if (pt_not (pt_val (pe_cal c_is_row (hr.mono (by decide)) rfl pass0 (pa_cons (pv 0) (pa_cons (pv 1) (pa_cons (pv 1) pa_nil)))))) (pss_one ps_never) pss_nil)
    (pss_cons (ps_set (i := 2) sc_check_widths.nd rfl (by first | exact Or.inl rfl | exact Or.inr rfl) (pe_cal c_first_outside (hr.mono (by decide)) rfl pass0 (pa_cons (pv 0) (pa_cons pe_int (pa_cons (pe_gint m_GREATEST rfl) pa_nil)))))
    (pss_one (ps_if (pt_cmpR op_notN (pv 2) pe_non (nomark _)) (pss_one ps_never) pss_nil))))
theorem ok_check_widths {P : Program} {w : World} {K : PySem.W.Frag} {mg : Str → Option Value} {base : Heap} {f : Addr} {fd : FuncData} (F : FunD K "check_widths" "check_widths" (defArgs s_check_widths) (defBody s_check_widths) (defScope s_check_widths) [] [] f fd) (c_is_row : Cal P w K mg base CX0 1 "is_row" ["values", "least", "most"] (spRow K)) (m_GREATEST : ∃ u, mg "GREATEST" = some (.int 1000000000000000000000000000000 u)) (c_first_outside : Cal P w K mg base CX0 3 "first_outside" ["values", "least", "greatest"] (spOutside K)) : FnOk P w K mg base CX0 4 f fd ["widths", "many"] (spCheckW K) :=
  F.ok sc_check_widths (fun vs H Q E h => by first | (obtain ⟨_, rfl, _⟩ := h; rfl) | (obtain ⟨_, _, rfl, _⟩ := h; rfl) | (obtain ⟨_, _, _, rfl, _⟩ := h; rfl) | (obtain ⟨_, _, _, _, rfl, _⟩ := h; rfl) | (obtain ⟨_, _, _, _, _, rfl, _⟩ := h; rfl) | (obtain ⟨_, _, _, _, _, _, rfl, _⟩ := h; rfl) | (obtain ⟨_, _, _, _, _, _, _, rfl, _⟩ := h; rfl) | (obtain ⟨_, _, _, _, _, _, _, _, rfl, _⟩ := h; rfl) | (obtain ⟨_, _, _, _, _, _, _, _, _, rfl, _⟩ := h; rfl) | (obtain ⟨_, _, _, _, _, _, _, _, _, _, rfl, _⟩ := h; rfl) | (obtain ⟨_, _, _, _, _, _, _, _, _, _, _, rfl, _⟩ := h; rfl) | (obtain ⟨_, _, _, _, _, _, _, _, _, _, _, _, rfl, _⟩ := h; rfl) | (obtain ⟨_, _, _, _, _, _, _, _, _, _, _, _, _, rfl, _⟩ := h; rfl) | (obtain ⟨_, _, _, _, _, _, _, _, _, _, _, _, _, _, rfl, _⟩ := h; rfl) | (obtain ⟨_, _, _, _, _, _, _, _, _, _, _, _, _, _, _, rfl, _⟩ := h; rfl) | (obtain ⟨_, _, _, _, _, _, _, _, _, _, _, _, _, _, _, _, rfl, _⟩ := h; rfl) | (obtain ⟨_, _, _, _, _, _, _, _, _, _, _, _, _, _, _, _, _, rfl, _⟩ := h; rfl) | (obtain ⟨_, _, _, _, _, _, _, _, _, _, _, _, _, _, _, _, _, _, rfl, _⟩ := h; rfl) | (obtain ⟨_, _, _, _, _, _, _, _, _, _, _, _, _, _, _, _, _, _, _, rfl, _⟩ := h; rfl) | (obtain ⟨_, _, _, _, _, _, _, _, _, _, _, _, _, _, _, _, _, _, _, _, rfl, _⟩ := h; rfl) | (obtain ⟨_, _, _, _, _, _, _, _, _, _, _, _, _, _, _, _, _, _, _, _, _, rfl, _⟩ := h; rfl) | (obtain ⟨_, _, _, _, _, _, _, _, _, _, _, _, _, _, _, _, _, _, _, _, _, _, rfl, _⟩ := h; rfl) | (obtain ⟨_, _, _, _, _, _, _, _, _, _, _, _, _, _, _, _, _, _, _, _, _, _, _, rfl, _⟩ := h; rfl) | (obtain ⟨_, _, _, _, _, _, _, _, _, _, _, _, _, _, _, _, _, _, _, _, _, _, _, _, rfl, _⟩ := h; rfl) | (obtain ⟨_, _, _, _, _, _, _, _, _, _, _, _, _, _, _, _, _, _, _, _, _, _, _, _, _, rfl, _⟩ := h; rfl)) (fun cdv A outer s H vs Q E hr h => ⟨_, d_check_widths c_is_row m_GREATEST c_first_outside hr, p_checkW h⟩)
abbrev s_Profile___init__ : Stmt := inClass (top 19) 0
theorem sc_Profile___init__ : FnScope ["self", "heights", "widths"] ["self", "heights", "widths"] (defScope s_Profile___init__) := ⟨rfl, rfl, rfl, by decide +kernel, rfl, by decide +kernel, by decide +kernel⟩
theorem d_Profile___init__ {P : Program} {w : World} {K : PySem.W.Frag} {mg : Str → Option Value} {base : Heap} {C_Profile : Addr} {CX : CXT} {f : Addr} {cdv : Value} {A : Around} {outer : List Env} {s : Shared} {H : Hp} {E : XK} (c_check_heights : Cal P w K mg base CX0 4 "check_heights" ["heights"] (spCheckH K)) (m_len : mg "len" = none) (c_check_widths : Cal P w K mg base CX0 4 "check_widths" ["widths", "many"] (spCheckW K)) (m_tuple : mg "tuple" = none)
    (hr : Room 4 (A.deeper (envOfC "Profile.__init__" (defScope s_Profile___init__) s.heap.objs.size f cdv))) :
    PSs (cxOf CX P w K mg base ["self", "heights", "widths"] "Profile.__init__" (defScope s_Profile___init__) f cdv A outer s H E) (defBody s_Profile___init__) (t_Profile___init__ K C_Profile) :=
  (pss_cons (ps_expr (pe_cal c_check_heights (hr.mono (by decide)) rfl pass0 (pa_cons (pv 1) pa_nil)))
    (pss_cons (ps_if (pt_cmpR op_isN (pv 2) pe_non (nomark _)) (pss_one (ps_set (i := 2) sc_Profile___init__.nd rfl (by first | exact Or.inl rfl | exact Or.inr rfl) (pe_op op_rep (pe_lst (pa_cons pe_int pa_nil)) (pe_callB call_len_seq (by rfl) m_len (by decide +kernel) (pa_cons (pv 1) pa_nil))))) pss_nil)
    (pss_cons (ps_expr (pe_cal c_check_widths (hr.mono (by decide)) rfl pass0 (pa_cons (pv 2) (pa_cons (pe_callB call_len_seq (by rfl) m_len (by decide +kernel) (pa_cons (pv 1) pa_nil)) pa_nil))))
    (pss_cons (ps_fld (pv 0) (pe_callTy call_tuple_of (by rfl) m_tuple (by decide +kernel) (pa_cons (pv 1) pa_nil)) rfl)
    (pss_one (ps_fld (pv 0) (pe_callTy call_tuple_of (by rfl) m_tuple (by decide +kernel) (pa_cons (pv 2) pa_nil)) rfl))))))
theorem ok_Profile___init__ {P : Program} {w : World} {K : PySem.W.Frag} {mg : Str → Option Value} {base : Heap} {C_Profile : Addr} {f : Addr} {fd : FuncData} (F : FunD K "__init__" "Profile.__init__" (defArgs s_Profile___init__) (defBody s_Profile___init__) (defScope s_Profile___init__) [.non] [] f fd) (c_check_heights : Cal P w K mg base CX0 4 "check_heights" ["heights"] (spCheckH K)) (m_len : mg "len" = none) (c_check_widths : Cal P w K mg base CX0 4 "check_widths" ["widths", "many"] (spCheckW K)) (m_tuple : mg "tuple" = none) : FnOk P w K mg base CX0 5 f fd ["self", "heights", "widths"] (spInit K C_Profile) :=
  F.ok sc_Profile___init__ (fun vs H Q E h => by first | (obtain ⟨_, rfl, _⟩ := h; rfl) | (obtain ⟨_, _, rfl, _⟩ := h; rfl) | (obtain ⟨_, _, _, rfl, _⟩ := h; rfl) | (obtain ⟨_, _, _, _, rfl, _⟩ := h; rfl) | (obtain ⟨_, _, _, _, _, rfl, _⟩ := h; rfl) | (obtain ⟨_, _, _, _, _, _, rfl, _⟩ := h; rfl) | (obtain ⟨_, _, _, _, _, _, _, rfl, _⟩ := h; rfl) | (obtain ⟨_, _, _, _, _, _, _, _, rfl, _⟩ := h; rfl) | (obtain ⟨_, _, _, _, _, _, _, _, _, rfl, _⟩ := h; rfl) | (obtain ⟨_, _, _, _, _, _, _, _, _, _, rfl, _⟩ := h; rfl) | (obtain ⟨_, _, _, _, _, _, _, _, _, _, _, rfl, _⟩ := h; rfl) | (obtain ⟨_, _, _, _, _, _, _, _, _, _, _, _, rfl, _⟩ := h; rfl) | (obtain ⟨_, _, _, _, _, _, _, _, _, _, _, _, _, rfl, _⟩ := h; rfl) | (obtain ⟨_, _, _, _, _, _, _, _, _, _, _, _, _, _, rfl, _⟩ := h; rfl) | (obtain ⟨_, _, _, _, _, _, _, _, _, _, _, _, _, _, _, rfl, _⟩ := h; rfl) | (obtain ⟨_, _, _, _, _, _, _, _, _, _, _, _, _, _, _, _, rfl, _⟩ := h; rfl) | (obtain ⟨_, _, _, _, _, _, _, _, _, _, _, _, _, _, _, _, _, rfl, _⟩ := h; rfl) | (obtain ⟨_, _, _, _, _, _, _, _, _, _, _, _, _, _, _, _, _, _, rfl, _⟩ := h; rfl) | (obtain ⟨_, _, _, _, _, _, _, _, _, _, _, _, _, _, _, _, _, _, _, rfl, _⟩ := h; rfl) | (obtain ⟨_, _, _, _, _, _, _, _, _, _, _, _, _, _, _, _, _, _, _, _, rfl, _⟩ := h; rfl) | (obtain ⟨_, _, _, _, _, _, _, _, _, _, _, _, _, _, _, _, _, _, _, _, _, rfl, _⟩ := h; rfl) | (obtain ⟨_, _, _, _, _, _, _, _, _, _, _, _, _, _, _, _, _, _, _, _, _, _, rfl, _⟩ := h; rfl) | (obtain ⟨_, _, _, _, _, _, _, _, _, _, _, _, _, _, _, _, _, _, _, _, _, _, _, rfl, _⟩ := h; rfl) | (obtain ⟨_, _, _, _, _, _, _, _, _, _, _, _, _, _, _, _, _, _, _, _, _, _, _, _, rfl, _⟩ := h; rfl) | (obtain ⟨_, _, _, _, _, _, _, _, _, _, _, _, _, _, _, _, _, _, _, _, _, _, _, _, _, rfl, _⟩ := h; rfl)) (fun cdv A outer s H vs Q E hr h => ⟨_, d_Profile___init__ c_check_heights m_len c_check_widths m_tuple hr, p_init h⟩)
abbrev s_grown_profile : Stmt := top 18
theorem sc_grown_profile : FnScope ["heights", "widths"] ["heights", "widths"] (defScope s_grown_profile) := ⟨rfl, rfl, rfl, by decide +kernel, rfl, by decide +kernel, by decide +kernel⟩
theorem d_grown_profile {P : Program} {w : World} {K : PySem.W.Frag} {mg : Str → Option Value} {base : Heap} {C_Profile : Addr} {C_LimitExceeded : Addr} {f : Addr} {cdv : Value} {A : Around} {outer : List Env} {s : Shared} {H : Hp} {E : XK} (m_GREATEST : ∃ u, mg "GREATEST" = some (.int 1000000000000000000000000000000 u)) (c_first_outside : Cal P w K mg base CX0 3 "first_outside" ["values", "least", "greatest"] (spOutside K)) (cx_LimitExceeded : CalX P w K mg base CX0 1 "LimitExceeded" C_LimitExceeded ["self", "limit"] (spExc K C_LimitExceeded "OverflowError" "OverflowError.__new__" "OverflowError.__init__" bm_OverflowError "limit") [] "OverflowError" "OverflowError.__new__" "OverflowError.__init__" bm_OverflowError) (cm2_Profile : CalM P w K mg base CX0 5 "Profile" C_Profile ["self", "heights", "widths"] (spInit K C_Profile) [])
    (hr : Room 6 (A.deeper (envOfC "grown_profile" (defScope s_grown_profile) s.heap.objs.size f cdv))) :
    PSs (cxOf (L2.CX P w) P w K mg base ["heights", "widths"] "grown_profile" (defScope s_grown_profile) f cdv A outer s H E) (defBody s_grown_profile) (t_grown_profileX K C_Profile C_LimitExceeded E) :=
  (pss_cons (ps_if (pt_cmpR op_notN (pe_cal c_first_outside (hr.mono (by decide)) rfl pass0 (pa_cons (pv 0) (pa_cons (pe_un un_neg (pe_gint m_GREATEST rfl)) (pa_cons (pe_gint m_GREATEST rfl) pa_nil)))) pe_non (nomark _)) (pss_one (ps_raiseE (pmk_cal cx_LimitExceeded (hr.mono (by decide)) pass0 (by rfl) (pa_cons (pe_gint m_GREATEST rfl) pa_nil)) (takes_of rfl rfl rfl rfl))) pss_nil)
    (pss_cons (ps_if (pt_cmpR op_notN (pe_cal c_first_outside (hr.mono (by decide)) rfl pass0 (pa_cons (pv 1) (pa_cons pe_int (pa_cons (pe_gint m_GREATEST rfl) pa_nil)))) pe_non (nomark _)) (pss_one (ps_raiseE (pmk_cal cx_LimitExceeded (hr.mono (by decide)) pass0 (by rfl) (pa_cons (pe_gint m_GREATEST rfl) pa_nil)) (takes_of rfl rfl rfl rfl))) pss_nil)
    (pss_one (ps_ret (pe_calm cm2_Profile (hr.mono (by decide)) rfl pass0 (pa_cons (pv 0) (pa_cons (pv 1) pa_nil)))))))
theorem ok_grown_profile {P : Program} {w : World} {K : PySem.W.Frag} {mg : Str → Option Value} {base : Heap} {C_Profile : Addr} {C_LimitExceeded : Addr} {f : Addr} {fd : FuncData} (F : FunD K "grown_profile" "grown_profile" (defArgs s_grown_profile) (defBody s_grown_profile) (defScope s_grown_profile) [] [] f fd) (m_GREATEST : ∃ u, mg "GREATEST" = some (.int 1000000000000000000000000000000 u)) (c_first_outside : Cal P w K mg base CX0 3 "first_outside" ["values", "least", "greatest"] (spOutside K)) (cx_LimitExceeded : CalX P w K mg base CX0 1 "LimitExceeded" C_LimitExceeded ["self", "limit"] (spExc K C_LimitExceeded "OverflowError" "OverflowError.__new__" "OverflowError.__init__" bm_OverflowError "limit") [] "OverflowError" "OverflowError.__new__" "OverflowError.__init__" bm_OverflowError) (cm2_Profile : CalM P w K mg base CX0 5 "Profile" C_Profile ["self", "heights", "widths"] (spInit K C_Profile) []) : FnOk P w K mg base (L2.CX P w) 7 f fd ["heights", "widths"] (spGrownX K C_Profile C_LimitExceeded) :=
  F.ok sc_grown_profile (fun vs H Q E h => by first | (obtain ⟨_, rfl, _⟩ := h; rfl) | (obtain ⟨_, _, rfl, _⟩ := h; rfl) | (obtain ⟨_, _, _, rfl, _⟩ := h; rfl) | (obtain ⟨_, _, _, _, rfl, _⟩ := h; rfl) | (obtain ⟨_, _, _, _, _, rfl, _⟩ := h; rfl) | (obtain ⟨_, _, _, _, _, _, rfl, _⟩ := h; rfl) | (obtain ⟨_, _, _, _, _, _, _, rfl, _⟩ := h; rfl) | (obtain ⟨_, _, _, _, _, _, _, _, rfl, _⟩ := h; rfl) | (obtain ⟨_, _, _, _, _, _, _, _, _, rfl, _⟩ := h; rfl) | (obtain ⟨_, _, _, _, _, _, _, _, _, _, rfl, _⟩ := h; rfl) | (obtain ⟨_, _, _, _, _, _, _, _, _, _, _, rfl, _⟩ := h; rfl) | (obtain ⟨_, _, _, _, _, _, _, _, _, _, _, _, rfl, _⟩ := h; rfl) | (obtain ⟨_, _, _, _, _, _, _, _, _, _, _, _, _, rfl, _⟩ := h; rfl) | (obtain ⟨_, _, _, _, _, _, _, _, _, _, _, _, _, _, rfl, _⟩ := h; rfl) | (obtain ⟨_, _, _, _, _, _, _, _, _, _, _, _, _, _, _, rfl, _⟩ := h; rfl) | (obtain ⟨_, _, _, _, _, _, _, _, _, _, _, _, _, _, _, _, rfl, _⟩ := h; rfl) | (obtain ⟨_, _, _, _, _, _, _, _, _, _, _, _, _, _, _, _, _, rfl, _⟩ := h; rfl) | (obtain ⟨_, _, _, _, _, _, _, _, _, _, _, _, _, _, _, _, _, _, rfl, _⟩ := h; rfl) | (obtain ⟨_, _, _, _, _, _, _, _, _, _, _, _, _, _, _, _, _, _, _, rfl, _⟩ := h; rfl) | (obtain ⟨_, _, _, _, _, _, _, _, _, _, _, _, _, _, _, _, _, _, _, _, rfl, _⟩ := h; rfl) | (obtain ⟨_, _, _, _, _, _, _, _, _, _, _, _, _, _, _, _, _, _, _, _, _, rfl, _⟩ := h; rfl) | (obtain ⟨_, _, _, _, _, _, _, _, _, _, _, _, _, _, _, _, _, _, _, _, _, _, rfl, _⟩ := h; rfl) | (obtain ⟨_, _, _, _, _, _, _, _, _, _, _, _, _, _, _, _, _, _, _, _, _, _, _, rfl, _⟩ := h; rfl) | (obtain ⟨_, _, _, _, _, _, _, _, _, _, _, _, _, _, _, _, _, _, _, _, _, _, _, _, rfl, _⟩ := h; rfl) | (obtain ⟨_, _, _, _, _, _, _, _, _, _, _, _, _, _, _, _, _, _, _, _, _, _, _, _, _, rfl, _⟩ := h; rfl)) (fun cdv A outer s H vs Q E hr h => ⟨_, d_grown_profile m_GREATEST c_first_outside cx_LimitExceeded cm2_Profile hr, p_grownX h⟩)
abbrev s_Profile___len__ : Stmt := inClass (top 19) 8
theorem sc_Profile___len__ : FnScope ["self"] ["self"] (defScope s_Profile___len__) := ⟨rfl, rfl, rfl, by decide +kernel, rfl, by decide +kernel, by decide +kernel⟩
theorem d_Profile___len__ {P : Program} {w : World} {K : PySem.W.Frag} {mg : Str → Option Value} {base : Heap} {C_Profile : Addr} {CX : CXT} {f : Addr} {cdv : Value} {A : Around} {outer : List Env} {s : Shared} {H : Hp} {E : XK} (m_len : mg "len" = none)
    (hr : Room 0 (A.deeper (envOfC "Profile.__len__" (defScope s_Profile___len__) s.heap.objs.size f cdv))) :
    PSs (cxOf CX P w K mg base ["self"] "Profile.__len__" (defScope s_Profile___len__) f cdv A outer s H E) (defBody s_Profile___len__) (t_Profile___len__ K C_Profile) :=
  (pss_one (ps_ret (pe_callB call_len_seq (by rfl) m_len (by decide +kernel) (pa_cons (pe_fld (pv 0) rfl) pa_nil))))
theorem ok_Profile___len__ {P : Program} {w : World} {K : PySem.W.Frag} {mg : Str → Option Value} {base : Heap} {C_Profile : Addr} {f : Addr} {fd : FuncData} (F : FunD K "__len__" "Profile.__len__" (defArgs s_Profile___len__) (defBody s_Profile___len__) (defScope s_Profile___len__) [] [] f fd) (m_len : mg "len" = none) : FnOk P w K mg base CX0 1 f fd ["self"] (spPLen K C_Profile) :=
  F.ok sc_Profile___len__ (fun vs H Q E h => by first | (obtain ⟨_, rfl, _⟩ := h; rfl) | (obtain ⟨_, _, rfl, _⟩ := h; rfl) | (obtain ⟨_, _, _, rfl, _⟩ := h; rfl) | (obtain ⟨_, _, _, _, rfl, _⟩ := h; rfl) | (obtain ⟨_, _, _, _, _, rfl, _⟩ := h; rfl) | (obtain ⟨_, _, _, _, _, _, rfl, _⟩ := h; rfl) | (obtain ⟨_, _, _, _, _, _, _, rfl, _⟩ := h; rfl) | (obtain ⟨_, _, _, _, _, _, _, _, rfl, _⟩ := h; rfl) | (obtain ⟨_, _, _, _, _, _, _, _, _, rfl, _⟩ := h; rfl) | (obtain ⟨_, _, _, _, _, _, _, _, _, _, rfl, _⟩ := h; rfl) | (obtain ⟨_, _, _, _, _, _, _, _, _, _, _, rfl, _⟩ := h; rfl) | (obtain ⟨_, _, _, _, _, _, _, _, _, _, _, _, rfl, _⟩ := h; rfl) | (obtain ⟨_, _, _, _, _, _, _, _, _, _, _, _, _, rfl, _⟩ := h; rfl) | (obtain ⟨_, _, _, _, _, _, _, _, _, _, _, _, _, _, rfl, _⟩ := h; rfl) | (obtain ⟨_, _, _, _, _, _, _, _, _, _, _, _, _, _, _, rfl, _⟩ := h; rfl) | (obtain ⟨_, _, _, _, _, _, _, _, _, _, _, _, _, _, _, _, rfl, _⟩ := h; rfl) | (obtain ⟨_, _, _, _, _, _, _, _, _, _, _, _, _, _, _, _, _, rfl, _⟩ := h; rfl) | (obtain ⟨_, _, _, _, _, _, _, _, _, _, _, _, _, _, _, _, _, _, rfl, _⟩ := h; rfl) | (obtain ⟨_, _, _, _, _, _, _, _, _, _, _, _, _, _, _, _, _, _, _, rfl, _⟩ := h; rfl) | (obtain ⟨_, _, _, _, _, _, _, _, _, _, _, _, _, _, _, _, _, _, _, _, rfl, _⟩ := h; rfl) | (obtain ⟨_, _, _, _, _, _, _, _, _, _, _, _, _, _, _, _, _, _, _, _, _, rfl, _⟩ := h; rfl) | (obtain ⟨_, _, _, _, _, _, _, _, _, _, _, _, _, _, _, _, _, _, _, _, _, _, rfl, _⟩ := h; rfl) | (obtain ⟨_, _, _, _, _, _, _, _, _, _, _, _, _, _, _, _, _, _, _, _, _, _, _, rfl, _⟩ := h; rfl) | (obtain ⟨_, _, _, _, _, _, _, _, _, _, _, _, _, _, _, _, _, _, _, _, _, _, _, _, rfl, _⟩ := h; rfl) | (obtain ⟨_, _, _, _, _, _, _, _, _, _, _, _, _, _, _, _, _, _, _, _, _, _, _, _, _, rfl, _⟩ := h; rfl)) (fun cdv A outer s H vs Q E hr h => ⟨_, d_Profile___len__ m_len hr, p_plen h⟩)
abbrev s_Profile_raised : Stmt := inClass (top 19) 5
theorem sc_Profile_raised : FnScope ["self", "column", "height", "heights"] ["self", "column", "height"] (defScope s_Profile_raised) := ⟨rfl, rfl, rfl, by decide +kernel, rfl, by decide +kernel, by decide +kernel⟩
theorem d_Profile_raised {P : Program} {w : World} {K : PySem.W.Frag} {mg : Str → Option Value} {base : Heap} {C_Profile : Addr} {C_LimitExceeded : Addr} {C_InvalidColumn : Addr} {C_InvalidNumber : Addr} {f : Addr} {cdv : Value} {A : Around} {outer : List Env} {s : Shared} {H : Hp} {E : XK} (m_len : mg "len" = none) (cu_len : CalU P w K mg base CX0 1 C_Profile "__len__" (spPLen K C_Profile)) (c_is_whole_within : Cal P w K mg base CX0 2 "is_whole_within" ["value", "least", "greatest"] (spWithin K)) (cx_InvalidColumn : CalX P w K mg base CX0 1 "InvalidColumn" C_InvalidColumn ["self", "value"] (spExc K C_InvalidColumn "IndexError" "IndexError.__new__" "IndexError.__init__" bm_IndexError "value") [] "IndexError" "IndexError.__new__" "IndexError.__init__" bm_IndexError) (m_GREATEST : ∃ u, mg "GREATEST" = some (.int 1000000000000000000000000000000 u)) (cx_InvalidNumber : CalX P w K mg base CX0 1 "InvalidNumber" C_InvalidNumber ["self", "value"] (spExc K C_InvalidNumber "ValueError" "ValueError.__new__" "ValueError.__init__" bm_ValueError "value") [] "ValueError" "ValueError.__new__" "ValueError.__init__" bm_ValueError) (m_list : mg "list" = none) (c_grown_profile : Cal P w K mg base (L2.CX P w) 7 "grown_profile" ["heights", "widths"] (spGrownX K C_Profile C_LimitExceeded))
    (hr : Room 7 (A.deeper (envOfC "Profile.raised" (defScope s_Profile_raised) s.heap.objs.size f cdv))) :
    PSs (cxOf (L2.CX P w) P w K mg base ["self", "column", "height", "heights"] "Profile.raised" (defScope s_Profile_raised) f cdv A outer s H E) (defBody s_Profile_raised) (t_Profile_raisedX K C_Profile C_LimitExceeded C_InvalidColumn C_InvalidNumber E) :=
  (pss_cons (ps_if (pt_not (pt_val (pe_cal c_is_whole_within (hr.mono (by decide)) rfl pass0 (pa_cons (pv 1) (pa_cons pe_int (pa_cons (pe_op op_sub (pe_callB (call_lenO cu_len (hr.mono (by decide)) pass0) (by rfl) m_len (by decide +kernel) (pa_cons (pv 0) pa_nil)) pe_int) pa_nil)))))) (pss_one (ps_raiseE (pmk_cal cx_InvalidColumn (hr.mono (by decide)) pass0 (by rfl) (pa_cons (pv 1) pa_nil)) (takes_of rfl rfl rfl rfl))) pss_nil)
    (pss_cons (ps_if (pt_not (pt_val (pe_cal c_is_whole_within (hr.mono (by decide)) rfl pass0 (pa_cons (pv 2) (pa_cons pe_int (pa_cons (pe_gint m_GREATEST rfl) pa_nil)))))) (pss_one (ps_raiseE (pmk_cal cx_InvalidNumber (hr.mono (by decide)) pass0 (by rfl) (pa_cons (pv 2) pa_nil)) (takes_of rfl rfl rfl rfl))) pss_nil)
    (pss_cons (ps_set (i := 3) sc_Profile_raised.nd rfl (by first | exact Or.inl rfl | exact Or.inr rfl) (pe_callTy call_list_of (by rfl) m_list (by decide +kernel) (pa_cons (pe_fld (pv 0) rfl) pa_nil)))
    (pss_cons (ps_asg (pe_op op_add (pe_ix ix_list (pv 3) (pv 1) (fun _ _ => rfl)) (pv 2)) (pg_sub (pv 3) (pv 1) set_list))
    (pss_one (ps_ret (pe_cal c_grown_profile (hr.mono (by decide)) rfl (passes_call (takes_of rfl rfl rfl rfl) (fun _ _ _ _ h => h)) (pa_cons (pv 3) (pa_cons (pe_fld (pv 0) rfl) pa_nil)))))))))
theorem ok_Profile_raised {P : Program} {w : World} {K : PySem.W.Frag} {mg : Str → Option Value} {base : Heap} {C_Profile : Addr} {C_LimitExceeded : Addr} {C_InvalidColumn : Addr} {C_InvalidNumber : Addr} {f : Addr} {fd : FuncData} (F : FunD K "raised" "Profile.raised" (defArgs s_Profile_raised) (defBody s_Profile_raised) (defScope s_Profile_raised) [] [] f fd) (m_len : mg "len" = none) (cu_len : CalU P w K mg base CX0 1 C_Profile "__len__" (spPLen K C_Profile)) (c_is_whole_within : Cal P w K mg base CX0 2 "is_whole_within" ["value", "least", "greatest"] (spWithin K)) (cx_InvalidColumn : CalX P w K mg base CX0 1 "InvalidColumn" C_InvalidColumn ["self", "value"] (spExc K C_InvalidColumn "IndexError" "IndexError.__new__" "IndexError.__init__" bm_IndexError "value") [] "IndexError" "IndexError.__new__" "IndexError.__init__" bm_IndexError) (m_GREATEST : ∃ u, mg "GREATEST" = some (.int 1000000000000000000000000000000 u)) (cx_InvalidNumber : CalX P w K mg base CX0 1 "InvalidNumber" C_InvalidNumber ["self", "value"] (spExc K C_InvalidNumber "ValueError" "ValueError.__new__" "ValueError.__init__" bm_ValueError "value") [] "ValueError" "ValueError.__new__" "ValueError.__init__" bm_ValueError) (m_list : mg "list" = none) (c_grown_profile : Cal P w K mg base (L2.CX P w) 7 "grown_profile" ["heights", "widths"] (spGrownX K C_Profile C_LimitExceeded)) : FnOk P w K mg base (L2.CX P w) 8 f fd ["self", "column", "height"] (spRaisX K C_Profile C_LimitExceeded C_InvalidColumn C_InvalidNumber) :=
  F.ok sc_Profile_raised (fun vs H Q E h => by first | (obtain ⟨_, rfl, _⟩ := h; rfl) | (obtain ⟨_, _, rfl, _⟩ := h; rfl) | (obtain ⟨_, _, _, rfl, _⟩ := h; rfl) | (obtain ⟨_, _, _, _, rfl, _⟩ := h; rfl) | (obtain ⟨_, _, _, _, _, rfl, _⟩ := h; rfl) | (obtain ⟨_, _, _, _, _, _, rfl, _⟩ := h; rfl) | (obtain ⟨_, _, _, _, _, _, _, rfl, _⟩ := h; rfl) | (obtain ⟨_, _, _, _, _, _, _, _, rfl, _⟩ := h; rfl) | (obtain ⟨_, _, _, _, _, _, _, _, _, rfl, _⟩ := h; rfl) | (obtain ⟨_, _, _, _, _, _, _, _, _, _, rfl, _⟩ := h; rfl) | (obtain ⟨_, _, _, _, _, _, _, _, _, _, _, rfl, _⟩ := h; rfl) | (obtain ⟨_, _, _, _, _, _, _, _, _, _, _, _, rfl, _⟩ := h; rfl) | (obtain ⟨_, _, _, _, _, _, _, _, _, _, _, _, _, rfl, _⟩ := h; rfl) | (obtain ⟨_, _, _, _, _, _, _, _, _, _, _, _, _, _, rfl, _⟩ := h; rfl) | (obtain ⟨_, _, _, _, _, _, _, _, _, _, _, _, _, _, _, rfl, _⟩ := h; rfl) | (obtain ⟨_, _, _, _, _, _, _, _, _, _, _, _, _, _, _, _, rfl, _⟩ := h; rfl) | (obtain ⟨_, _, _, _, _, _, _, _, _, _, _, _, _, _, _, _, _, rfl, _⟩ := h; rfl) | (obtain ⟨_, _, _, _, _, _, _, _, _, _, _, _, _, _, _, _, _, _, rfl, _⟩ := h; rfl) | (obtain ⟨_, _, _, _, _, _, _, _, _, _, _, _, _, _, _, _, _, _, _, rfl, _⟩ := h; rfl) | (obtain ⟨_, _, _, _, _, _, _, _, _, _, _, _, _, _, _, _, _, _, _, _, rfl, _⟩ := h; rfl) | (obtain ⟨_, _, _, _, _, _, _, _, _, _, _, _, _, _, _, _, _, _, _, _, _, rfl, _⟩ := h; rfl) | (obtain ⟨_, _, _, _, _, _, _, _, _, _, _, _, _, _, _, _, _, _, _, _, _, _, rfl, _⟩ := h; rfl) | (obtain ⟨_, _, _, _, _, _, _, _, _, _, _, _, _, _, _, _, _, _, _, _, _, _, _, rfl, _⟩ := h; rfl) | (obtain ⟨_, _, _, _, _, _, _, _, _, _, _, _, _, _, _, _, _, _, _, _, _, _, _, _, rfl, _⟩ := h; rfl) | (obtain ⟨_, _, _, _, _, _, _, _, _, _, _, _, _, _, _, _, _, _, _, _, _, _, _, _, _, rfl, _⟩ := h; rfl)) (fun cdv A outer s H vs Q E hr h => ⟨_, d_Profile_raised m_len cu_len c_is_whole_within cx_InvalidColumn m_GREATEST cx_InvalidNumber m_list c_grown_profile hr, p_raisX h⟩)
abbrev s_common_divisor : Stmt := top 21
theorem sc_common_divisor : FnScope ["first", "second"] ["first", "second"] (defScope s_common_divisor) := ⟨rfl, rfl, rfl, by decide +kernel, rfl, by decide +kernel, by decide +kernel⟩
theorem d_common_divisor {P : Program} {w : World} {K : PySem.W.Frag} {mg : Str → Option Value} {base : Heap} {CX : CXT} {f : Addr} {cdv : Value} {A : Around} {outer : List Env} {s : Shared} {H : Hp} {E : XK} 
    (hr : Room 0 (A.deeper (envOfC "common_divisor" (defScope s_common_divisor) s.heap.objs.size f cdv))) :
    PSs (cxOf CX P w K mg base ["first", "second"] "common_divisor" (defScope s_common_divisor) f cdv A outer s H E) (defBody s_common_divisor) (t_common_divisor K) :=
  (pss_cons (ps_while (passes_of rfl) (pt_cmpR op_ne (pv 1) pe_int (nomark _)) (pss_one (ps_par (by rfl) sc_common_divisor.nd rfl rfl (by decide) rfl rfl (pa_cons (pv 1) (pa_cons (pe_op op_mod (pv 0) (pv 1)) pa_nil)) (by rfl))))
    (pss_one (ps_ret (pv 0))))
theorem ok_common_divisor {P : Program} {w : World} {K : PySem.W.Frag} {mg : Str → Option Value} {base : Heap} {f : Addr} {fd : FuncData} (F : FunD K "common_divisor" "common_divisor" (defArgs s_common_divisor) (defBody s_common_divisor) (defScope s_common_divisor) [] [] f fd)  : FnOk P w K mg base CX0 1 f fd ["first", "second"] (spGcd K) :=
  F.ok sc_common_divisor (fun vs H Q E h => by first | (obtain ⟨_, rfl, _⟩ := h; rfl) | (obtain ⟨_, _, rfl, _⟩ := h; rfl) | (obtain ⟨_, _, _, rfl, _⟩ := h; rfl) | (obtain ⟨_, _, _, _, rfl, _⟩ := h; rfl) | (obtain ⟨_, _, _, _, _, rfl, _⟩ := h; rfl) | (obtain ⟨_, _, _, _, _, _, rfl, _⟩ := h; rfl) | (obtain ⟨_, _, _, _, _, _, _, rfl, _⟩ := h; rfl) | (obtain ⟨_, _, _, _, _, _, _, _, rfl, _⟩ := h; rfl) | (obtain ⟨_, _, _, _, _, _, _, _, _, rfl, _⟩ := h; rfl) | (obtain ⟨_, _, _, _, _, _, _, _, _, _, rfl, _⟩ := h; rfl) | (obtain ⟨_, _, _, _, _, _, _, _, _, _, _, rfl, _⟩ := h; rfl) | (obtain ⟨_, _, _, _, _, _, _, _, _, _, _, _, rfl, _⟩ := h; rfl) | (obtain ⟨_, _, _, _, _, _, _, _, _, _, _, _, _, rfl, _⟩ := h; rfl) | (obtain ⟨_, _, _, _, _, _, _, _, _, _, _, _, _, _, rfl, _⟩ := h; rfl) | (obtain ⟨_, _, _, _, _, _, _, _, _, _, _, _, _, _, _, rfl, _⟩ := h; rfl) | (obtain ⟨_, _, _, _, _, _, _, _, _, _, _, _, _, _, _, _, rfl, _⟩ := h; rfl) | (obtain ⟨_, _, _, _, _, _, _, _, _, _, _, _, _, _, _, _, _, rfl, _⟩ := h; rfl) | (obtain ⟨_, _, _, _, _, _, _, _, _, _, _, _, _, _, _, _, _, _, rfl, _⟩ := h; rfl) | (obtain ⟨_, _, _, _, _, _, _, _, _, _, _, _, _, _, _, _, _, _, _, rfl, _⟩ := h; rfl) | (obtain ⟨_, _, _, _, _, _, _, _, _, _, _, _, _, _, _, _, _, _, _, _, rfl, _⟩ := h; rfl) | (obtain ⟨_, _, _, _, _, _, _, _, _, _, _, _, _, _, _, _, _, _, _, _, _, rfl, _⟩ := h; rfl) | (obtain ⟨_, _, _, _, _, _, _, _, _, _, _, _, _, _, _, _, _, _, _, _, _, _, rfl, _⟩ := h; rfl) | (obtain ⟨_, _, _, _, _, _, _, _, _, _, _, _, _, _, _, _, _, _, _, _, _, _, _, rfl, _⟩ := h; rfl) | (obtain ⟨_, _, _, _, _, _, _, _, _, _, _, _, _, _, _, _, _, _, _, _, _, _, _, _, rfl, _⟩ := h; rfl) | (obtain ⟨_, _, _, _, _, _, _, _, _, _, _, _, _, _, _, _, _, _, _, _, _, _, _, _, _, rfl, _⟩ := h; rfl)) (fun cdv A outer s H vs Q E hr h => ⟨_, d_common_divisor  hr, p_gcd h⟩)
abbrev s_gap : Stmt := top 23
theorem sc_gap : FnScope ["left", "right"] ["left", "right"] (defScope s_gap) := ⟨rfl, rfl, rfl, by decide +kernel, rfl, by decide +kernel, by decide +kernel⟩
theorem d_gap {P : Program} {w : World} {K : PySem.W.Frag} {mg : Str → Option Value} {base : Heap} {C_Ratio : Addr} {CX : CXT} {f : Addr} {cdv : Value} {A : Around} {outer : List Env} {s : Shared} {H : Hp} {E : XK} 
    (hr : Room 0 (A.deeper (envOfC "gap" (defScope s_gap) s.heap.objs.size f cdv))) :
    PSs (cxOf CX P w K mg base ["left", "right"] "gap" (defScope s_gap) f cdv A outer s H E) (defBody s_gap) (t_gap K C_Ratio) :=
  (pss_one (ps_ret (pe_op op_sub (pe_op op_mulW (pe_fld (pv 0) rfl) (pe_fld (pv 1) rfl)) (pe_op op_mulW (pe_fld (pv 1) rfl) (pe_fld (pv 0) rfl)))))
theorem ok_gap {P : Program} {w : World} {K : PySem.W.Frag} {mg : Str → Option Value} {base : Heap} {C_Ratio : Addr} {f : Addr} {fd : FuncData} (F : FunD K "gap" "gap" (defArgs s_gap) (defBody s_gap) (defScope s_gap) [] [] f fd)  : FnOk P w K mg base CX0 1 f fd ["left", "right"] (spGap K C_Ratio) :=
  F.ok sc_gap (fun vs H Q E h => by first | (obtain ⟨_, rfl, _⟩ := h; rfl) | (obtain ⟨_, _, rfl, _⟩ := h; rfl) | (obtain ⟨_, _, _, rfl, _⟩ := h; rfl) | (obtain ⟨_, _, _, _, rfl, _⟩ := h; rfl) | (obtain ⟨_, _, _, _, _, rfl, _⟩ := h; rfl) | (obtain ⟨_, _, _, _, _, _, rfl, _⟩ := h; rfl) | (obtain ⟨_, _, _, _, _, _, _, rfl, _⟩ := h; rfl) | (obtain ⟨_, _, _, _, _, _, _, _, rfl, _⟩ := h; rfl) | (obtain ⟨_, _, _, _, _, _, _, _, _, rfl, _⟩ := h; rfl) | (obtain ⟨_, _, _, _, _, _, _, _, _, _, rfl, _⟩ := h; rfl) | (obtain ⟨_, _, _, _, _, _, _, _, _, _, _, rfl, _⟩ := h; rfl) | (obtain ⟨_, _, _, _, _, _, _, _, _, _, _, _, rfl, _⟩ := h; rfl) | (obtain ⟨_, _, _, _, _, _, _, _, _, _, _, _, _, rfl, _⟩ := h; rfl) | (obtain ⟨_, _, _, _, _, _, _, _, _, _, _, _, _, _, rfl, _⟩ := h; rfl) | (obtain ⟨_, _, _, _, _, _, _, _, _, _, _, _, _, _, _, rfl, _⟩ := h; rfl) | (obtain ⟨_, _, _, _, _, _, _, _, _, _, _, _, _, _, _, _, rfl, _⟩ := h; rfl) | (obtain ⟨_, _, _, _, _, _, _, _, _, _, _, _, _, _, _, _, _, rfl, _⟩ := h; rfl) | (obtain ⟨_, _, _, _, _, _, _, _, _, _, _, _, _, _, _, _, _, _, rfl, _⟩ := h; rfl) | (obtain ⟨_, _, _, _, _, _, _, _, _, _, _, _, _, _, _, _, _, _, _, rfl, _⟩ := h; rfl) | (obtain ⟨_, _, _, _, _, _, _, _, _, _, _, _, _, _, _, _, _, _, _, _, rfl, _⟩ := h; rfl) | (obtain ⟨_, _, _, _, _, _, _, _, _, _, _, _, _, _, _, _, _, _, _, _, _, rfl, _⟩ := h; rfl) | (obtain ⟨_, _, _, _, _, _, _, _, _, _, _, _, _, _, _, _, _, _, _, _, _, _, rfl, _⟩ := h; rfl) | (obtain ⟨_, _, _, _, _, _, _, _, _, _, _, _, _, _, _, _, _, _, _, _, _, _, _, rfl, _⟩ := h; rfl) | (obtain ⟨_, _, _, _, _, _, _, _, _, _, _, _, _, _, _, _, _, _, _, _, _, _, _, _, rfl, _⟩ := h; rfl) | (obtain ⟨_, _, _, _, _, _, _, _, _, _, _, _, _, _, _, _, _, _, _, _, _, _, _, _, _, rfl, _⟩ := h; rfl)) (fun cdv A outer s H vs Q E hr h => ⟨_, d_gap  hr, p_gap h⟩)
abbrev s_Ratio___init__ : Stmt := inClass (top 24) 0
theorem sc_Ratio___init__ : FnScope ["self", "numerator", "denominator", "divisor"] ["self", "numerator", "denominator"] (defScope s_Ratio___init__) := ⟨rfl, rfl, rfl, by decide +kernel, rfl, by decide +kernel, by decide +kernel⟩
theorem d_Ratio___init__ {P : Program} {w : World} {K : PySem.W.Frag} {mg : Str → Option Value} {base : Heap} {C_Ratio : Addr} {CX : CXT} {f : Addr} {cdv : Value} {A : Around} {outer : List Env} {s : Shared} {H : Hp} {E : XK} (c_is_whole : Cal P w K mg base CX0 1 "is_whole" ["value"] (spWhole K)) (m_abs : mg "abs" = none) (c_common_divisor : Cal P w K mg base CX0 1 "common_divisor" ["first", "second"] (spGcd K))
    (hr : Room 1 (A.deeper (envOfC "Ratio.__init__" (defScope s_Ratio___init__) s.heap.objs.size f cdv))) :
    PSs (cxOf CX P w K mg base ["self", "numerator", "denominator", "divisor"] "Ratio.__init__" (defScope s_Ratio___init__) f cdv A outer s H E) (defBody s_Ratio___init__) (t_Ratio___init__ K C_Ratio) :=
  (pss_cons (ps_if (pt_not (pt_val (pe_cal c_is_whole (hr.mono (by decide)) rfl pass0 (pa_cons (pv 1) pa_nil)))) (pss_one ps_never) pss_nil)
    (pss_cons (ps_if (PW.pt (pw_or (pt_not (pt_val (pe_cal c_is_whole (hr.mono (by decide)) rfl pass0 (pa_cons (pv 2) pa_nil)))) (pw_or1 (pt_cmpR op_eq (pv 2) pe_int (nomark _))))) (pss_one ps_never) pss_nil)
    (pss_cons (ps_set (i := 3) sc_Ratio___init__.nd rfl (by first | exact Or.inl rfl | exact Or.inr rfl) (pe_cal c_common_divisor (hr.mono (by decide)) rfl pass0 (pa_cons (pe_callB call_abs (by rfl) m_abs (by decide +kernel) (pa_cons (pv 1) pa_nil)) (pa_cons (pe_callB call_abs (by rfl) m_abs (by decide +kernel) (pa_cons (pv 2) pa_nil)) pa_nil))))
    (pss_cons (ps_if (pt_cmpR op_lt (pv 2) pe_int (nomark _)) (pss_one (ps_set (i := 3) sc_Ratio___init__.nd rfl (by first | exact Or.inl rfl | exact Or.inr rfl) (pe_un un_neg (pv 3)))) pss_nil)
    (pss_cons (ps_fld (pv 0) (pe_op op_fdivW (pv 1) (pv 3)) rfl)
    (pss_one (ps_fld (pv 0) (pe_op op_fdivW (pv 2) (pv 3)) rfl)))))))
theorem ok_Ratio___init__ {P : Program} {w : World} {K : PySem.W.Frag} {mg : Str → Option Value} {base : Heap} {C_Ratio : Addr} {f : Addr} {fd : FuncData} (F : FunD K "__init__" "Ratio.__init__" (defArgs s_Ratio___init__) (defBody s_Ratio___init__) (defScope s_Ratio___init__) [.int 1] [] f fd) (c_is_whole : Cal P w K mg base CX0 1 "is_whole" ["value"] (spWhole K)) (m_abs : mg "abs" = none) (c_common_divisor : Cal P w K mg base CX0 1 "common_divisor" ["first", "second"] (spGcd K)) : FnOk P w K mg base CX0 2 f fd ["self", "numerator", "denominator"] (spRInit K C_Ratio) :=
  F.ok sc_Ratio___init__ (fun vs H Q E h => by first | (obtain ⟨_, rfl, _⟩ := h; rfl) | (obtain ⟨_, _, rfl, _⟩ := h; rfl) | (obtain ⟨_, _, _, rfl, _⟩ := h; rfl) | (obtain ⟨_, _, _, _, rfl, _⟩ := h; rfl) | (obtain ⟨_, _, _, _, _, rfl, _⟩ := h; rfl) | (obtain ⟨_, _, _, _, _, _, rfl, _⟩ := h; rfl) | (obtain ⟨_, _, _, _, _, _, _, rfl, _⟩ := h; rfl) | (obtain ⟨_, _, _, _, _, _, _, _, rfl, _⟩ := h; rfl) | (obtain ⟨_, _, _, _, _, _, _, _, _, rfl, _⟩ := h; rfl) | (obtain ⟨_, _, _, _, _, _, _, _, _, _, rfl, _⟩ := h; rfl) | (obtain ⟨_, _, _, _, _, _, _, _, _, _, _, rfl, _⟩ := h; rfl) | (obtain ⟨_, _, _, _, _, _, _, _, _, _, _, _, rfl, _⟩ := h; rfl) | (obtain ⟨_, _, _, _, _, _, _, _, _, _, _, _, _, rfl, _⟩ := h; rfl) | (obtain ⟨_, _, _, _, _, _, _, _, _, _, _, _, _, _, rfl, _⟩ := h; rfl) | (obtain ⟨_, _, _, _, _, _, _, _, _, _, _, _, _, _, _, rfl, _⟩ := h; rfl) | (obtain ⟨_, _, _, _, _, _, _, _, _, _, _, _, _, _, _, _, rfl, _⟩ := h; rfl) | (obtain ⟨_, _, _, _, _, _, _, _, _, _, _, _, _, _, _, _, _, rfl, _⟩ := h; rfl) | (obtain ⟨_, _, _, _, _, _, _, _, _, _, _, _, _, _, _, _, _, _, rfl, _⟩ := h; rfl) | (obtain ⟨_, _, _, _, _, _, _, _, _, _, _, _, _, _, _, _, _, _, _, rfl, _⟩ := h; rfl) | (obtain ⟨_, _, _, _, _, _, _, _, _, _, _, _, _, _, _, _, _, _, _, _, rfl, _⟩ := h; rfl) | (obtain ⟨_, _, _, _, _, _, _, _, _, _, _, _, _, _, _, _, _, _, _, _, _, rfl, _⟩ := h; rfl) | (obtain ⟨_, _, _, _, _, _, _, _, _, _, _, _, _, _, _, _, _, _, _, _, _, _, rfl, _⟩ := h; rfl) | (obtain ⟨_, _, _, _, _, _, _, _, _, _, _, _, _, _, _, _, _, _, _, _, _, _, _, rfl, _⟩ := h; rfl) | (obtain ⟨_, _, _, _, _, _, _, _, _, _, _, _, _, _, _, _, _, _, _, _, _, _, _, _, rfl, _⟩ := h; rfl) | (obtain ⟨_, _, _, _, _, _, _, _, _, _, _, _, _, _, _, _, _, _, _, _, _, _, _, _, _, rfl, _⟩ := h; rfl)) (fun cdv A outer s H vs Q E hr h => ⟨_, d_Ratio___init__ c_is_whole m_abs c_common_divisor hr, p_rinit h⟩)
abbrev s_Ratio___repr__ : Stmt := inClass (top 24) 22
theorem sc_Ratio___repr__ : FnScope ["self"] ["self"] (defScope s_Ratio___repr__) := ⟨rfl, rfl, rfl, by decide +kernel, rfl, by decide +kernel, by decide +kernel⟩
theorem d_Ratio___repr__ {P : Program} {w : World} {K : PySem.W.Frag} {mg : Str → Option Value} {base : Heap} {C_Ratio : Addr} {f : Addr} {cdv : Value} {A : Around} {outer : List Env} {s : Shared} {H : Hp} {E : XK}  :
    PSs (cxC P w K mg base ["self"] "Ratio.__repr__" (defScope s_Ratio___repr__) f cdv A outer s H E) (defBody s_Ratio___repr__) (t_Ratio___repr__ K C_Ratio) :=
  (pss_one (ps_ret (pe_join (PJ.cons pe_str (PJ.cons (pe_fmt (pe_fld (pv 0) rfl)) (PJ.cons pe_str (PJ.cons (pe_fmt (pe_fld (pv 0) rfl)) (PJ.cons pe_str PJ.nil))))))))
theorem ok_Ratio___repr__ {P : Program} {w : World} {K : PySem.W.Frag} {mg : Str → Option Value} {base : Heap} {C_Ratio : Addr} {f : Addr} {fd : FuncData} (F : FunD K "__repr__" "Ratio.__repr__" (defArgs s_Ratio___repr__) (defBody s_Ratio___repr__) (defScope s_Ratio___repr__) [] [] f fd)  : FnC P w K mg base 1 f fd ["self"] (spRRepr K C_Ratio) :=
  Rv.FunD.okC F sc_Ratio___repr__ (fun vs H Q E h => by first | (obtain ⟨_, rfl, _⟩ := h; rfl) | (obtain ⟨_, _, rfl, _⟩ := h; rfl) | (obtain ⟨_, _, _, rfl, _⟩ := h; rfl) | (obtain ⟨_, _, _, _, rfl, _⟩ := h; rfl) | (obtain ⟨_, _, _, _, _, rfl, _⟩ := h; rfl) | (obtain ⟨_, _, _, _, _, _, rfl, _⟩ := h; rfl) | (obtain ⟨_, _, _, _, _, _, _, rfl, _⟩ := h; rfl) | (obtain ⟨_, _, _, _, _, _, _, _, rfl, _⟩ := h; rfl) | (obtain ⟨_, _, _, _, _, _, _, _, _, rfl, _⟩ := h; rfl) | (obtain ⟨_, _, _, _, _, _, _, _, _, _, rfl, _⟩ := h; rfl) | (obtain ⟨_, _, _, _, _, _, _, _, _, _, _, rfl, _⟩ := h; rfl) | (obtain ⟨_, _, _, _, _, _, _, _, _, _, _, _, rfl, _⟩ := h; rfl) | (obtain ⟨_, _, _, _, _, _, _, _, _, _, _, _, _, rfl, _⟩ := h; rfl) | (obtain ⟨_, _, _, _, _, _, _, _, _, _, _, _, _, _, rfl, _⟩ := h; rfl) | (obtain ⟨_, _, _, _, _, _, _, _, _, _, _, _, _, _, _, rfl, _⟩ := h; rfl) | (obtain ⟨_, _, _, _, _, _, _, _, _, _, _, _, _, _, _, _, rfl, _⟩ := h; rfl) | (obtain ⟨_, _, _, _, _, _, _, _, _, _, _, _, _, _, _, _, _, rfl, _⟩ := h; rfl) | (obtain ⟨_, _, _, _, _, _, _, _, _, _, _, _, _, _, _, _, _, _, rfl, _⟩ := h; rfl) | (obtain ⟨_, _, _, _, _, _, _, _, _, _, _, _, _, _, _, _, _, _, _, rfl, _⟩ := h; rfl) | (obtain ⟨_, _, _, _, _, _, _, _, _, _, _, _, _, _, _, _, _, _, _, _, rfl, _⟩ := h; rfl) | (obtain ⟨_, _, _, _, _, _, _, _, _, _, _, _, _, _, _, _, _, _, _, _, _, rfl, _⟩ := h; rfl) | (obtain ⟨_, _, _, _, _, _, _, _, _, _, _, _, _, _, _, _, _, _, _, _, _, _, rfl, _⟩ := h; rfl) | (obtain ⟨_, _, _, _, _, _, _, _, _, _, _, _, _, _, _, _, _, _, _, _, _, _, _, rfl, _⟩ := h; rfl) | (obtain ⟨_, _, _, _, _, _, _, _, _, _, _, _, _, _, _, _, _, _, _, _, _, _, _, _, rfl, _⟩ := h; rfl) | (obtain ⟨_, _, _, _, _, _, _, _, _, _, _, _, _, _, _, _, _, _, _, _, _, _, _, _, _, rfl, _⟩ := h; rfl)) (fun cdv A outer s H vs Q E h => ⟨_, d_Ratio___repr__ , p_rrepr h⟩)
abbrev s_as_ratio : Stmt := top 22
theorem sc_as_ratio : FnScope ["value"] ["value"] (defScope s_as_ratio) := ⟨rfl, rfl, rfl, by decide +kernel, rfl, by decide +kernel, by decide +kernel⟩
theorem d_as_ratio {P : Program} {w : World} {K : PySem.W.Frag} {mg : Str → Option Value} {base : Heap} {C_Ratio : Addr} {CX : CXT} {f : Addr} {cdv : Value} {A : Around} {outer : List Env} {s : Shared} {H : Hp} {E : XK} (g_Ratio : mg "Ratio" = some (.ref C_Ratio)) (m_isinstance : mg "isinstance" = none) (c_is_whole : Cal P w K mg base CX0 1 "is_whole" ["value"] (spWhole K)) (cm1_Ratio : CalM P w K mg base CX0 2 "Ratio" C_Ratio ["self", "numerator", "denominator"] (spRInit K C_Ratio) [.int 1])
    (hr : Room 3 (A.deeper (envOfC "as_ratio" (defScope s_as_ratio) s.heap.objs.size f cdv))) :
    PSs (cxOf CX P w K mg base ["value"] "as_ratio" (defScope s_as_ratio) f cdv A outer s H E) (defBody s_as_ratio) (t_as_ratio K C_Ratio) :=
  (pss_cons (ps_if (pt_val (pe_callB call_isi (by rfl) m_isinstance (by decide +kernel) (pa_cons (pv 0) (pa_cons (pe_glob rfl g_Ratio rfl) pa_nil)))) (pss_one (ps_ret (pv 0))) pss_nil)
    (pss_cons (ps_if (pt_val (pe_cal c_is_whole (hr.mono (by decide)) rfl pass0 (pa_cons (pv 0) pa_nil))) (pss_one (ps_ret (pe_calm cm1_Ratio (hr.mono (by decide)) rfl pass0 (pa_cons (pv 0) pa_nil)))) pss_nil)
    (pss_one (ps_ret pe_non))))
theorem ok_as_ratio {P : Program} {w : World} {K : PySem.W.Frag} {mg : Str → Option Value} {base : Heap} {C_Ratio : Addr} {f : Addr} {fd : FuncData} (F : FunD K "as_ratio" "as_ratio" (defArgs s_as_ratio) (defBody s_as_ratio) (defScope s_as_ratio) [] [] f fd) (g_Ratio : mg "Ratio" = some (.ref C_Ratio)) (m_isinstance : mg "isinstance" = none) (c_is_whole : Cal P w K mg base CX0 1 "is_whole" ["value"] (spWhole K)) (cm1_Ratio : CalM P w K mg base CX0 2 "Ratio" C_Ratio ["self", "numerator", "denominator"] (spRInit K C_Ratio) [.int 1]) : FnOk P w K mg base CX0 4 f fd ["value"] (spAsR K C_Ratio) :=
  F.ok sc_as_ratio (fun vs H Q E h => by first | (obtain ⟨_, rfl, _⟩ := h; rfl) | (obtain ⟨_, _, rfl, _⟩ := h; rfl) | (obtain ⟨_, _, _, rfl, _⟩ := h; rfl) | (obtain ⟨_, _, _, _, rfl, _⟩ := h; rfl) | (obtain ⟨_, _, _, _, _, rfl, _⟩ := h; rfl) | (obtain ⟨_, _, _, _, _, _, rfl, _⟩ := h; rfl) | (obtain ⟨_, _, _, _, _, _, _, rfl, _⟩ := h; rfl) | (obtain ⟨_, _, _, _, _, _, _, _, rfl, _⟩ := h; rfl) | (obtain ⟨_, _, _, _, _, _, _, _, _, rfl, _⟩ := h; rfl) | (obtain ⟨_, _, _, _, _, _, _, _, _, _, rfl, _⟩ := h; rfl) | (obtain ⟨_, _, _, _, _, _, _, _, _, _, _, rfl, _⟩ := h; rfl) | (obtain ⟨_, _, _, _, _, _, _, _, _, _, _, _, rfl, _⟩ := h; rfl) | (obtain ⟨_, _, _, _, _, _, _, _, _, _, _, _, _, rfl, _⟩ := h; rfl) | (obtain ⟨_, _, _, _, _, _, _, _, _, _, _, _, _, _, rfl, _⟩ := h; rfl) | (obtain ⟨_, _, _, _, _, _, _, _, _, _, _, _, _, _, _, rfl, _⟩ := h; rfl) | (obtain ⟨_, _, _, _, _, _, _, _, _, _, _, _, _, _, _, _, rfl, _⟩ := h; rfl) | (obtain ⟨_, _, _, _, _, _, _, _, _, _, _, _, _, _, _, _, _, rfl, _⟩ := h; rfl) | (obtain ⟨_, _, _, _, _, _, _, _, _, _, _, _, _, _, _, _, _, _, rfl, _⟩ := h; rfl) | (obtain ⟨_, _, _, _, _, _, _, _, _, _, _, _, _, _, _, _, _, _, _, rfl, _⟩ := h; rfl) | (obtain ⟨_, _, _, _, _, _, _, _, _, _, _, _, _, _, _, _, _, _, _, _, rfl, _⟩ := h; rfl) | (obtain ⟨_, _, _, _, _, _, _, _, _, _, _, _, _, _, _, _, _, _, _, _, _, rfl, _⟩ := h; rfl) | (obtain ⟨_, _, _, _, _, _, _, _, _, _, _, _, _, _, _, _, _, _, _, _, _, _, rfl, _⟩ := h; rfl) | (obtain ⟨_, _, _, _, _, _, _, _, _, _, _, _, _, _, _, _, _, _, _, _, _, _, _, rfl, _⟩ := h; rfl) | (obtain ⟨_, _, _, _, _, _, _, _, _, _, _, _, _, _, _, _, _, _, _, _, _, _, _, _, rfl, _⟩ := h; rfl) | (obtain ⟨_, _, _, _, _, _, _, _, _, _, _, _, _, _, _, _, _, _, _, _, _, _, _, _, _, rfl, _⟩ := h; rfl)) (fun cdv A outer s H vs Q E hr h => ⟨_, d_as_ratio g_Ratio m_isinstance c_is_whole cm1_Ratio hr, p_asR h⟩)
abbrev s_Ratio___sub__ : Stmt := inClass (top 24) 8
theorem sc_Ratio___sub__ : FnScope ["self", "other", "right"] ["self", "other"] (defScope s_Ratio___sub__) := ⟨rfl, rfl, rfl, by decide +kernel, rfl, by decide +kernel, by decide +kernel⟩
theorem d_Ratio___sub__ {P : Program} {w : World} {K : PySem.W.Frag} {mg : Str → Option Value} {base : Heap} {C_Ratio : Addr} {CX : CXT} {f : Addr} {cdv : Value} {A : Around} {outer : List Env} {s : Shared} {H : Hp} {E : XK} (c_as_ratio : Cal P w K mg base CX0 4 "as_ratio" ["value"] (spAsR K C_Ratio)) (c_gap : Cal P w K mg base CX0 1 "gap" ["left", "right"] (spGap K C_Ratio)) (cm2_Ratio : CalM P w K mg base CX0 2 "Ratio" C_Ratio ["self", "numerator", "denominator"] (spRInit K C_Ratio) [])
    (hr : Room 4 (A.deeper (envOfC "Ratio.__sub__" (defScope s_Ratio___sub__) s.heap.objs.size f cdv))) :
    PSs (cxOf CX P w K mg base ["self", "other", "right"] "Ratio.__sub__" (defScope s_Ratio___sub__) f cdv A outer s H E) (defBody s_Ratio___sub__) (t_Ratio___sub__ K C_Ratio) :=
  (pss_cons (ps_set (i := 2) sc_Ratio___sub__.nd rfl (by first | exact Or.inl rfl | exact Or.inr rfl) (pe_cal c_as_ratio (hr.mono (by decide)) rfl pass0 (pa_cons (pv 1) pa_nil)))
    (pss_cons (ps_if (pt_cmpR op_isN (pv 2) pe_non (nomark _)) (pss_one ps_never) pss_nil)
    (pss_one (ps_ret (pe_calm cm2_Ratio (hr.mono (by decide)) rfl pass0 (pa_cons (pe_cal c_gap (hr.mono (by decide)) rfl pass0 (pa_cons (pv 0) (pa_cons (pv 2) pa_nil))) (pa_cons (pe_op op_mulW (pe_fld (pv 0) rfl) (pe_fld (pv 2) rfl)) pa_nil)))))))
theorem ok_Ratio___sub__ {P : Program} {w : World} {K : PySem.W.Frag} {mg : Str → Option Value} {base : Heap} {C_Ratio : Addr} {f : Addr} {fd : FuncData} (F : FunD K "__sub__" "Ratio.__sub__" (defArgs s_Ratio___sub__) (defBody s_Ratio___sub__) (defScope s_Ratio___sub__) [] [] f fd) (c_as_ratio : Cal P w K mg base CX0 4 "as_ratio" ["value"] (spAsR K C_Ratio)) (c_gap : Cal P w K mg base CX0 1 "gap" ["left", "right"] (spGap K C_Ratio)) (cm2_Ratio : CalM P w K mg base CX0 2 "Ratio" C_Ratio ["self", "numerator", "denominator"] (spRInit K C_Ratio) []) : FnOk P w K mg base CX0 5 f fd ["self", "other"] (spSub K C_Ratio) :=
  F.ok sc_Ratio___sub__ (fun vs H Q E h => by first | (obtain ⟨_, rfl, _⟩ := h; rfl) | (obtain ⟨_, _, rfl, _⟩ := h; rfl) | (obtain ⟨_, _, _, rfl, _⟩ := h; rfl) | (obtain ⟨_, _, _, _, rfl, _⟩ := h; rfl) | (obtain ⟨_, _, _, _, _, rfl, _⟩ := h; rfl) | (obtain ⟨_, _, _, _, _, _, rfl, _⟩ := h; rfl) | (obtain ⟨_, _, _, _, _, _, _, rfl, _⟩ := h; rfl) | (obtain ⟨_, _, _, _, _, _, _, _, rfl, _⟩ := h; rfl) | (obtain ⟨_, _, _, _, _, _, _, _, _, rfl, _⟩ := h; rfl) | (obtain ⟨_, _, _, _, _, _, _, _, _, _, rfl, _⟩ := h; rfl) | (obtain ⟨_, _, _, _, _, _, _, _, _, _, _, rfl, _⟩ := h; rfl) | (obtain ⟨_, _, _, _, _, _, _, _, _, _, _, _, rfl, _⟩ := h; rfl) | (obtain ⟨_, _, _, _, _, _, _, _, _, _, _, _, _, rfl, _⟩ := h; rfl) | (obtain ⟨_, _, _, _, _, _, _, _, _, _, _, _, _, _, rfl, _⟩ := h; rfl) | (obtain ⟨_, _, _, _, _, _, _, _, _, _, _, _, _, _, _, rfl, _⟩ := h; rfl) | (obtain ⟨_, _, _, _, _, _, _, _, _, _, _, _, _, _, _, _, rfl, _⟩ := h; rfl) | (obtain ⟨_, _, _, _, _, _, _, _, _, _, _, _, _, _, _, _, _, rfl, _⟩ := h; rfl) | (obtain ⟨_, _, _, _, _, _, _, _, _, _, _, _, _, _, _, _, _, _, rfl, _⟩ := h; rfl) | (obtain ⟨_, _, _, _, _, _, _, _, _, _, _, _, _, _, _, _, _, _, _, rfl, _⟩ := h; rfl) | (obtain ⟨_, _, _, _, _, _, _, _, _, _, _, _, _, _, _, _, _, _, _, _, rfl, _⟩ := h; rfl) | (obtain ⟨_, _, _, _, _, _, _, _, _, _, _, _, _, _, _, _, _, _, _, _, _, rfl, _⟩ := h; rfl) | (obtain ⟨_, _, _, _, _, _, _, _, _, _, _, _, _, _, _, _, _, _, _, _, _, _, rfl, _⟩ := h; rfl) | (obtain ⟨_, _, _, _, _, _, _, _, _, _, _, _, _, _, _, _, _, _, _, _, _, _, _, rfl, _⟩ := h; rfl) | (obtain ⟨_, _, _, _, _, _, _, _, _, _, _, _, _, _, _, _, _, _, _, _, _, _, _, _, rfl, _⟩ := h; rfl) | (obtain ⟨_, _, _, _, _, _, _, _, _, _, _, _, _, _, _, _, _, _, _, _, _, _, _, _, _, rfl, _⟩ := h; rfl)) (fun cdv A outer s H vs Q E hr h => ⟨_, d_Ratio___sub__ c_as_ratio c_gap cm2_Ratio hr, p_sub h⟩)
abbrev s_Ratio___gt__ : Stmt := inClass (top 24) 19
theorem sc_Ratio___gt__ : FnScope ["self", "other", "right"] ["self", "other"] (defScope s_Ratio___gt__) := ⟨rfl, rfl, rfl, by decide +kernel, rfl, by decide +kernel, by decide +kernel⟩
theorem d_Ratio___gt__ {P : Program} {w : World} {K : PySem.W.Frag} {mg : Str → Option Value} {base : Heap} {C_Ratio : Addr} {CX : CXT} {f : Addr} {cdv : Value} {A : Around} {outer : List Env} {s : Shared} {H : Hp} {E : XK} (c_as_ratio : Cal P w K mg base CX0 4 "as_ratio" ["value"] (spAsR K C_Ratio)) (c_gap : Cal P w K mg base CX0 1 "gap" ["left", "right"] (spGap K C_Ratio))
    (hr : Room 4 (A.deeper (envOfC "Ratio.__gt__" (defScope s_Ratio___gt__) s.heap.objs.size f cdv))) :
    PSs (cxOf CX P w K mg base ["self", "other", "right"] "Ratio.__gt__" (defScope s_Ratio___gt__) f cdv A outer s H E) (defBody s_Ratio___gt__) (t_Ratio___gt__ K C_Ratio) :=
  (pss_cons (ps_set (i := 2) sc_Ratio___gt__.nd rfl (by first | exact Or.inl rfl | exact Or.inr rfl) (pe_cal c_as_ratio (hr.mono (by decide)) rfl pass0 (pa_cons (pv 1) pa_nil)))
    (pss_cons (ps_if (pt_cmpR op_isN (pv 2) pe_non (nomark _)) (pss_one ps_never) pss_nil)
    (pss_one (ps_ret (pe_cmpR op_gt (pe_cal c_gap (hr.mono (by decide)) rfl pass0 (pa_cons (pv 0) (pa_cons (pv 2) pa_nil))) pe_int (nomark _))))))
theorem ok_Ratio___gt__ {P : Program} {w : World} {K : PySem.W.Frag} {mg : Str → Option Value} {base : Heap} {C_Ratio : Addr} {f : Addr} {fd : FuncData} (F : FunD K "__gt__" "Ratio.__gt__" (defArgs s_Ratio___gt__) (defBody s_Ratio___gt__) (defScope s_Ratio___gt__) [] [] f fd) (c_as_ratio : Cal P w K mg base CX0 4 "as_ratio" ["value"] (spAsR K C_Ratio)) (c_gap : Cal P w K mg base CX0 1 "gap" ["left", "right"] (spGap K C_Ratio)) : FnOk P w K mg base CX0 5 f fd ["self", "other"] (spGt K C_Ratio) :=
  F.ok sc_Ratio___gt__ (fun vs H Q E h => by first | (obtain ⟨_, rfl, _⟩ := h; rfl) | (obtain ⟨_, _, rfl, _⟩ := h; rfl) | (obtain ⟨_, _, _, rfl, _⟩ := h; rfl) | (obtain ⟨_, _, _, _, rfl, _⟩ := h; rfl) | (obtain ⟨_, _, _, _, _, rfl, _⟩ := h; rfl) | (obtain ⟨_, _, _, _, _, _, rfl, _⟩ := h; rfl) | (obtain ⟨_, _, _, _, _, _, _, rfl, _⟩ := h; rfl) | (obtain ⟨_, _, _, _, _, _, _, _, rfl, _⟩ := h; rfl) | (obtain ⟨_, _, _, _, _, _, _, _, _, rfl, _⟩ := h; rfl) | (obtain ⟨_, _, _, _, _, _, _, _, _, _, rfl, _⟩ := h; rfl) | (obtain ⟨_, _, _, _, _, _, _, _, _, _, _, rfl, _⟩ := h; rfl) | (obtain ⟨_, _, _, _, _, _, _, _, _, _, _, _, rfl, _⟩ := h; rfl) | (obtain ⟨_, _, _, _, _, _, _, _, _, _, _, _, _, rfl, _⟩ := h; rfl) | (obtain ⟨_, _, _, _, _, _, _, _, _, _, _, _, _, _, rfl, _⟩ := h; rfl) | (obtain ⟨_, _, _, _, _, _, _, _, _, _, _, _, _, _, _, rfl, _⟩ := h; rfl) | (obtain ⟨_, _, _, _, _, _, _, _, _, _, _, _, _, _, _, _, rfl, _⟩ := h; rfl) | (obtain ⟨_, _, _, _, _, _, _, _, _, _, _, _, _, _, _, _, _, rfl, _⟩ := h; rfl) | (obtain ⟨_, _, _, _, _, _, _, _, _, _, _, _, _, _, _, _, _, _, rfl, _⟩ := h; rfl) | (obtain ⟨_, _, _, _, _, _, _, _, _, _, _, _, _, _, _, _, _, _, _, rfl, _⟩ := h; rfl) | (obtain ⟨_, _, _, _, _, _, _, _, _, _, _, _, _, _, _, _, _, _, _, _, rfl, _⟩ := h; rfl) | (obtain ⟨_, _, _, _, _, _, _, _, _, _, _, _, _, _, _, _, _, _, _, _, _, rfl, _⟩ := h; rfl) | (obtain ⟨_, _, _, _, _, _, _, _, _, _, _, _, _, _, _, _, _, _, _, _, _, _, rfl, _⟩ := h; rfl) | (obtain ⟨_, _, _, _, _, _, _, _, _, _, _, _, _, _, _, _, _, _, _, _, _, _, _, rfl, _⟩ := h; rfl) | (obtain ⟨_, _, _, _, _, _, _, _, _, _, _, _, _, _, _, _, _, _, _, _, _, _, _, _, rfl, _⟩ := h; rfl) | (obtain ⟨_, _, _, _, _, _, _, _, _, _, _, _, _, _, _, _, _, _, _, _, _, _, _, _, _, rfl, _⟩ := h; rfl)) (fun cdv A outer s H vs Q E hr h => ⟨_, d_Ratio___gt__ c_as_ratio c_gap hr, p_gt h⟩)
abbrev s_end_surfaces : Stmt := top 26
theorem sc_end_surfaces : FnScope ["profile", "heights", "many", "left", "right", "column", "height", "one", "other"] ["profile"] (defScope s_end_surfaces) := ⟨rfl, rfl, rfl, by decide +kernel, rfl, by decide +kernel, by decide +kernel⟩
theorem d_end_surfaces {P : Program} {w : World} {K : PySem.W.Frag} {mg : Str → Option Value} {base : Heap} {C_Profile : Addr} {CX : CXT} {f : Addr} {cdv : Value} {A : Around} {outer : List Env} {s : Shared} {H : Hp} {E : XK} (cp_heights : CalP P w K mg base CX0 1 C_Profile "heights" (getSp C_Profile "column_heights")) (m_len : mg "len" = none) (m_range : mg "range" = none) (m_int : mg "int" = none) (m_max : mg "max" = none) (m_zip : mg "zip" = none) (m_min : mg "min" = none)
    (hr : Room 2 (A.deeper (envOfC "end_surfaces" (defScope s_end_surfaces) s.heap.objs.size f cdv))) :
    PSs (cxOf CX P w K mg base ["profile", "heights", "many", "left", "right", "column", "height", "one", "other"] "end_surfaces" (defScope s_end_surfaces) f cdv A outer s H E) (defBody s_end_surfaces) (RvM.t_end_surfaces K C_Profile) :=
  (pss_cons (ps_set (i := 1) sc_end_surfaces.nd rfl (by first | exact Or.inl rfl | exact Or.inr rfl) (pe_calp cp_heights (hr.mono (by decide)) pass0 (pv 0) rfl))
    (pss_cons (ps_set (i := 2) sc_end_surfaces.nd rfl (by first | exact Or.inl rfl | exact Or.inr rfl) (pe_callB call_len_seq (by rfl) m_len (by decide +kernel) (pa_cons (pv 1) pa_nil)))
    (pss_cons (ps_setLc (i := 3) (own := [("column", 5)]) (g := (gName 5)) (tt := tYes) (te := (tCB (rMax K) (tCons (tLc (iTup K (tSl (rSlA K) (tVar 1) tNoPart (tPart (tOp oAdd (tVar 5) (tC (.int 1)))))) (gName 6) tYes (tCB cInt (tCons (tVar 6) tNil)) [6]) tNil))) rfl sc_end_surfaces.nd rfl rfl (sw_true rfl rfl rfl (by decide +kernel)) (pi_range1 rfl m_range (pa_cons (pv 2) pa_nil)) (blkOk_by (N := ["profile", "heights", "many", "left", "right", "column", "height", "one", "other"]) (sc := defScope s_end_surfaces) (by decide +kernel)) (fun _ _ _ _ _ => (pg_name (i := 5) sc_end_surfaces.nd rfl (by first | exact Or.inl rfl | exact Or.inr rfl))) (fun _ _ _ _ _ => pts_nil) (fun _ _ _ _ _ => (pe_callB (cr_max rfl) (by rfl) m_max (by decide +kernel) (pa_cons (pe_lc (own := [("height", 6)]) (g := (gName 6)) (tt := tYes) (te := (tCB cInt (tCons (tVar 6) tNil))) rfl sc_end_surfaces.nd (pi_tup (pe_slice sl_tupA (pv 1) po_none (po_some (pe_op op_add (pv 5) pe_int)))) (blkOk_by (by kernel_rfl)) (fun _ _ _ _ _ => (pg_name (i := 6) sc_end_surfaces.nd rfl (by first | exact Or.inl rfl | exact Or.inr rfl))) (fun _ _ _ _ _ => pts_nil) (fun _ _ _ _ _ => (pe_callTy call_int1 (by rfl) m_int (by decide +kernel) (pa_cons (pv 6) pa_nil)))) pa_nil))))
    (pss_cons (ps_setLc (i := 4) (own := [("column", 5)]) (g := (gName 5)) (tt := tYes) (te := (tCB (rMax K) (tCons (tLc (iTup K (tSl (rSlA K) (tVar 1) (tPart (tVar 5)) tNoPart)) (gName 6) tYes (tCB cInt (tCons (tVar 6) tNil)) [6]) tNil))) rfl sc_end_surfaces.nd rfl rfl (sw_true rfl rfl rfl (by decide +kernel)) (pi_range1 rfl m_range (pa_cons (pv 2) pa_nil)) (blkOk_by (N := ["profile", "heights", "many", "left", "right", "column", "height", "one", "other"]) (sc := defScope s_end_surfaces) (by decide +kernel)) (fun _ _ _ _ _ => (pg_name (i := 5) sc_end_surfaces.nd rfl (by first | exact Or.inl rfl | exact Or.inr rfl))) (fun _ _ _ _ _ => pts_nil) (fun _ _ _ _ _ => (pe_callB (cr_max rfl) (by rfl) m_max (by decide +kernel) (pa_cons (pe_lc (own := [("height", 6)]) (g := (gName 6)) (tt := tYes) (te := (tCB cInt (tCons (tVar 6) tNil))) rfl sc_end_surfaces.nd (pi_tup (pe_slice sl_tupA (pv 1) (po_some (pv 5)) po_none)) (blkOk_by (by kernel_rfl)) (fun _ _ _ _ _ => (pg_name (i := 6) sc_end_surfaces.nd rfl (by first | exact Or.inl rfl | exact Or.inr rfl))) (fun _ _ _ _ _ => pts_nil) (fun _ _ _ _ _ => (pe_callTy call_int1 (by rfl) m_int (by decide +kernel) (pa_cons (pv 6) pa_nil)))) pa_nil))))
    (pss_one (ps_ret (pe_lc (own := [("one", 7), ("other", 8)]) (g := (gTup K 2 (gCons (gName 7) (gCons (gName 8) gNil)))) (tt := tYes) (te := (tCB cMin2 (tCons (tCB cInt (tCons (tVar 7) tNil)) (tCons (tVar 8) tNil)))) rfl sc_end_surfaces.nd (pi_zipM (t1 := false) (t2 := false) (by rfl) m_zip (pa_cons (pv 3) (pa_cons (pv 4) pa_nil))) (blkOk_by (N := ["profile", "heights", "many", "left", "right", "column", "height", "one", "other"]) (sc := defScope s_end_surfaces) (by decide +kernel)) (fun _ _ _ _ _ => (pg_tup (by rfl) (pgs_cons (pg_name (i := 7) sc_end_surfaces.nd rfl (by first | exact Or.inl rfl | exact Or.inr rfl)) (pgs_cons (pg_name (i := 8) sc_end_surfaces.nd rfl (by first | exact Or.inl rfl | exact Or.inr rfl)) pgs_nil)))) (fun _ _ _ _ _ => pts_nil) (fun _ _ _ _ _ => (pe_callB (call_min2 rfl) (by rfl) m_min (by decide +kernel) (pa_cons (pe_callTy call_int1 (by rfl) m_int (by decide +kernel) (pa_cons (pv 7) pa_nil)) (pa_cons (pv 8) pa_nil)))))))))))
theorem ok_end_surfaces {P : Program} {w : World} {K : PySem.W.Frag} {mg : Str → Option Value} {base : Heap} {C_Profile : Addr} {f : Addr} {fd : FuncData} (F : FunD K "end_surfaces" "end_surfaces" (defArgs s_end_surfaces) (defBody s_end_surfaces) (defScope s_end_surfaces) [] [] f fd) (cp_heights : CalP P w K mg base CX0 1 C_Profile "heights" (getSp C_Profile "column_heights")) (m_len : mg "len" = none) (m_range : mg "range" = none) (m_int : mg "int" = none) (m_max : mg "max" = none) (m_zip : mg "zip" = none) (m_min : mg "min" = none) : FnOk P w K mg base CX0 3 f fd ["profile"] (RvM.spEndS K C_Profile) :=
  F.ok sc_end_surfaces (fun vs H Q E h => by first | (obtain ⟨_, rfl, _⟩ := h; rfl) | (obtain ⟨_, _, rfl, _⟩ := h; rfl) | (obtain ⟨_, _, _, rfl, _⟩ := h; rfl) | (obtain ⟨_, _, _, _, rfl, _⟩ := h; rfl) | (obtain ⟨_, _, _, _, _, rfl, _⟩ := h; rfl) | (obtain ⟨_, _, _, _, _, _, rfl, _⟩ := h; rfl) | (obtain ⟨_, _, _, _, _, _, _, rfl, _⟩ := h; rfl) | (obtain ⟨_, _, _, _, _, _, _, _, rfl, _⟩ := h; rfl) | (obtain ⟨_, _, _, _, _, _, _, _, _, rfl, _⟩ := h; rfl) | (obtain ⟨_, _, _, _, _, _, _, _, _, _, rfl, _⟩ := h; rfl) | (obtain ⟨_, _, _, _, _, _, _, _, _, _, _, rfl, _⟩ := h; rfl) | (obtain ⟨_, _, _, _, _, _, _, _, _, _, _, _, rfl, _⟩ := h; rfl) | (obtain ⟨_, _, _, _, _, _, _, _, _, _, _, _, _, rfl, _⟩ := h; rfl) | (obtain ⟨_, _, _, _, _, _, _, _, _, _, _, _, _, _, rfl, _⟩ := h; rfl) | (obtain ⟨_, _, _, _, _, _, _, _, _, _, _, _, _, _, _, rfl, _⟩ := h; rfl) | (obtain ⟨_, _, _, _, _, _, _, _, _, _, _, _, _, _, _, _, rfl, _⟩ := h; rfl) | (obtain ⟨_, _, _, _, _, _, _, _, _, _, _, _, _, _, _, _, _, rfl, _⟩ := h; rfl) | (obtain ⟨_, _, _, _, _, _, _, _, _, _, _, _, _, _, _, _, _, _, rfl, _⟩ := h; rfl) | (obtain ⟨_, _, _, _, _, _, _, _, _, _, _, _, _, _, _, _, _, _, _, rfl, _⟩ := h; rfl) | (obtain ⟨_, _, _, _, _, _, _, _, _, _, _, _, _, _, _, _, _, _, _, _, rfl, _⟩ := h; rfl) | (obtain ⟨_, _, _, _, _, _, _, _, _, _, _, _, _, _, _, _, _, _, _, _, _, rfl, _⟩ := h; rfl) | (obtain ⟨_, _, _, _, _, _, _, _, _, _, _, _, _, _, _, _, _, _, _, _, _, _, rfl, _⟩ := h; rfl) | (obtain ⟨_, _, _, _, _, _, _, _, _, _, _, _, _, _, _, _, _, _, _, _, _, _, _, rfl, _⟩ := h; rfl) | (obtain ⟨_, _, _, _, _, _, _, _, _, _, _, _, _, _, _, _, _, _, _, _, _, _, _, _, rfl, _⟩ := h; rfl) | (obtain ⟨_, _, _, _, _, _, _, _, _, _, _, _, _, _, _, _, _, _, _, _, _, _, _, _, _, rfl, _⟩ := h; rfl)) (fun cdv A outer s H vs Q E hr h => ⟨_, d_end_surfaces cp_heights m_len m_range m_int m_max m_zip m_min hr, RvM.p_endS h⟩)
abbrev s_end_volume : Stmt := top 27
theorem sc_end_volume : FnScope ["profile", "depths", "surface", "height", "width", "depth"] ["profile"] (defScope s_end_volume) := ⟨rfl, rfl, rfl, by decide +kernel, rfl, by decide +kernel, by decide +kernel⟩
theorem d_end_volume {P : Program} {w : World} {K : PySem.W.Frag} {mg : Str → Option Value} {base : Heap} {C_Profile : Addr} {C_Ratio : Addr} {CX : CXT} {f : Addr} {cdv : Value} {A : Around} {outer : List Env} {s : Shared} {H : Hp} {E : XK} (cp_heights : CalP P w K mg base CX0 1 C_Profile "heights" (getSp C_Profile "column_heights")) (c_end_surfaces : Cal P w K mg base CX0 3 "end_surfaces" ["profile"] (RvM.spEndS K C_Profile)) (m_zip : mg "zip" = none) (cp_widths : CalP P w K mg base CX0 1 C_Profile "widths" (getSp C_Profile "column_widths")) (m_sum : mg "sum" = none) (cm1_Ratio : CalM P w K mg base CX0 2 "Ratio" C_Ratio ["self", "numerator", "denominator"] (spRInit K C_Ratio) [.int 1])
    (hr : Room 3 (A.deeper (envOfC "end_volume" (defScope s_end_volume) s.heap.objs.size f cdv))) :
    PSs (cxOf CX P w K mg base ["profile", "depths", "surface", "height", "width", "depth"] "end_volume" (defScope s_end_volume) f cdv A outer s H E) (defBody s_end_volume) (RvM.t_end_volume K C_Profile C_Ratio) :=
  (pss_cons (ps_setLc (i := 1) (own := [("surface", 2), ("height", 3)]) (g := (gTup K 2 (gCons (gName 2) (gCons (gName 3) gNil)))) (tt := tYes) (te := (tOp oSub (tVar 2) (tVar 3))) rfl sc_end_volume.nd rfl rfl (sw_true rfl rfl rfl (by decide +kernel)) (pi_zipM (t1 := false) (t2 := true) (by rfl) m_zip (pa_cons (pe_cal c_end_surfaces (hr.mono (by decide)) rfl pass0 (pa_cons (pv 0) pa_nil)) (pa_cons (pe_calp cp_heights (hr.mono (by decide)) pass0 (pv 0) rfl) pa_nil))) (blkOk_by (N := ["profile", "depths", "surface", "height", "width", "depth"]) (sc := defScope s_end_volume) (by decide +kernel)) (fun _ _ _ _ _ => (pg_tup (by rfl) (pgs_cons (pg_name (i := 2) sc_end_volume.nd rfl (by first | exact Or.inl rfl | exact Or.inr rfl)) (pgs_cons (pg_name (i := 3) sc_end_volume.nd rfl (by first | exact Or.inl rfl | exact Or.inr rfl)) pgs_nil)))) (fun _ _ _ _ _ => pts_nil) (fun _ _ _ _ _ => (pe_op op_sub (pv 2) (pv 3))))
    (pss_one (ps_ret (pe_calm cm1_Ratio (hr.mono (by decide)) rfl pass0 (pa_cons (pe_callB (cr_sum rfl) (by rfl) m_sum (by decide +kernel) (pa_cons (pe_lc (own := [("width", 4), ("depth", 5)]) (g := (gTup K 2 (gCons (gName 4) (gCons (gName 5) gNil)))) (tt := tYes) (te := (tOp oMulW (tVar 4) (tVar 5))) rfl sc_end_volume.nd (pi_zipM (t1 := true) (t2 := false) (by rfl) m_zip (pa_cons (pe_calp cp_widths (hr.mono (by decide)) pass0 (pv 0) rfl) (pa_cons (pv 1) pa_nil))) (blkOk_by (N := ["profile", "depths", "surface", "height", "width", "depth"]) (sc := defScope s_end_volume) (by decide +kernel)) (fun _ _ _ _ _ => (pg_tup (by rfl) (pgs_cons (pg_name (i := 4) sc_end_volume.nd rfl (by first | exact Or.inl rfl | exact Or.inr rfl)) (pgs_cons (pg_name (i := 5) sc_end_volume.nd rfl (by first | exact Or.inl rfl | exact Or.inr rfl)) pgs_nil)))) (fun _ _ _ _ _ => pts_nil) (fun _ _ _ _ _ => (pe_op op_mulW (pv 4) (pv 5)))) pa_nil)) pa_nil)))))
theorem ok_end_volume {P : Program} {w : World} {K : PySem.W.Frag} {mg : Str → Option Value} {base : Heap} {C_Profile : Addr} {C_Ratio : Addr} {f : Addr} {fd : FuncData} (F : FunD K "end_volume" "end_volume" (defArgs s_end_volume) (defBody s_end_volume) (defScope s_end_volume) [] [] f fd) (cp_heights : CalP P w K mg base CX0 1 C_Profile "heights" (getSp C_Profile "column_heights")) (c_end_surfaces : Cal P w K mg base CX0 3 "end_surfaces" ["profile"] (RvM.spEndS K C_Profile)) (m_zip : mg "zip" = none) (cp_widths : CalP P w K mg base CX0 1 C_Profile "widths" (getSp C_Profile "column_widths")) (m_sum : mg "sum" = none) (cm1_Ratio : CalM P w K mg base CX0 2 "Ratio" C_Ratio ["self", "numerator", "denominator"] (spRInit K C_Ratio) [.int 1]) : FnOk P w K mg base CX0 4 f fd ["profile"] (RvM.spEndV K C_Profile C_Ratio) :=
  F.ok sc_end_volume (fun vs H Q E h => by first | (obtain ⟨_, rfl, _⟩ := h; rfl) | (obtain ⟨_, _, rfl, _⟩ := h; rfl) | (obtain ⟨_, _, _, rfl, _⟩ := h; rfl) | (obtain ⟨_, _, _, _, rfl, _⟩ := h; rfl) | (obtain ⟨_, _, _, _, _, rfl, _⟩ := h; rfl) | (obtain ⟨_, _, _, _, _, _, rfl, _⟩ := h; rfl) | (obtain ⟨_, _, _, _, _, _, _, rfl, _⟩ := h; rfl) | (obtain ⟨_, _, _, _, _, _, _, _, rfl, _⟩ := h; rfl) | (obtain ⟨_, _, _, _, _, _, _, _, _, rfl, _⟩ := h; rfl) | (obtain ⟨_, _, _, _, _, _, _, _, _, _, rfl, _⟩ := h; rfl) | (obtain ⟨_, _, _, _, _, _, _, _, _, _, _, rfl, _⟩ := h; rfl) | (obtain ⟨_, _, _, _, _, _, _, _, _, _, _, _, rfl, _⟩ := h; rfl) | (obtain ⟨_, _, _, _, _, _, _, _, _, _, _, _, _, rfl, _⟩ := h; rfl) | (obtain ⟨_, _, _, _, _, _, _, _, _, _, _, _, _, _, rfl, _⟩ := h; rfl) | (obtain ⟨_, _, _, _, _, _, _, _, _, _, _, _, _, _, _, rfl, _⟩ := h; rfl) | (obtain ⟨_, _, _, _, _, _, _, _, _, _, _, _, _, _, _, _, rfl, _⟩ := h; rfl) | (obtain ⟨_, _, _, _, _, _, _, _, _, _, _, _, _, _, _, _, _, rfl, _⟩ := h; rfl) | (obtain ⟨_, _, _, _, _, _, _, _, _, _, _, _, _, _, _, _, _, _, rfl, _⟩ := h; rfl) | (obtain ⟨_, _, _, _, _, _, _, _, _, _, _, _, _, _, _, _, _, _, _, rfl, _⟩ := h; rfl) | (obtain ⟨_, _, _, _, _, _, _, _, _, _, _, _, _, _, _, _, _, _, _, _, rfl, _⟩ := h; rfl) | (obtain ⟨_, _, _, _, _, _, _, _, _, _, _, _, _, _, _, _, _, _, _, _, _, rfl, _⟩ := h; rfl) | (obtain ⟨_, _, _, _, _, _, _, _, _, _, _, _, _, _, _, _, _, _, _, _, _, _, rfl, _⟩ := h; rfl) | (obtain ⟨_, _, _, _, _, _, _, _, _, _, _, _, _, _, _, _, _, _, _, _, _, _, _, rfl, _⟩ := h; rfl) | (obtain ⟨_, _, _, _, _, _, _, _, _, _, _, _, _, _, _, _, _, _, _, _, _, _, _, _, rfl, _⟩ := h; rfl) | (obtain ⟨_, _, _, _, _, _, _, _, _, _, _, _, _, _, _, _, _, _, _, _, _, _, _, _, _, rfl, _⟩ := h; rfl)) (fun cdv A outer s H vs Q E hr h => ⟨_, d_end_volume cp_heights c_end_surfaces m_zip cp_widths m_sum cm1_Ratio hr, RvM.p_endV h⟩)
abbrev s_dam_gain : Stmt := top 29
theorem sc_dam_gain : FnScope ["profile", "column", "height", "raised"] ["profile", "column", "height"] (defScope s_dam_gain) := ⟨rfl, rfl, rfl, by decide +kernel, rfl, by decide +kernel, by decide +kernel⟩
theorem d_dam_gain {P : Program} {w : World} {K : PySem.W.Frag} {mg : Str → Option Value} {base : Heap} {C_Profile : Addr} {C_Ratio : Addr} {C_LimitExceeded : Addr} {C_InvalidColumn : Addr} {C_InvalidNumber : Addr} {f : Addr} {cdv : Value} {A : Around} {outer : List Env} {s : Shared} {H : Hp} {E : XK} (ct_raised : CalT P w K mg base (L2.CX P w) 8 C_Profile "raised" ["self", "column", "height"] (spRaisX K C_Profile C_LimitExceeded C_InvalidColumn C_InvalidNumber)) (c_end_volume : Cal P w K mg base CX0 4 "end_volume" ["profile"] (RvM.spEndV K C_Profile C_Ratio)) (co_sub : CalO P w K mg base CX0 5 C_Ratio "__sub__" (spSub K C_Ratio)) (oc_R : OpC K C_Ratio)
    (hr : Room 8 (A.deeper (envOfC "dam_gain" (defScope s_dam_gain) s.heap.objs.size f cdv))) :
    PSs (cxOf (L2.CX P w) P w K mg base ["profile", "column", "height", "raised"] "dam_gain" (defScope s_dam_gain) f cdv A outer s H E) (defBody s_dam_gain) (t_dam_gain K C_Profile C_Ratio C_LimitExceeded C_InvalidColumn C_InvalidNumber E) :=
  (pss_cons (ps_set (i := 3) sc_dam_gain.nd rfl (by first | exact Or.inl rfl | exact Or.inr rfl) (pe_calt ct_raised (hr.mono (by decide)) (passes_call (takes_of rfl rfl rfl rfl) (fun _ _ _ _ h => h)) (pv 0) (pa_cons (pv 1) (pa_cons (pv 2) pa_nil))))
    (pss_one (ps_ret (pe_op (RvM.op_subO co_sub oc_R (hr.mono (by decide)) pass0) (pe_cal c_end_volume (hr.mono (by decide)) rfl pass0 (pa_cons (pv 3) pa_nil)) (pe_cal c_end_volume (hr.mono (by decide)) rfl pass0 (pa_cons (pv 0) pa_nil))))))
theorem ok_dam_gain {P : Program} {w : World} {K : PySem.W.Frag} {mg : Str → Option Value} {base : Heap} {C_Profile : Addr} {C_Ratio : Addr} {C_LimitExceeded : Addr} {C_InvalidColumn : Addr} {C_InvalidNumber : Addr} {f : Addr} {fd : FuncData} (F : FunD K "dam_gain" "dam_gain" (defArgs s_dam_gain) (defBody s_dam_gain) (defScope s_dam_gain) [] [] f fd) (ct_raised : CalT P w K mg base (L2.CX P w) 8 C_Profile "raised" ["self", "column", "height"] (spRaisX K C_Profile C_LimitExceeded C_InvalidColumn C_InvalidNumber)) (c_end_volume : Cal P w K mg base CX0 4 "end_volume" ["profile"] (RvM.spEndV K C_Profile C_Ratio)) (co_sub : CalO P w K mg base CX0 5 C_Ratio "__sub__" (spSub K C_Ratio)) (oc_R : OpC K C_Ratio) : FnOk P w K mg base (L2.CX P w) 9 f fd ["profile", "column", "height"] (spGainX K C_Profile C_Ratio C_LimitExceeded C_InvalidColumn C_InvalidNumber) :=
  F.ok sc_dam_gain (fun vs H Q E h => by first | (obtain ⟨_, rfl, _⟩ := h; rfl) | (obtain ⟨_, _, rfl, _⟩ := h; rfl) | (obtain ⟨_, _, _, rfl, _⟩ := h; rfl) | (obtain ⟨_, _, _, _, rfl, _⟩ := h; rfl) | (obtain ⟨_, _, _, _, _, rfl, _⟩ := h; rfl) | (obtain ⟨_, _, _, _, _, _, rfl, _⟩ := h; rfl) | (obtain ⟨_, _, _, _, _, _, _, rfl, _⟩ := h; rfl) | (obtain ⟨_, _, _, _, _, _, _, _, rfl, _⟩ := h; rfl) | (obtain ⟨_, _, _, _, _, _, _, _, _, rfl, _⟩ := h; rfl) | (obtain ⟨_, _, _, _, _, _, _, _, _, _, rfl, _⟩ := h; rfl) | (obtain ⟨_, _, _, _, _, _, _, _, _, _, _, rfl, _⟩ := h; rfl) | (obtain ⟨_, _, _, _, _, _, _, _, _, _, _, _, rfl, _⟩ := h; rfl) | (obtain ⟨_, _, _, _, _, _, _, _, _, _, _, _, _, rfl, _⟩ := h; rfl) | (obtain ⟨_, _, _, _, _, _, _, _, _, _, _, _, _, _, rfl, _⟩ := h; rfl) | (obtain ⟨_, _, _, _, _, _, _, _, _, _, _, _, _, _, _, rfl, _⟩ := h; rfl) | (obtain ⟨_, _, _, _, _, _, _, _, _, _, _, _, _, _, _, _, rfl, _⟩ := h; rfl) | (obtain ⟨_, _, _, _, _, _, _, _, _, _, _, _, _, _, _, _, _, rfl, _⟩ := h; rfl) | (obtain ⟨_, _, _, _, _, _, _, _, _, _, _, _, _, _, _, _, _, _, rfl, _⟩ := h; rfl) | (obtain ⟨_, _, _, _, _, _, _, _, _, _, _, _, _, _, _, _, _, _, _, rfl, _⟩ := h; rfl) | (obtain ⟨_, _, _, _, _, _, _, _, _, _, _, _, _, _, _, _, _, _, _, _, rfl, _⟩ := h; rfl) | (obtain ⟨_, _, _, _, _, _, _, _, _, _, _, _, _, _, _, _, _, _, _, _, _, rfl, _⟩ := h; rfl) | (obtain ⟨_, _, _, _, _, _, _, _, _, _, _, _, _, _, _, _, _, _, _, _, _, _, rfl, _⟩ := h; rfl) | (obtain ⟨_, _, _, _, _, _, _, _, _, _, _, _, _, _, _, _, _, _, _, _, _, _, _, rfl, _⟩ := h; rfl) | (obtain ⟨_, _, _, _, _, _, _, _, _, _, _, _, _, _, _, _, _, _, _, _, _, _, _, _, rfl, _⟩ := h; rfl) | (obtain ⟨_, _, _, _, _, _, _, _, _, _, _, _, _, _, _, _, _, _, _, _, _, _, _, _, _, rfl, _⟩ := h; rfl)) (fun cdv A outer s H vs Q E hr h => ⟨_, d_dam_gain ct_raised c_end_volume co_sub oc_R hr, p_gainX h⟩)
abbrev s_best_dam : Stmt := top 30
theorem sc_best_dam : FnScope ["profile", "height", "best", "column", "old", "gain"] ["profile", "height"] (defScope s_best_dam) := ⟨rfl, rfl, rfl, by decide +kernel, rfl, by decide +kernel, by decide +kernel⟩
theorem d_best_dam {P : Program} {w : World} {K : PySem.W.Frag} {mg : Str → Option Value} {base : Heap} {C_Profile : Addr} {C_Ratio : Addr} {C_LimitExceeded : Addr} {C_InvalidColumn : Addr} {C_InvalidNumber : Addr} {f : Addr} {cdv : Value} {A : Around} {outer : List Env} {s : Shared} {H : Hp} {E : XK} (m_GREATEST : ∃ u, mg "GREATEST" = some (.int 1000000000000000000000000000000 u)) (c_is_whole_within : Cal P w K mg base CX0 2 "is_whole_within" ["value", "least", "greatest"] (spWithin K)) (cx_InvalidNumber : CalX P w K mg base CX0 1 "InvalidNumber" C_InvalidNumber ["self", "value"] (spExc K C_InvalidNumber "ValueError" "ValueError.__new__" "ValueError.__init__" bm_ValueError "value") [] "ValueError" "ValueError.__new__" "ValueError.__init__" bm_ValueError) (cp_heights : CalP P w K mg base CX0 1 C_Profile "heights" (getSp C_Profile "column_heights")) (m_enumerate : mg "enumerate" = none) (c_dam_gain : Cal P w K mg base (L2.CX P w) 9 "dam_gain" ["profile", "column", "height"] (spGainX K C_Profile C_Ratio C_LimitExceeded C_InvalidColumn C_InvalidNumber)) (co_gt : CalO P w K mg base CX0 5 C_Ratio "__gt__" (spGt K C_Ratio)) (oc_R : OpC K C_Ratio)
    (hr : Room 9 (A.deeper (envOfC "best_dam" (defScope s_best_dam) s.heap.objs.size f cdv))) :
    PSs (cxOf (L2.CX P w) P w K mg base ["profile", "height", "best", "column", "old", "gain"] "best_dam" (defScope s_best_dam) f cdv A outer s H E) (defBody s_best_dam) (t_best_dam K C_Profile C_Ratio C_LimitExceeded C_InvalidColumn C_InvalidNumber E) :=
  (pss_cons (ps_if (pt_not (pt_val (pe_cal c_is_whole_within (hr.mono (by decide)) rfl pass0 (pa_cons (pv 1) (pa_cons pe_int (pa_cons (pe_gint m_GREATEST rfl) pa_nil)))))) (pss_one (ps_raiseE (pmk_cal cx_InvalidNumber (hr.mono (by decide)) pass0 (by rfl) (pa_cons (pv 1) pa_nil)) (takes_of rfl rfl rfl rfl))) pss_nil)
    (pss_cons (ps_set (i := 2) sc_best_dam.nd rfl (by first | exact Or.inl rfl | exact Or.inr rfl) pe_non)
    (pss_cons (ps_for (passes_of rfl) rfl (pi_enumA (by rfl) m_enumerate (pa_cons (pe_calp cp_heights (hr.mono (by decide)) pass0 (pv 0) rfl) pa_nil)) (pg_tup (by rfl) (pgs_cons (pg_name (i := 3) sc_best_dam.nd rfl (by first | exact Or.inl rfl | exact Or.inr rfl)) (pgs_cons (pg_name (i := 4) sc_best_dam.nd rfl (by first | exact Or.inl rfl | exact Or.inr rfl)) pgs_nil))) (pss_cons (ps_if (pt_cmpR op_gt (pe_op op_add (pv 4) (pv 1)) (pe_gint m_GREATEST rfl) (nomark _)) (pss_one ps_continue) pss_nil)
    (pss_cons (ps_set (i := 5) sc_best_dam.nd rfl (by first | exact Or.inl rfl | exact Or.inr rfl) (pe_cal c_dam_gain (hr.mono (by decide)) rfl (passes_call (takes_of rfl rfl rfl rfl) (fun _ _ _ _ h => h)) (pa_cons (pv 0) (pa_cons (pv 3) (pa_cons (pv 1) pa_nil)))))
    (pss_one (ps_if (PW.pt (pw_or (pt_cmpR op_isN (pv 2) pe_non (nomark _)) (pw_or1 (pt_cmpR (op_ownC (fun _ _ => rfl) co_gt oc_R (hr.mono (by decide)) pass0) (pv 5) (pe_ix ix_tup (pv 2) pe_int (fun _ _ => rfl)) (nomark _))))) (pss_one (ps_set (i := 2) sc_best_dam.nd rfl (by first | exact Or.inl rfl | exact Or.inr rfl) (pe_tup (pa_cons (pv 3) (pa_cons (pv 5) pa_nil))))) pss_nil)))))
    (pss_one (ps_ret (pv 2))))))
theorem ok_best_dam {P : Program} {w : World} {K : PySem.W.Frag} {mg : Str → Option Value} {base : Heap} {C_Profile : Addr} {C_Ratio : Addr} {C_LimitExceeded : Addr} {C_InvalidColumn : Addr} {C_InvalidNumber : Addr} {f : Addr} {fd : FuncData} (F : FunD K "best_dam" "best_dam" (defArgs s_best_dam) (defBody s_best_dam) (defScope s_best_dam) [] [] f fd) (m_GREATEST : ∃ u, mg "GREATEST" = some (.int 1000000000000000000000000000000 u)) (c_is_whole_within : Cal P w K mg base CX0 2 "is_whole_within" ["value", "least", "greatest"] (spWithin K)) (cx_InvalidNumber : CalX P w K mg base CX0 1 "InvalidNumber" C_InvalidNumber ["self", "value"] (spExc K C_InvalidNumber "ValueError" "ValueError.__new__" "ValueError.__init__" bm_ValueError "value") [] "ValueError" "ValueError.__new__" "ValueError.__init__" bm_ValueError) (cp_heights : CalP P w K mg base CX0 1 C_Profile "heights" (getSp C_Profile "column_heights")) (m_enumerate : mg "enumerate" = none) (c_dam_gain : Cal P w K mg base (L2.CX P w) 9 "dam_gain" ["profile", "column", "height"] (spGainX K C_Profile C_Ratio C_LimitExceeded C_InvalidColumn C_InvalidNumber)) (co_gt : CalO P w K mg base CX0 5 C_Ratio "__gt__" (spGt K C_Ratio)) (oc_R : OpC K C_Ratio) : FnOk P w K mg base (L2.CX P w) 10 f fd ["profile", "height"] (spBest68 K C_Profile C_Ratio C_LimitExceeded C_InvalidColumn C_InvalidNumber) :=
  F.ok sc_best_dam (fun vs H Q E h => by first | (obtain ⟨_, rfl, _⟩ := h; rfl) | (obtain ⟨_, _, rfl, _⟩ := h; rfl) | (obtain ⟨_, _, _, rfl, _⟩ := h; rfl) | (obtain ⟨_, _, _, _, rfl, _⟩ := h; rfl) | (obtain ⟨_, _, _, _, _, rfl, _⟩ := h; rfl) | (obtain ⟨_, _, _, _, _, _, rfl, _⟩ := h; rfl) | (obtain ⟨_, _, _, _, _, _, _, rfl, _⟩ := h; rfl) | (obtain ⟨_, _, _, _, _, _, _, _, rfl, _⟩ := h; rfl) | (obtain ⟨_, _, _, _, _, _, _, _, _, rfl, _⟩ := h; rfl) | (obtain ⟨_, _, _, _, _, _, _, _, _, _, rfl, _⟩ := h; rfl) | (obtain ⟨_, _, _, _, _, _, _, _, _, _, _, rfl, _⟩ := h; rfl) | (obtain ⟨_, _, _, _, _, _, _, _, _, _, _, _, rfl, _⟩ := h; rfl) | (obtain ⟨_, _, _, _, _, _, _, _, _, _, _, _, _, rfl, _⟩ := h; rfl) | (obtain ⟨_, _, _, _, _, _, _, _, _, _, _, _, _, _, rfl, _⟩ := h; rfl) | (obtain ⟨_, _, _, _, _, _, _, _, _, _, _, _, _, _, _, rfl, _⟩ := h; rfl) | (obtain ⟨_, _, _, _, _, _, _, _, _, _, _, _, _, _, _, _, rfl, _⟩ := h; rfl) | (obtain ⟨_, _, _, _, _, _, _, _, _, _, _, _, _, _, _, _, _, rfl, _⟩ := h; rfl) | (obtain ⟨_, _, _, _, _, _, _, _, _, _, _, _, _, _, _, _, _, _, rfl, _⟩ := h; rfl) | (obtain ⟨_, _, _, _, _, _, _, _, _, _, _, _, _, _, _, _, _, _, _, rfl, _⟩ := h; rfl) | (obtain ⟨_, _, _, _, _, _, _, _, _, _, _, _, _, _, _, _, _, _, _, _, rfl, _⟩ := h; rfl) | (obtain ⟨_, _, _, _, _, _, _, _, _, _, _, _, _, _, _, _, _, _, _, _, _, rfl, _⟩ := h; rfl) | (obtain ⟨_, _, _, _, _, _, _, _, _, _, _, _, _, _, _, _, _, _, _, _, _, _, rfl, _⟩ := h; rfl) | (obtain ⟨_, _, _, _, _, _, _, _, _, _, _, _, _, _, _, _, _, _, _, _, _, _, _, rfl, _⟩ := h; rfl) | (obtain ⟨_, _, _, _, _, _, _, _, _, _, _, _, _, _, _, _, _, _, _, _, _, _, _, _, rfl, _⟩ := h; rfl) | (obtain ⟨_, _, _, _, _, _, _, _, _, _, _, _, _, _, _, _, _, _, _, _, _, _, _, _, _, rfl, _⟩ := h; rfl)) (fun cdv A outer s H vs Q E hr h => ⟨_, d_best_dam m_GREATEST c_is_whole_within cx_InvalidNumber cp_heights m_enumerate c_dam_gain co_gt oc_R hr, p_best68 h⟩)
abbrev s__law_gained : Stmt := top 34
theorem sc__law_gained : FnScope ["_law_ground", "_law_at", "_law_rise", "_law_found", "e"] ["_law_ground", "_law_at", "_law_rise"] (defScope s__law_gained) := ⟨rfl, rfl, rfl, by decide +kernel, rfl, by decide +kernel, by decide +kernel⟩
theorem d__law_gained {P : Program} {w : World} {K : PySem.W.Frag} {mg : Str → Option Value} {base : Heap} {C_Profile : Addr} {C_Ratio : Addr} {C_LimitExceeded : Addr} {C_InvalidColumn : Addr} {C_InvalidNumber : Addr} {C_RainError : Addr} {CX : CXT} {f : Addr} {cdv : Value} {A : Around} {outer : List Env} {s : Shared} {H : Hp} {E : XK} (g_Ratio : mg "Ratio" = some (.ref C_Ratio)) (c_dam_gain : Cal P w K mg base (L2.CX P w) 9 "dam_gain" ["profile", "column", "height"] (spGainX K C_Profile C_Ratio C_LimitExceeded C_InvalidColumn C_InvalidNumber)) (m_isinstance : mg "isinstance" = none) (g_RainError : mg "RainError" = some (.ref C_RainError)) (ec_InvalidColumn : ExcC K C_InvalidColumn) (m_IndexError : mg "IndexError" = none) (xf_InvalidColumn : XfC K C_InvalidColumn) (no_InvalidColumn_value : PySem.W.findIn K (.ref C_InvalidColumn) "value" = some none) (cuc_repr : CalUC P w K mg base 1 C_Ratio "__repr__" (spRRepr K C_Ratio)) (m_repr : mg "repr" = none) (g_InvalidColumn : mg "InvalidColumn" = some (.ref C_InvalidColumn)) (ec_InvalidNumber : ExcC K C_InvalidNumber) (xf_InvalidNumber : XfC K C_InvalidNumber) (no_InvalidNumber_value : PySem.W.findIn K (.ref C_InvalidNumber) "value" = some none) (g_InvalidNumber : mg "InvalidNumber" = some (.ref C_InvalidNumber)) (ec_LimitExceeded : ExcC K C_LimitExceeded) (m_OverflowError : mg "OverflowError" = none) (xf_LimitExceeded : XfC K C_LimitExceeded) (no_LimitExceeded_limit : PySem.W.findIn K (.ref C_LimitExceeded) "limit" = some none) (g_LimitExceeded : mg "LimitExceeded" = some (.ref C_LimitExceeded)) (hgd : A.guards = some [])
    (hr : Room 10 (A.deeper (envOfC "_law_gained" (defScope s__law_gained) s.heap.objs.size f cdv))) :
    PSs (cxOf CX P w K mg base ["_law_ground", "_law_at", "_law_rise", "_law_found", "e"] "_law_gained" (defScope s__law_gained) f cdv A outer s H E) (defBody s__law_gained) (t__law_gained K C_Profile C_Ratio C_LimitExceeded C_InvalidColumn C_InvalidNumber C_RainError) :=
  (pss_cons (ps_set (i := 3) sc__law_gained.nd rfl (by first | exact Or.inl rfl | exact Or.inr rfl) (pe_tup pa_nil))
    (pss_cons (ps_tryL (tb := fun W => (tAsg (tTup (tCons (tC (.str "fine")) (tCons (tCB (rIsi K) (tCons (tCallD (spGainX K C_Profile C_Ratio C_LimitExceeded C_InvalidColumn C_InvalidNumber) [] (WE W) (tCons (tVar 0) (tCons (tVar 1) (tCons (tVar 2) tNil)))) (tCons (tC (.ref C_Ratio)) tNil))) tNil))) (gName 3))) (l := [(.ref C_InvalidColumn, fun xa xcls xd => (tAsg (tTup (tCons (tC (.str "column")) (tCons (tCB (cReprB K C_Ratio (spRRepr K C_Ratio)) (tCons (tXf xa xcls xd C_InvalidColumn "value" (tVar 4)) tNil)) (tCons (tCB (rIsD K C_InvalidColumn xa xcls xd) (tCons (tVar 4) (tCons (tC (.ty "IndexError")) tNil))) (tCons (tCB (rIsD K C_InvalidColumn xa xcls xd) (tCons (tVar 4) (tCons (tC (.ref C_RainError)) tNil))) tNil))))) (gName 3))), (.ref C_InvalidNumber, fun xa xcls xd => (tAsg (tTup (tCons (tC (.str "number")) (tCons (tCB (cReprB K C_Ratio (spRRepr K C_Ratio)) (tCons (tXf xa xcls xd C_InvalidNumber "value" (tVar 4)) tNil)) (tCons (tCB (rIsD K C_InvalidNumber xa xcls xd) (tCons (tVar 4) (tCons (tC (.ref C_RainError)) tNil))) (tCons (tCB (rIsD K C_InvalidNumber xa xcls xd) (tCons (tVar 4) (tCons (tC (.ty "IndexError")) tNil))) tNil))))) (gName 3))), (.ref C_LimitExceeded, fun xa xcls xd => (tAsg (tTup (tCons (tC (.str "limit")) (tCons (tXf xa xcls xd C_LimitExceeded "limit" (tVar 4)) (tCons (tCB (rIsD K C_LimitExceeded xa xcls xd) (tCons (tVar 4) (tCons (tC (.ty "OverflowError")) tNil))) (tCons (tCB (rIsD K C_LimitExceeded xa xcls xd) (tCons (tVar 4) (tCons (tC (.ref C_RainError)) tNil))) tNil))))) (gName 3)))]) (Wo := fun _ _ _ _ => False) rfl rfl sc__law_gained.nd (i := 4) rfl rfl takesF (fun W pn xe tk hpo => (pss_one (ps_set (i := 3) sc__law_gained.nd rfl (by first | exact Or.inl rfl | exact Or.inr rfl) (pe_tup (pa_cons pe_str (pa_cons (pe_callB call_isi (by rfl) m_isinstance (by decide +kernel) (pa_cons (pe_calD c_dam_gain (hr.mono (by decide)) rfl (passAt tk) (pa_cons (pv 0) (pa_cons (pv 1) (pa_cons (pv 2) pa_nil)))) (pa_cons (pe_glob rfl g_Ratio rfl) pa_nil))) pa_nil)))))) (by refine AsL.cons ?_ ?_ ?_; exact ⟨by rfl, by decide, .inl g_InvalidColumn⟩; intro xa oe xcls xd pn hz hfv; exact (pss_one (ps_set (i := 3) sc__law_gained.nd rfl (by first | exact Or.inl rfl | exact Or.inr rfl) (pe_tup (pa_cons pe_str (pa_cons (pe_callB (call_reprB cuc_repr hgd (roomH_any (hr.mono (by decide)))) (by rfl) m_repr (by decide +kernel) (pa_cons (pe_xf xf_InvalidColumn no_InvalidColumn_value hz hfv (pv 4)) pa_nil)) (pa_cons (pe_callB (call_isD ec_InvalidColumn hz hfv) (by rfl) m_isinstance (by decide +kernel) (pa_cons (pv 4) (pa_cons (pe_bltn (by rfl) m_IndexError (by decide +kernel) rfl) pa_nil))) (pa_cons (pe_callB (call_isD ec_InvalidColumn hz hfv) (by rfl) m_isinstance (by decide +kernel) (pa_cons (pv 4) (pa_cons (pe_glob rfl g_RainError rfl) pa_nil))) pa_nil))))))); exact (by refine AsL.cons ?_ ?_ ?_; exact ⟨by rfl, by decide, .inl g_InvalidNumber⟩; intro xa oe xcls xd pn hz hfv; exact (pss_one (ps_set (i := 3) sc__law_gained.nd rfl (by first | exact Or.inl rfl | exact Or.inr rfl) (pe_tup (pa_cons pe_str (pa_cons (pe_callB (call_reprB cuc_repr hgd (roomH_any (hr.mono (by decide)))) (by rfl) m_repr (by decide +kernel) (pa_cons (pe_xf xf_InvalidNumber no_InvalidNumber_value hz hfv (pv 4)) pa_nil)) (pa_cons (pe_callB (call_isD ec_InvalidNumber hz hfv) (by rfl) m_isinstance (by decide +kernel) (pa_cons (pv 4) (pa_cons (pe_glob rfl g_RainError rfl) pa_nil))) (pa_cons (pe_callB (call_isD ec_InvalidNumber hz hfv) (by rfl) m_isinstance (by decide +kernel) (pa_cons (pv 4) (pa_cons (pe_bltn (by rfl) m_IndexError (by decide +kernel) rfl) pa_nil))) pa_nil))))))); exact (by refine AsL.cons ?_ ?_ ?_; exact ⟨by rfl, by decide, .inl g_LimitExceeded⟩; intro xa oe xcls xd pn hz hfv; exact (pss_one (ps_set (i := 3) sc__law_gained.nd rfl (by first | exact Or.inl rfl | exact Or.inr rfl) (pe_tup (pa_cons pe_str (pa_cons (pe_xf xf_LimitExceeded no_LimitExceeded_limit hz hfv (pv 4)) (pa_cons (pe_callB (call_isD ec_LimitExceeded hz hfv) (by rfl) m_isinstance (by decide +kernel) (pa_cons (pv 4) (pa_cons (pe_bltn (by rfl) m_OverflowError (by decide +kernel) rfl) pa_nil))) (pa_cons (pe_callB (call_isD ec_LimitExceeded hz hfv) (by rfl) m_isinstance (by decide +kernel) (pa_cons (pv 4) (pa_cons (pe_glob rfl g_RainError rfl) pa_nil))) pa_nil))))))); exact AsL.nil))))
    (pss_one (ps_ret (pv 3)))))
theorem ok__law_gained {P : Program} {w : World} {K : PySem.W.Frag} {mg : Str → Option Value} {base : Heap} {C_Profile : Addr} {C_Ratio : Addr} {C_LimitExceeded : Addr} {C_InvalidColumn : Addr} {C_InvalidNumber : Addr} {C_RainError : Addr} {f : Addr} {fd : FuncData} (F : FunD K "_law_gained" "_law_gained" (defArgs s__law_gained) (defBody s__law_gained) (defScope s__law_gained) [] [] f fd) (g_Ratio : mg "Ratio" = some (.ref C_Ratio)) (c_dam_gain : Cal P w K mg base (L2.CX P w) 9 "dam_gain" ["profile", "column", "height"] (spGainX K C_Profile C_Ratio C_LimitExceeded C_InvalidColumn C_InvalidNumber)) (m_isinstance : mg "isinstance" = none) (g_RainError : mg "RainError" = some (.ref C_RainError)) (ec_InvalidColumn : ExcC K C_InvalidColumn) (m_IndexError : mg "IndexError" = none) (xf_InvalidColumn : XfC K C_InvalidColumn) (no_InvalidColumn_value : PySem.W.findIn K (.ref C_InvalidColumn) "value" = some none) (cuc_repr : CalUC P w K mg base 1 C_Ratio "__repr__" (spRRepr K C_Ratio)) (m_repr : mg "repr" = none) (g_InvalidColumn : mg "InvalidColumn" = some (.ref C_InvalidColumn)) (ec_InvalidNumber : ExcC K C_InvalidNumber) (xf_InvalidNumber : XfC K C_InvalidNumber) (no_InvalidNumber_value : PySem.W.findIn K (.ref C_InvalidNumber) "value" = some none) (g_InvalidNumber : mg "InvalidNumber" = some (.ref C_InvalidNumber)) (ec_LimitExceeded : ExcC K C_LimitExceeded) (m_OverflowError : mg "OverflowError" = none) (xf_LimitExceeded : XfC K C_LimitExceeded) (no_LimitExceeded_limit : PySem.W.findIn K (.ref C_LimitExceeded) "limit" = some none) (g_LimitExceeded : mg "LimitExceeded" = some (.ref C_LimitExceeded)) : FnOkG P w K mg base CX0 11 f fd ["_law_ground", "_law_at", "_law_rise"] (spTold68 K C_Profile C_Ratio C_LimitExceeded C_InvalidColumn C_InvalidNumber C_RainError) :=
  Rv.FunD.okG F sc__law_gained (fun vs H Q E h => by first | (obtain ⟨_, rfl, _⟩ := h; rfl) | (obtain ⟨_, _, rfl, _⟩ := h; rfl) | (obtain ⟨_, _, _, rfl, _⟩ := h; rfl) | (obtain ⟨_, _, _, _, rfl, _⟩ := h; rfl) | (obtain ⟨_, _, _, _, _, rfl, _⟩ := h; rfl) | (obtain ⟨_, _, _, _, _, _, rfl, _⟩ := h; rfl) | (obtain ⟨_, _, _, _, _, _, _, rfl, _⟩ := h; rfl) | (obtain ⟨_, _, _, _, _, _, _, _, rfl, _⟩ := h; rfl) | (obtain ⟨_, _, _, _, _, _, _, _, _, rfl, _⟩ := h; rfl) | (obtain ⟨_, _, _, _, _, _, _, _, _, _, rfl, _⟩ := h; rfl) | (obtain ⟨_, _, _, _, _, _, _, _, _, _, _, rfl, _⟩ := h; rfl) | (obtain ⟨_, _, _, _, _, _, _, _, _, _, _, _, rfl, _⟩ := h; rfl) | (obtain ⟨_, _, _, _, _, _, _, _, _, _, _, _, _, rfl, _⟩ := h; rfl) | (obtain ⟨_, _, _, _, _, _, _, _, _, _, _, _, _, _, rfl, _⟩ := h; rfl) | (obtain ⟨_, _, _, _, _, _, _, _, _, _, _, _, _, _, _, rfl, _⟩ := h; rfl) | (obtain ⟨_, _, _, _, _, _, _, _, _, _, _, _, _, _, _, _, rfl, _⟩ := h; rfl) | (obtain ⟨_, _, _, _, _, _, _, _, _, _, _, _, _, _, _, _, _, rfl, _⟩ := h; rfl) | (obtain ⟨_, _, _, _, _, _, _, _, _, _, _, _, _, _, _, _, _, _, rfl, _⟩ := h; rfl) | (obtain ⟨_, _, _, _, _, _, _, _, _, _, _, _, _, _, _, _, _, _, _, rfl, _⟩ := h; rfl) | (obtain ⟨_, _, _, _, _, _, _, _, _, _, _, _, _, _, _, _, _, _, _, _, rfl, _⟩ := h; rfl) | (obtain ⟨_, _, _, _, _, _, _, _, _, _, _, _, _, _, _, _, _, _, _, _, _, rfl, _⟩ := h; rfl) | (obtain ⟨_, _, _, _, _, _, _, _, _, _, _, _, _, _, _, _, _, _, _, _, _, _, rfl, _⟩ := h; rfl) | (obtain ⟨_, _, _, _, _, _, _, _, _, _, _, _, _, _, _, _, _, _, _, _, _, _, _, rfl, _⟩ := h; rfl) | (obtain ⟨_, _, _, _, _, _, _, _, _, _, _, _, _, _, _, _, _, _, _, _, _, _, _, _, rfl, _⟩ := h; rfl) | (obtain ⟨_, _, _, _, _, _, _, _, _, _, _, _, _, _, _, _, _, _, _, _, _, _, _, _, _, rfl, _⟩ := h; rfl)) (fun cdv A outer s H vs Q E hgd hr h => ⟨_, d__law_gained g_Ratio c_dam_gain m_isinstance g_RainError ec_InvalidColumn m_IndexError xf_InvalidColumn no_InvalidColumn_value cuc_repr m_repr g_InvalidColumn ec_InvalidNumber xf_InvalidNumber no_InvalidNumber_value g_InvalidNumber ec_LimitExceeded m_OverflowError xf_LimitExceeded no_LimitExceeded_limit g_LimitExceeded hgd hr, p_told68 h⟩)
abbrev s__law_best : Stmt := top 35
theorem sc__law_best : FnScope ["_law_ground", "_law_rise", "_law_found", "_law_told", "e"] ["_law_ground", "_law_rise"] (defScope s__law_best) := ⟨rfl, rfl, rfl, by decide +kernel, rfl, by decide +kernel, by decide +kernel⟩
theorem d__law_best {P : Program} {w : World} {K : PySem.W.Frag} {mg : Str → Option Value} {base : Heap} {C_Profile : Addr} {C_Ratio : Addr} {C_LimitExceeded : Addr} {C_InvalidColumn : Addr} {C_InvalidNumber : Addr} {C_RainError : Addr} {CX : CXT} {f : Addr} {cdv : Value} {A : Around} {outer : List Env} {s : Shared} {H : Hp} {E : XK} (c_best_dam : Cal P w K mg base (L2.CX P w) 10 "best_dam" ["profile", "height"] (spBest68 K C_Profile C_Ratio C_LimitExceeded C_InvalidColumn C_InvalidNumber)) (m_tuple : mg "tuple" = none) (m_isinstance : mg "isinstance" = none) (m_IndexError : mg "IndexError" = none) (ec_InvalidNumber : ExcC K C_InvalidNumber) (g_RainError : mg "RainError" = some (.ref C_RainError)) (xf_InvalidNumber : XfC K C_InvalidNumber) (no_InvalidNumber_value : PySem.W.findIn K (.ref C_InvalidNumber) "value" = some none) (cuc_repr : CalUC P w K mg base 1 C_Ratio "__repr__" (spRRepr K C_Ratio)) (m_repr : mg "repr" = none) (g_InvalidNumber : mg "InvalidNumber" = some (.ref C_InvalidNumber)) (hgd : A.guards = some [])
    (hr : Room 10 (A.deeper (envOfC "_law_best" (defScope s__law_best) s.heap.objs.size f cdv))) :
    PSs (cxOf CX P w K mg base ["_law_ground", "_law_rise", "_law_found", "_law_told", "e"] "_law_best" (defScope s__law_best) f cdv A outer s H E) (defBody s__law_best) (t__law_best68 K C_Profile C_Ratio C_LimitExceeded C_InvalidColumn C_InvalidNumber C_RainError) :=
  (pss_cons (ps_set (i := 2) sc__law_best.nd rfl (by first | exact Or.inl rfl | exact Or.inr rfl) (pe_tup pa_nil))
    (pss_cons (ps_try_as (tb := fun W => (tSeq (tAsg (tCallD (spBest68 K C_Profile C_Ratio C_LimitExceeded C_InvalidColumn C_InvalidNumber) [] (WE W) (tCons (tVar 0) (tCons (tVar 1) tNil))) (gName 3))
    (tAsg (tTup (tCons (tC (.str "fine")) (tCons (tOrV (tOp oIsN (tVar 3) (tC .non)) (tCB (rIsi K) (tCons (tVar 3) (tCons (tC (.ty "tuple")) tNil)))) tNil))) (gName 2)))) (ts := fun xa xcls xd => (tAsg (tTup (tCons (tC (.str "number")) (tCons (tCB (cReprB K C_Ratio (spRRepr K C_Ratio)) (tCons (tXf xa xcls xd C_InvalidNumber "value" (tVar 4)) tNil)) (tCons (tCB (rIsD K C_InvalidNumber xa xcls xd) (tCons (tVar 4) (tCons (tC (.ref C_RainError)) tNil))) (tCons (tCB (rIsD K C_InvalidNumber xa xcls xd) (tCons (tVar 4) (tCons (tC (.ty "IndexError")) tNil))) tNil))))) (gName 2))) (Wout := fun _ _ _ _ => False) rfl rfl sc__law_best.nd (i := 4) rfl rfl ⟨by rfl, by decide, .inl g_InvalidNumber⟩ takesF (fun W pn xe tk hpo => (pss_cons (ps_set (i := 3) sc__law_best.nd rfl (by first | exact Or.inl rfl | exact Or.inr rfl) (pe_calD c_best_dam (hr.mono (by decide)) rfl (passAt tk) (pa_cons (pv 0) (pa_cons (pv 1) pa_nil))))
    (pss_one (ps_set (i := 2) sc__law_best.nd rfl (by first | exact Or.inl rfl | exact Or.inr rfl) (pe_tup (pa_cons pe_str (pa_cons (pe_or (pe_cmpR op_isN (pv 3) pe_non (nomark _)) (pe_one (pe_callB call_isi (by rfl) m_isinstance (by decide +kernel) (pa_cons (pv 3) (pa_cons (pe_bltn (by rfl) m_tuple (by decide +kernel) rfl) pa_nil))))) pa_nil))))))) (fun xa oe xcls xd pn hz hfv => (pss_one (ps_set (i := 2) sc__law_best.nd rfl (by first | exact Or.inl rfl | exact Or.inr rfl) (pe_tup (pa_cons pe_str (pa_cons (pe_callB (call_reprB cuc_repr hgd (roomH_any (hr.mono (by decide)))) (by rfl) m_repr (by decide +kernel) (pa_cons (pe_xf xf_InvalidNumber no_InvalidNumber_value hz hfv (pv 4)) pa_nil)) (pa_cons (pe_callB (call_isD ec_InvalidNumber hz hfv) (by rfl) m_isinstance (by decide +kernel) (pa_cons (pv 4) (pa_cons (pe_glob rfl g_RainError rfl) pa_nil))) (pa_cons (pe_callB (call_isD ec_InvalidNumber hz hfv) (by rfl) m_isinstance (by decide +kernel) (pa_cons (pv 4) (pa_cons (pe_bltn (by rfl) m_IndexError (by decide +kernel) rfl) pa_nil))) pa_nil)))))))))
    (pss_one (ps_ret (pv 2)))))
theorem ok__law_best {P : Program} {w : World} {K : PySem.W.Frag} {mg : Str → Option Value} {base : Heap} {C_Profile : Addr} {C_Ratio : Addr} {C_LimitExceeded : Addr} {C_InvalidColumn : Addr} {C_InvalidNumber : Addr} {C_RainError : Addr} {f : Addr} {fd : FuncData} (F : FunD K "_law_best" "_law_best" (defArgs s__law_best) (defBody s__law_best) (defScope s__law_best) [] [] f fd) (c_best_dam : Cal P w K mg base (L2.CX P w) 10 "best_dam" ["profile", "height"] (spBest68 K C_Profile C_Ratio C_LimitExceeded C_InvalidColumn C_InvalidNumber)) (m_tuple : mg "tuple" = none) (m_isinstance : mg "isinstance" = none) (m_IndexError : mg "IndexError" = none) (ec_InvalidNumber : ExcC K C_InvalidNumber) (g_RainError : mg "RainError" = some (.ref C_RainError)) (xf_InvalidNumber : XfC K C_InvalidNumber) (no_InvalidNumber_value : PySem.W.findIn K (.ref C_InvalidNumber) "value" = some none) (cuc_repr : CalUC P w K mg base 1 C_Ratio "__repr__" (spRRepr K C_Ratio)) (m_repr : mg "repr" = none) (g_InvalidNumber : mg "InvalidNumber" = some (.ref C_InvalidNumber)) : FnOkG P w K mg base CX0 11 f fd ["_law_ground", "_law_rise"] (spTold68b K C_Profile C_Ratio C_LimitExceeded C_InvalidColumn C_InvalidNumber C_RainError) :=
  Rv.FunD.okG F sc__law_best (fun vs H Q E h => by first | (obtain ⟨_, rfl, _⟩ := h; rfl) | (obtain ⟨_, _, rfl, _⟩ := h; rfl) | (obtain ⟨_, _, _, rfl, _⟩ := h; rfl) | (obtain ⟨_, _, _, _, rfl, _⟩ := h; rfl) | (obtain ⟨_, _, _, _, _, rfl, _⟩ := h; rfl) | (obtain ⟨_, _, _, _, _, _, rfl, _⟩ := h; rfl) | (obtain ⟨_, _, _, _, _, _, _, rfl, _⟩ := h; rfl) | (obtain ⟨_, _, _, _, _, _, _, _, rfl, _⟩ := h; rfl) | (obtain ⟨_, _, _, _, _, _, _, _, _, rfl, _⟩ := h; rfl) | (obtain ⟨_, _, _, _, _, _, _, _, _, _, rfl, _⟩ := h; rfl) | (obtain ⟨_, _, _, _, _, _, _, _, _, _, _, rfl, _⟩ := h; rfl) | (obtain ⟨_, _, _, _, _, _, _, _, _, _, _, _, rfl, _⟩ := h; rfl) | (obtain ⟨_, _, _, _, _, _, _, _, _, _, _, _, _, rfl, _⟩ := h; rfl) | (obtain ⟨_, _, _, _, _, _, _, _, _, _, _, _, _, _, rfl, _⟩ := h; rfl) | (obtain ⟨_, _, _, _, _, _, _, _, _, _, _, _, _, _, _, rfl, _⟩ := h; rfl) | (obtain ⟨_, _, _, _, _, _, _, _, _, _, _, _, _, _, _, _, rfl, _⟩ := h; rfl) | (obtain ⟨_, _, _, _, _, _, _, _, _, _, _, _, _, _, _, _, _, rfl, _⟩ := h; rfl) | (obtain ⟨_, _, _, _, _, _, _, _, _, _, _, _, _, _, _, _, _, _, rfl, _⟩ := h; rfl) | (obtain ⟨_, _, _, _, _, _, _, _, _, _, _, _, _, _, _, _, _, _, _, rfl, _⟩ := h; rfl) | (obtain ⟨_, _, _, _, _, _, _, _, _, _, _, _, _, _, _, _, _, _, _, _, rfl, _⟩ := h; rfl) | (obtain ⟨_, _, _, _, _, _, _, _, _, _, _, _, _, _, _, _, _, _, _, _, _, rfl, _⟩ := h; rfl) | (obtain ⟨_, _, _, _, _, _, _, _, _, _, _, _, _, _, _, _, _, _, _, _, _, _, rfl, _⟩ := h; rfl) | (obtain ⟨_, _, _, _, _, _, _, _, _, _, _, _, _, _, _, _, _, _, _, _, _, _, _, rfl, _⟩ := h; rfl) | (obtain ⟨_, _, _, _, _, _, _, _, _, _, _, _, _, _, _, _, _, _, _, _, _, _, _, _, rfl, _⟩ := h; rfl) | (obtain ⟨_, _, _, _, _, _, _, _, _, _, _, _, _, _, _, _, _, _, _, _, _, _, _, _, _, rfl, _⟩ := h; rfl)) (fun cdv A outer s H vs Q E hgd hr h => ⟨_, d__law_best c_best_dam m_tuple m_isinstance m_IndexError ec_InvalidNumber g_RainError xf_InvalidNumber no_InvalidNumber_value cuc_repr m_repr g_InvalidNumber hgd hr, p_told68b h⟩)
abbrev s__law_is_int : Stmt := top 36
theorem sc__law_is_int : FnScope ["_law_value"] ["_law_value"] (defScope s__law_is_int) := ⟨rfl, rfl, rfl, by decide +kernel, rfl, by decide +kernel, by decide +kernel⟩
theorem d__law_is_int {P : Program} {w : World} {K : PySem.W.Frag} {mg : Str → Option Value} {base : Heap} {CX : CXT} {f : Addr} {cdv : Value} {A : Around} {outer : List Env} {s : Shared} {H : Hp} {E : XK} (m_int : mg "int" = none) (m_isinstance : mg "isinstance" = none) (m_bool : mg "bool" = none)
    (hr : Room 0 (A.deeper (envOfC "_law_is_int" (defScope s__law_is_int) s.heap.objs.size f cdv))) :
    PSs (cxOf CX P w K mg base ["_law_value"] "_law_is_int" (defScope s__law_is_int) f cdv A outer s H E) (defBody s__law_is_int) (t__law_is_int K) :=
  (pss_one (ps_ret (pe_and (pe_callB call_isi (by rfl) m_isinstance (by decide +kernel) (pa_cons (pv 0) (pa_cons (pe_bltn (by rfl) m_int (by decide +kernel) rfl) pa_nil))) (pe_one (pe_not (pe_callB call_isi (by rfl) m_isinstance (by decide +kernel) (pa_cons (pv 0) (pa_cons (pe_bltn (by rfl) m_bool (by decide +kernel) rfl) pa_nil))))))))
theorem ok__law_is_int {P : Program} {w : World} {K : PySem.W.Frag} {mg : Str → Option Value} {base : Heap} {f : Addr} {fd : FuncData} (F : FunD K "_law_is_int" "_law_is_int" (defArgs s__law_is_int) (defBody s__law_is_int) (defScope s__law_is_int) [] [] f fd) (m_int : mg "int" = none) (m_isinstance : mg "isinstance" = none) (m_bool : mg "bool" = none) : FnOk P w K mg base CX0 1 f fd ["_law_value"] (spWhole K) :=
  F.ok sc__law_is_int (fun vs H Q E h => by first | (obtain ⟨_, rfl, _⟩ := h; rfl) | (obtain ⟨_, _, rfl, _⟩ := h; rfl) | (obtain ⟨_, _, _, rfl, _⟩ := h; rfl) | (obtain ⟨_, _, _, _, rfl, _⟩ := h; rfl) | (obtain ⟨_, _, _, _, _, rfl, _⟩ := h; rfl) | (obtain ⟨_, _, _, _, _, _, rfl, _⟩ := h; rfl) | (obtain ⟨_, _, _, _, _, _, _, rfl, _⟩ := h; rfl) | (obtain ⟨_, _, _, _, _, _, _, _, rfl, _⟩ := h; rfl) | (obtain ⟨_, _, _, _, _, _, _, _, _, rfl, _⟩ := h; rfl) | (obtain ⟨_, _, _, _, _, _, _, _, _, _, rfl, _⟩ := h; rfl) | (obtain ⟨_, _, _, _, _, _, _, _, _, _, _, rfl, _⟩ := h; rfl) | (obtain ⟨_, _, _, _, _, _, _, _, _, _, _, _, rfl, _⟩ := h; rfl) | (obtain ⟨_, _, _, _, _, _, _, _, _, _, _, _, _, rfl, _⟩ := h; rfl) | (obtain ⟨_, _, _, _, _, _, _, _, _, _, _, _, _, _, rfl, _⟩ := h; rfl) | (obtain ⟨_, _, _, _, _, _, _, _, _, _, _, _, _, _, _, rfl, _⟩ := h; rfl) | (obtain ⟨_, _, _, _, _, _, _, _, _, _, _, _, _, _, _, _, rfl, _⟩ := h; rfl) | (obtain ⟨_, _, _, _, _, _, _, _, _, _, _, _, _, _, _, _, _, rfl, _⟩ := h; rfl) | (obtain ⟨_, _, _, _, _, _, _, _, _, _, _, _, _, _, _, _, _, _, rfl, _⟩ := h; rfl) | (obtain ⟨_, _, _, _, _, _, _, _, _, _, _, _, _, _, _, _, _, _, _, rfl, _⟩ := h; rfl) | (obtain ⟨_, _, _, _, _, _, _, _, _, _, _, _, _, _, _, _, _, _, _, _, rfl, _⟩ := h; rfl) | (obtain ⟨_, _, _, _, _, _, _, _, _, _, _, _, _, _, _, _, _, _, _, _, _, rfl, _⟩ := h; rfl) | (obtain ⟨_, _, _, _, _, _, _, _, _, _, _, _, _, _, _, _, _, _, _, _, _, _, rfl, _⟩ := h; rfl) | (obtain ⟨_, _, _, _, _, _, _, _, _, _, _, _, _, _, _, _, _, _, _, _, _, _, _, rfl, _⟩ := h; rfl) | (obtain ⟨_, _, _, _, _, _, _, _, _, _, _, _, _, _, _, _, _, _, _, _, _, _, _, _, rfl, _⟩ := h; rfl) | (obtain ⟨_, _, _, _, _, _, _, _, _, _, _, _, _, _, _, _, _, _, _, _, _, _, _, _, _, rfl, _⟩ := h; rfl)) (fun cdv A outer s H vs Q E hr h => ⟨_, d__law_is_int m_int m_isinstance m_bool hr, p_isint16 h⟩)
abbrev s__law_due : Stmt := top 37
theorem sc__law_due : FnScope ["_law_heights", "_law_at", "_law_rise"] ["_law_heights", "_law_at", "_law_rise"] (defScope s__law_due) := ⟨rfl, rfl, rfl, by decide +kernel, rfl, by decide +kernel, by decide +kernel⟩
theorem d__law_due {P : Program} {w : World} {K : PySem.W.Frag} {mg : Str → Option Value} {base : Heap} {C_Ratio : Addr} {CX : CXT} {f : Addr} {cdv : Value} {A : Around} {outer : List Env} {s : Shared} {H : Hp} {E : XK} (c__law_is_int : Cal P w K mg base CX0 1 "_law_is_int" ["_law_value"] (spWhole K)) (m_len : mg "len" = none) (cuc_repr : CalUC P w K mg base 1 C_Ratio "__repr__" (spRRepr K C_Ratio)) (m_repr : mg "repr" = none) (hgd : A.guards = some [])
    (hr : Room 2 (A.deeper (envOfC "_law_due" (defScope s__law_due) s.heap.objs.size f cdv))) :
    PSs (cxOf CX P w K mg base ["_law_heights", "_law_at", "_law_rise"] "_law_due" (defScope s__law_due) f cdv A outer s H E) (defBody s__law_due) (t__law_due68 K C_Ratio) :=
  (pss_cons (ps_if (PW.pt (pw_or (pt_not (pt_val (pe_cal c__law_is_int (hr.mono (by decide)) rfl pass0 (pa_cons (pv 1) pa_nil)))) (pw_or1 (pt_not (pt_chain op_le op_lt pe_int (pv 1) (pe_callB call_len_seq (by rfl) m_len (by decide +kernel) (pa_cons (pv 0) pa_nil))))))) (pss_one (ps_ret (pe_tup (pa_cons pe_str (pa_cons (pe_callB (call_reprB cuc_repr hgd (roomH_any (hr.mono (by decide)))) (by rfl) m_repr (by decide +kernel) (pa_cons (pv 1) pa_nil)) (pa_cons pe_bl (pa_cons pe_bl pa_nil))))))) pss_nil)
    (pss_cons (ps_if (PW.pt (pw_or (pt_not (pt_val (pe_cal c__law_is_int (hr.mono (by decide)) rfl pass0 (pa_cons (pv 2) pa_nil)))) (pw_or1 (pt_not (pt_chain op_le op_le pe_int (pv 2) (pe_op op_pow pe_int pe_int)))))) (pss_one (ps_ret (pe_tup (pa_cons pe_str (pa_cons (pe_callB (call_reprB cuc_repr hgd (roomH_any (hr.mono (by decide)))) (by rfl) m_repr (by decide +kernel) (pa_cons (pv 2) pa_nil)) (pa_cons pe_bl (pa_cons pe_bl pa_nil))))))) pss_nil)
    (pss_cons (ps_if (pt_cmpR op_gt (pe_op op_add (pe_ix ix_list (pv 0) (pv 1) (fun _ _ => rfl)) (pv 2)) (pe_op op_pow pe_int pe_int) (nomark _)) (pss_one (ps_ret (pe_tup (pa_cons pe_str (pa_cons (pe_op op_pow pe_int pe_int) (pa_cons pe_bl (pa_cons pe_bl pa_nil))))))) pss_nil)
    (pss_one (ps_ret (pe_tup (pa_cons pe_str (pa_cons pe_bl pa_nil))))))))
theorem ok__law_due {P : Program} {w : World} {K : PySem.W.Frag} {mg : Str → Option Value} {base : Heap} {C_Ratio : Addr} {f : Addr} {fd : FuncData} (F : FunD K "_law_due" "_law_due" (defArgs s__law_due) (defBody s__law_due) (defScope s__law_due) [] [] f fd) (c__law_is_int : Cal P w K mg base CX0 1 "_law_is_int" ["_law_value"] (spWhole K)) (m_len : mg "len" = none) (cuc_repr : CalUC P w K mg base 1 C_Ratio "__repr__" (spRRepr K C_Ratio)) (m_repr : mg "repr" = none) : FnOkG P w K mg base CX0 3 f fd ["_law_heights", "_law_at", "_law_rise"] (spDue68 K C_Ratio) :=
  Rv.FunD.okG F sc__law_due (fun vs H Q E h => by first | (obtain ⟨_, rfl, _⟩ := h; rfl) | (obtain ⟨_, _, rfl, _⟩ := h; rfl) | (obtain ⟨_, _, _, rfl, _⟩ := h; rfl) | (obtain ⟨_, _, _, _, rfl, _⟩ := h; rfl) | (obtain ⟨_, _, _, _, _, rfl, _⟩ := h; rfl) | (obtain ⟨_, _, _, _, _, _, rfl, _⟩ := h; rfl) | (obtain ⟨_, _, _, _, _, _, _, rfl, _⟩ := h; rfl) | (obtain ⟨_, _, _, _, _, _, _, _, rfl, _⟩ := h; rfl) | (obtain ⟨_, _, _, _, _, _, _, _, _, rfl, _⟩ := h; rfl) | (obtain ⟨_, _, _, _, _, _, _, _, _, _, rfl, _⟩ := h; rfl) | (obtain ⟨_, _, _, _, _, _, _, _, _, _, _, rfl, _⟩ := h; rfl) | (obtain ⟨_, _, _, _, _, _, _, _, _, _, _, _, rfl, _⟩ := h; rfl) | (obtain ⟨_, _, _, _, _, _, _, _, _, _, _, _, _, rfl, _⟩ := h; rfl) | (obtain ⟨_, _, _, _, _, _, _, _, _, _, _, _, _, _, rfl, _⟩ := h; rfl) | (obtain ⟨_, _, _, _, _, _, _, _, _, _, _, _, _, _, _, rfl, _⟩ := h; rfl) | (obtain ⟨_, _, _, _, _, _, _, _, _, _, _, _, _, _, _, _, rfl, _⟩ := h; rfl) | (obtain ⟨_, _, _, _, _, _, _, _, _, _, _, _, _, _, _, _, _, rfl, _⟩ := h; rfl) | (obtain ⟨_, _, _, _, _, _, _, _, _, _, _, _, _, _, _, _, _, _, rfl, _⟩ := h; rfl) | (obtain ⟨_, _, _, _, _, _, _, _, _, _, _, _, _, _, _, _, _, _, _, rfl, _⟩ := h; rfl) | (obtain ⟨_, _, _, _, _, _, _, _, _, _, _, _, _, _, _, _, _, _, _, _, rfl, _⟩ := h; rfl) | (obtain ⟨_, _, _, _, _, _, _, _, _, _, _, _, _, _, _, _, _, _, _, _, _, rfl, _⟩ := h; rfl) | (obtain ⟨_, _, _, _, _, _, _, _, _, _, _, _, _, _, _, _, _, _, _, _, _, _, rfl, _⟩ := h; rfl) | (obtain ⟨_, _, _, _, _, _, _, _, _, _, _, _, _, _, _, _, _, _, _, _, _, _, _, rfl, _⟩ := h; rfl) | (obtain ⟨_, _, _, _, _, _, _, _, _, _, _, _, _, _, _, _, _, _, _, _, _, _, _, _, rfl, _⟩ := h; rfl) | (obtain ⟨_, _, _, _, _, _, _, _, _, _, _, _, _, _, _, _, _, _, _, _, _, _, _, _, _, rfl, _⟩ := h; rfl)) (fun cdv A outer s H vs Q E hgd hr h => ⟨_, d__law_due c__law_is_int m_len cuc_repr m_repr hgd hr, p_due68 h⟩)
abbrev s__law_best_due : Stmt := top 38
theorem sc__law_best_due : FnScope ["_law_rise"] ["_law_rise"] (defScope s__law_best_due) := ⟨rfl, rfl, rfl, by decide +kernel, rfl, by decide +kernel, by decide +kernel⟩
theorem d__law_best_due {P : Program} {w : World} {K : PySem.W.Frag} {mg : Str → Option Value} {base : Heap} {C_Ratio : Addr} {CX : CXT} {f : Addr} {cdv : Value} {A : Around} {outer : List Env} {s : Shared} {H : Hp} {E : XK} (c__law_is_int : Cal P w K mg base CX0 1 "_law_is_int" ["_law_value"] (spWhole K)) (cuc_repr : CalUC P w K mg base 1 C_Ratio "__repr__" (spRRepr K C_Ratio)) (m_repr : mg "repr" = none) (hgd : A.guards = some [])
    (hr : Room 2 (A.deeper (envOfC "_law_best_due" (defScope s__law_best_due) s.heap.objs.size f cdv))) :
    PSs (cxOf CX P w K mg base ["_law_rise"] "_law_best_due" (defScope s__law_best_due) f cdv A outer s H E) (defBody s__law_best_due) (t__law_best_due K C_Ratio) :=
  (pss_cons (ps_if (PW.pt (pw_or (pt_not (pt_val (pe_cal c__law_is_int (hr.mono (by decide)) rfl pass0 (pa_cons (pv 0) pa_nil)))) (pw_or1 (pt_not (pt_chain op_le op_le pe_int (pv 0) (pe_op op_pow pe_int pe_int)))))) (pss_one (ps_ret (pe_tup (pa_cons pe_str (pa_cons (pe_callB (call_reprB cuc_repr hgd (roomH_any (hr.mono (by decide)))) (by rfl) m_repr (by decide +kernel) (pa_cons (pv 0) pa_nil)) (pa_cons pe_bl (pa_cons pe_bl pa_nil))))))) pss_nil)
    (pss_one (ps_ret (pe_tup (pa_cons pe_str (pa_cons pe_bl pa_nil))))))
theorem ok__law_best_due {P : Program} {w : World} {K : PySem.W.Frag} {mg : Str → Option Value} {base : Heap} {C_Ratio : Addr} {f : Addr} {fd : FuncData} (F : FunD K "_law_best_due" "_law_best_due" (defArgs s__law_best_due) (defBody s__law_best_due) (defScope s__law_best_due) [] [] f fd) (c__law_is_int : Cal P w K mg base CX0 1 "_law_is_int" ["_law_value"] (spWhole K)) (cuc_repr : CalUC P w K mg base 1 C_Ratio "__repr__" (spRRepr K C_Ratio)) (m_repr : mg "repr" = none) : FnOkG P w K mg base CX0 3 f fd ["_law_rise"] (spDue68b K C_Ratio) :=
  Rv.FunD.okG F sc__law_best_due (fun vs H Q E h => by first | (obtain ⟨_, rfl, _⟩ := h; rfl) | (obtain ⟨_, _, rfl, _⟩ := h; rfl) | (obtain ⟨_, _, _, rfl, _⟩ := h; rfl) | (obtain ⟨_, _, _, _, rfl, _⟩ := h; rfl) | (obtain ⟨_, _, _, _, _, rfl, _⟩ := h; rfl) | (obtain ⟨_, _, _, _, _, _, rfl, _⟩ := h; rfl) | (obtain ⟨_, _, _, _, _, _, _, rfl, _⟩ := h; rfl) | (obtain ⟨_, _, _, _, _, _, _, _, rfl, _⟩ := h; rfl) | (obtain ⟨_, _, _, _, _, _, _, _, _, rfl, _⟩ := h; rfl) | (obtain ⟨_, _, _, _, _, _, _, _, _, _, rfl, _⟩ := h; rfl) | (obtain ⟨_, _, _, _, _, _, _, _, _, _, _, rfl, _⟩ := h; rfl) | (obtain ⟨_, _, _, _, _, _, _, _, _, _, _, _, rfl, _⟩ := h; rfl) | (obtain ⟨_, _, _, _, _, _, _, _, _, _, _, _, _, rfl, _⟩ := h; rfl) | (obtain ⟨_, _, _, _, _, _, _, _, _, _, _, _, _, _, rfl, _⟩ := h; rfl) | (obtain ⟨_, _, _, _, _, _, _, _, _, _, _, _, _, _, _, rfl, _⟩ := h; rfl) | (obtain ⟨_, _, _, _, _, _, _, _, _, _, _, _, _, _, _, _, rfl, _⟩ := h; rfl) | (obtain ⟨_, _, _, _, _, _, _, _, _, _, _, _, _, _, _, _, _, rfl, _⟩ := h; rfl) | (obtain ⟨_, _, _, _, _, _, _, _, _, _, _, _, _, _, _, _, _, _, rfl, _⟩ := h; rfl) | (obtain ⟨_, _, _, _, _, _, _, _, _, _, _, _, _, _, _, _, _, _, _, rfl, _⟩ := h; rfl) | (obtain ⟨_, _, _, _, _, _, _, _, _, _, _, _, _, _, _, _, _, _, _, _, rfl, _⟩ := h; rfl) | (obtain ⟨_, _, _, _, _, _, _, _, _, _, _, _, _, _, _, _, _, _, _, _, _, rfl, _⟩ := h; rfl) | (obtain ⟨_, _, _, _, _, _, _, _, _, _, _, _, _, _, _, _, _, _, _, _, _, _, rfl, _⟩ := h; rfl) | (obtain ⟨_, _, _, _, _, _, _, _, _, _, _, _, _, _, _, _, _, _, _, _, _, _, _, rfl, _⟩ := h; rfl) | (obtain ⟨_, _, _, _, _, _, _, _, _, _, _, _, _, _, _, _, _, _, _, _, _, _, _, _, rfl, _⟩ := h; rfl) | (obtain ⟨_, _, _, _, _, _, _, _, _, _, _, _, _, _, _, _, _, _, _, _, _, _, _, _, _, rfl, _⟩ := h; rfl)) (fun cdv A outer s H vs Q E hgd hr h => ⟨_, d__law_best_due c__law_is_int cuc_repr m_repr hgd hr, p_due68b h⟩)
abbrev s_law : Stmt := top 39
theorem sc_law : FnScope ["_law_script", "_law_draws_here", "_law_many", "_law_size", "_law_heights", "_law_ground", "_law_turn", "_law_far", "_law_far_rise", "_law_less", "_law_wrong", "_law_odd", "_law_at", "_law_rise", "_law_k", "_law_one"] ["_law_script"] (defScope s_law) := ⟨rfl, rfl, rfl, by decide +kernel, rfl, by decide +kernel, by decide +kernel⟩
theorem d_law {P : Program} {w : World} {K : PySem.W.Frag} {mg : Str → Option Value} {base : Heap} {C_Profile : Addr} {C_Ratio : Addr} {C_LimitExceeded : Addr} {C_InvalidColumn : Addr} {C_InvalidNumber : Addr} {C_RainError : Addr} {CX : CXT} {f : Addr} {cdv : Value} {A : Around} {outer : List Env} {s : Shared} {H : Hp} {E : XK} (c__law_draws : Cal P w K mg base CX0 1 "_law_draws" ["_law_script"] (spDraws K)) (c__law_draw : Cal P w K mg base CX0 1 "_law_draw" ["_law_draws_here", "_law_many"] (spDraw K)) (m_range : mg "range" = none) (cm2_Profile : CalM P w K mg base CX0 5 "Profile" C_Profile ["self", "heights", "widths"] (spInit K C_Profile) []) (cm1_Ratio : CalM P w K mg base CX0 2 "Ratio" C_Ratio ["self", "numerator", "denominator"] (spRInit K C_Ratio) [.int 1]) (m_int : mg "int" = none) (c__law_gained : CalG P w K mg base CX0 11 "_law_gained" ["_law_ground", "_law_at", "_law_rise"] (spTold68 K C_Profile C_Ratio C_LimitExceeded C_InvalidColumn C_InvalidNumber C_RainError)) (c__law_due : CalG P w K mg base CX0 3 "_law_due" ["_law_heights", "_law_at", "_law_rise"] (spDue68 K C_Ratio)) (c__law_best : CalG P w K mg base CX0 11 "_law_best" ["_law_ground", "_law_rise"] (spTold68b K C_Profile C_Ratio C_LimitExceeded C_InvalidColumn C_InvalidNumber C_RainError)) (c__law_best_due : CalG P w K mg base CX0 3 "_law_best_due" ["_law_rise"] (spDue68b K C_Ratio)) (cp_heights : CalP P w K mg base CX0 1 C_Profile "heights" (getSp C_Profile "column_heights")) (m_tuple : mg "tuple" = none) (hgd : A.guards = some [])
    (hr : Room 11 (A.deeper (envOfC "law" (defScope s_law) s.heap.objs.size f cdv))) :
    PSs (cxOf CX P w K mg base ["_law_script", "_law_draws_here", "_law_many", "_law_size", "_law_heights", "_law_ground", "_law_turn", "_law_far", "_law_far_rise", "_law_less", "_law_wrong", "_law_odd", "_law_at", "_law_rise", "_law_k", "_law_one"] "law" (defScope s_law) f cdv A outer s H E) (defBody s_law) (t_law68 K C_Profile C_Ratio C_LimitExceeded C_InvalidColumn C_InvalidNumber C_RainError) :=
  (pss_cons (ps_set (i := 1) sc_law.nd rfl (by first | exact Or.inl rfl | exact Or.inr rfl) (pe_cal c__law_draws (hr.mono (by decide)) rfl pass0 (pa_cons (pv 0) pa_nil)))
    (pss_cons (ps_set (i := 2) sc_law.nd rfl (by first | exact Or.inl rfl | exact Or.inr rfl) (pe_op op_add pe_int (pe_cal c__law_draw (hr.mono (by decide)) rfl pass0 (pa_cons (pv 1) (pa_cons (pe_ix ix_list (pe_lst (pa_cons pe_int (pa_cons pe_int (pa_cons pe_int (pa_cons pe_int (pa_cons pe_int pa_nil)))))) (pe_cal c__law_draw (hr.mono (by decide)) rfl pass0 (pa_cons (pv 1) (pa_cons pe_int pa_nil))) (fun _ _ => rfl)) pa_nil)))))
    (pss_cons (ps_set (i := 3) sc_law.nd rfl (by first | exact Or.inl rfl | exact Or.inr rfl) (pe_ix ix_list (pe_lst (pa_cons pe_int (pa_cons (pe_op op_pow pe_int pe_int) pa_nil))) (pe_cal c__law_draw (hr.mono (by decide)) rfl pass0 (pa_cons (pv 1) (pa_cons pe_int pa_nil))) (fun _ _ => rfl)))
    (pss_cons (ps_setLc (i := 4) (own := [("_law_k", 14)]) (g := (gName 14)) (tt := tYes) (te := (tOp oSub (tCall (spDraw K) [] E0 (tCons (tVar 1) (tCons (tOp oAdd (tOp oMul (tC (.int 2)) (tVar 3)) (tC (.int 1))) tNil))) (tVar 3))) rfl sc_law.nd rfl rfl (sw_true rfl rfl rfl (by decide +kernel)) (pi_range1 rfl m_range (pa_cons (pv 2) pa_nil)) (blkOk_by (N := ["_law_script", "_law_draws_here", "_law_many", "_law_size", "_law_heights", "_law_ground", "_law_turn", "_law_far", "_law_far_rise", "_law_less", "_law_wrong", "_law_odd", "_law_at", "_law_rise", "_law_k", "_law_one"]) (sc := defScope s_law) (by decide +kernel)) (fun _ _ _ _ _ => (pg_name (i := 14) sc_law.nd rfl (by first | exact Or.inl rfl | exact Or.inr rfl))) (fun _ _ _ _ _ => pts_nil) (fun _ _ _ _ _ => (pe_op op_sub (pe_cal c__law_draw (hr.mono (by decide)) rfl pass0 (pa_cons (pv 1) (pa_cons (pe_op op_add (pe_op op_mul pe_int (pv 3)) pe_int) pa_nil))) (pv 3))))
    (pss_cons (ps_set (i := 5) sc_law.nd rfl (by first | exact Or.inl rfl | exact Or.inr rfl) (pe_calm cm2_Profile (hr.mono (by decide)) rfl pass0 (pa_cons (pv 4) (pa_cons (pe_lc (own := [("_law_one", 15)]) (g := (gName 15)) (tt := tYes) (te := (tOp oAdd (tC (.int 1)) (tCall (spDraw K) [] E0 (tCons (tVar 1) (tCons (tC (.int 9)) tNil))))) rfl sc_law.nd (pi_list (pv 4)) (blkOk_by (N := ["_law_script", "_law_draws_here", "_law_many", "_law_size", "_law_heights", "_law_ground", "_law_turn", "_law_far", "_law_far_rise", "_law_less", "_law_wrong", "_law_odd", "_law_at", "_law_rise", "_law_k", "_law_one"]) (sc := defScope s_law) (by decide +kernel)) (fun _ _ _ _ _ => (pg_name (i := 15) sc_law.nd rfl (by first | exact Or.inl rfl | exact Or.inr rfl))) (fun _ _ _ _ _ => pts_nil) (fun _ _ _ _ _ => (pe_op op_add pe_int (pe_cal c__law_draw (hr.mono (by decide)) rfl pass0 (pa_cons (pv 1) (pa_cons pe_int pa_nil)))))) pa_nil))))
    (pss_cons (ps_for (passes_of rfl) rfl (pi_range1 rfl m_range (pa_cons pe_int pa_nil)) (pg_name (i := 6) sc_law.nd rfl (by first | exact Or.inl rfl | exact Or.inr rfl)) (pss_cons (ps_set (i := 7) sc_law.nd rfl (by first | exact Or.inl rfl | exact Or.inr rfl) (pe_op op_add (pv 2) (pe_cal c__law_draw (hr.mono (by decide)) rfl pass0 (pa_cons (pv 1) (pa_cons (pe_op op_pow pe_int pe_int) pa_nil)))))
    (pss_cons (ps_set (i := 8) sc_law.nd rfl (by first | exact Or.inl rfl | exact Or.inr rfl) (pe_op op_add (pe_op op_add (pe_op op_pow pe_int pe_int) pe_int) (pe_cal c__law_draw (hr.mono (by decide)) rfl pass0 (pa_cons (pv 1) (pa_cons (pe_op op_pow pe_int pe_int) pa_nil)))))
    (pss_cons (ps_set (i := 9) sc_law.nd rfl (by first | exact Or.inl rfl | exact Or.inr rfl) (pe_op op_sub (pe_op op_sub pe_int pe_int) (pe_cal c__law_draw (hr.mono (by decide)) rfl pass0 (pa_cons (pv 1) (pa_cons (pv 2) pa_nil)))))
    (pss_cons (ps_set (i := 10) sc_law.nd rfl (by first | exact Or.inl rfl | exact Or.inr rfl) (pe_lst (pa_cons pe_non (pa_cons pe_bl (pa_cons pe_bl (pa_cons pe_str (pa_cons (pe_tup pa_nil) (pa_cons (pe_lst (pa_cons pe_int pa_nil)) (pa_cons pe_dnewK (pa_cons (pv 9) (pa_cons (pe_op op_sub (pe_op op_sub pe_int (pv 7)) pe_int) (pa_cons (pv 7) (pa_cons (pv 2) (pa_cons (pe_calm cm1_Ratio (hr.mono (by decide)) rfl pass0 (pa_cons pe_int pa_nil)) pa_nil))))))))))))))
    (pss_cons (ps_set (i := 11) sc_law.nd rfl (by first | exact Or.inl rfl | exact Or.inr rfl) (pe_lst (pa_cons pe_non (pa_cons pe_bl (pa_cons pe_bl (pa_cons pe_str (pa_cons (pe_tup pa_nil) (pa_cons (pe_lst (pa_cons pe_int pa_nil)) (pa_cons pe_dnewK (pa_cons (pe_un un_neg pe_int) (pa_cons (pe_op op_sub pe_int (pv 8)) (pa_cons (pv 8) (pa_cons (pe_calm cm1_Ratio (hr.mono (by decide)) rfl pass0 (pa_cons pe_int pa_nil)) (pa_cons (pe_calm cm1_Ratio (hr.mono (by decide)) rfl pass0 (pa_cons pe_int pa_nil)) pa_nil))))))))))))))
    (pss_cons (ps_set (i := 12) sc_law.nd rfl (by first | exact Or.inl rfl | exact Or.inr rfl) (pe_ix ix_list (pe_lst (pa_cons (pe_ix ix_list (pv 10) (pe_cal c__law_draw (hr.mono (by decide)) rfl pass0 (pa_cons (pv 1) (pa_cons pe_int pa_nil))) (fun _ _ => rfl)) (pa_cons (pe_cal c__law_draw (hr.mono (by decide)) rfl pass0 (pa_cons (pv 1) (pa_cons (pv 2) pa_nil))) pa_nil))) (pe_callTy call_int1 (by rfl) m_int (by decide +kernel) (pa_cons (pe_cmpR op_gt (pe_cal c__law_draw (hr.mono (by decide)) rfl pass0 (pa_cons (pv 1) (pa_cons pe_int pa_nil))) pe_int (nomark _)) pa_nil)) (fun _ _ => rfl)))
    (pss_cons (ps_set (i := 13) sc_law.nd rfl (by first | exact Or.inl rfl | exact Or.inr rfl) (pe_ix ix_list (pe_lst (pa_cons (pe_ix ix_list (pv 11) (pe_cal c__law_draw (hr.mono (by decide)) rfl pass0 (pa_cons (pv 1) (pa_cons pe_int pa_nil))) (fun _ _ => rfl)) (pa_cons (pe_cal c__law_draw (hr.mono (by decide)) rfl pass0 (pa_cons (pv 1) (pa_cons pe_int pa_nil))) (pa_cons (pe_cal c__law_draw (hr.mono (by decide)) rfl pass0 (pa_cons (pv 1) (pa_cons (pe_op op_add (pe_op op_pow pe_int pe_int) pe_int) pa_nil))) pa_nil)))) (pe_cal c__law_draw (hr.mono (by decide)) rfl pass0 (pa_cons (pv 1) (pa_cons pe_int pa_nil))) (fun _ _ => rfl)))
    (pss_cons (ps_if (pt_cmpR (op_neD hr.units) (pe_calG c__law_gained hgd (hr.mono (by decide)) rfl pass0 (pa_cons (pv 5) (pa_cons (pv 12) (pa_cons (pv 13) pa_nil)))) (pe_calG c__law_due hgd (hr.mono (by decide)) rfl pass0 (pa_cons (pv 4) (pa_cons (pv 12) (pa_cons (pv 13) pa_nil)))) (nomark _)) (pss_one (ps_ret pe_bl)) pss_nil)
    (pss_one (ps_if (pt_cmpR (op_neD hr.units) (pe_calG c__law_best hgd (hr.mono (by decide)) rfl pass0 (pa_cons (pv 5) (pa_cons (pv 13) pa_nil))) (pe_calG c__law_best_due hgd (hr.mono (by decide)) rfl pass0 (pa_cons (pv 13) pa_nil)) (nomark _)) (pss_one (ps_ret pe_bl)) pss_nil)))))))))))
    (pss_one (ps_ret (pe_cmpR (op_eqD hr.units) (pe_calp cp_heights (hr.mono (by decide)) pass0 (pv 5) rfl) (pe_callTy call_tuple_of (by rfl) m_tuple (by decide +kernel) (pa_cons (pv 4) pa_nil)) (nomark _))))))))))
theorem ok_law {P : Program} {w : World} {K : PySem.W.Frag} {mg : Str → Option Value} {base : Heap} {C_Profile : Addr} {C_Ratio : Addr} {C_LimitExceeded : Addr} {C_InvalidColumn : Addr} {C_InvalidNumber : Addr} {C_RainError : Addr} {f : Addr} {fd : FuncData} (F : FunD K "law" "law" (defArgs s_law) (defBody s_law) (defScope s_law) [] [] f fd) (c__law_draws : Cal P w K mg base CX0 1 "_law_draws" ["_law_script"] (spDraws K)) (c__law_draw : Cal P w K mg base CX0 1 "_law_draw" ["_law_draws_here", "_law_many"] (spDraw K)) (m_range : mg "range" = none) (cm2_Profile : CalM P w K mg base CX0 5 "Profile" C_Profile ["self", "heights", "widths"] (spInit K C_Profile) []) (cm1_Ratio : CalM P w K mg base CX0 2 "Ratio" C_Ratio ["self", "numerator", "denominator"] (spRInit K C_Ratio) [.int 1]) (m_int : mg "int" = none) (c__law_gained : CalG P w K mg base CX0 11 "_law_gained" ["_law_ground", "_law_at", "_law_rise"] (spTold68 K C_Profile C_Ratio C_LimitExceeded C_InvalidColumn C_InvalidNumber C_RainError)) (c__law_due : CalG P w K mg base CX0 3 "_law_due" ["_law_heights", "_law_at", "_law_rise"] (spDue68 K C_Ratio)) (c__law_best : CalG P w K mg base CX0 11 "_law_best" ["_law_ground", "_law_rise"] (spTold68b K C_Profile C_Ratio C_LimitExceeded C_InvalidColumn C_InvalidNumber C_RainError)) (c__law_best_due : CalG P w K mg base CX0 3 "_law_best_due" ["_law_rise"] (spDue68b K C_Ratio)) (cp_heights : CalP P w K mg base CX0 1 C_Profile "heights" (getSp C_Profile "column_heights")) (m_tuple : mg "tuple" = none) : FnOkG P w K mg base CX0 12 f fd ["_law_script"] (spLaw68 K C_Profile C_Ratio C_LimitExceeded C_InvalidColumn C_InvalidNumber C_RainError) :=
  Rv.FunD.okG F sc_law (fun vs H Q E h => by first | (obtain ⟨_, rfl, _⟩ := h; rfl) | (obtain ⟨_, _, rfl, _⟩ := h; rfl) | (obtain ⟨_, _, _, rfl, _⟩ := h; rfl) | (obtain ⟨_, _, _, _, rfl, _⟩ := h; rfl) | (obtain ⟨_, _, _, _, _, rfl, _⟩ := h; rfl) | (obtain ⟨_, _, _, _, _, _, rfl, _⟩ := h; rfl) | (obtain ⟨_, _, _, _, _, _, _, rfl, _⟩ := h; rfl) | (obtain ⟨_, _, _, _, _, _, _, _, rfl, _⟩ := h; rfl) | (obtain ⟨_, _, _, _, _, _, _, _, _, rfl, _⟩ := h; rfl) | (obtain ⟨_, _, _, _, _, _, _, _, _, _, rfl, _⟩ := h; rfl) | (obtain ⟨_, _, _, _, _, _, _, _, _, _, _, rfl, _⟩ := h; rfl) | (obtain ⟨_, _, _, _, _, _, _, _, _, _, _, _, rfl, _⟩ := h; rfl) | (obtain ⟨_, _, _, _, _, _, _, _, _, _, _, _, _, rfl, _⟩ := h; rfl) | (obtain ⟨_, _, _, _, _, _, _, _, _, _, _, _, _, _, rfl, _⟩ := h; rfl) | (obtain ⟨_, _, _, _, _, _, _, _, _, _, _, _, _, _, _, rfl, _⟩ := h; rfl) | (obtain ⟨_, _, _, _, _, _, _, _, _, _, _, _, _, _, _, _, rfl, _⟩ := h; rfl) | (obtain ⟨_, _, _, _, _, _, _, _, _, _, _, _, _, _, _, _, _, rfl, _⟩ := h; rfl) | (obtain ⟨_, _, _, _, _, _, _, _, _, _, _, _, _, _, _, _, _, _, rfl, _⟩ := h; rfl) | (obtain ⟨_, _, _, _, _, _, _, _, _, _, _, _, _, _, _, _, _, _, _, rfl, _⟩ := h; rfl) | (obtain ⟨_, _, _, _, _, _, _, _, _, _, _, _, _, _, _, _, _, _, _, _, rfl, _⟩ := h; rfl) | (obtain ⟨_, _, _, _, _, _, _, _, _, _, _, _, _, _, _, _, _, _, _, _, _, rfl, _⟩ := h; rfl) | (obtain ⟨_, _, _, _, _, _, _, _, _, _, _, _, _, _, _, _, _, _, _, _, _, _, rfl, _⟩ := h; rfl) | (obtain ⟨_, _, _, _, _, _, _, _, _, _, _, _, _, _, _, _, _, _, _, _, _, _, _, rfl, _⟩ := h; rfl) | (obtain ⟨_, _, _, _, _, _, _, _, _, _, _, _, _, _, _, _, _, _, _, _, _, _, _, _, rfl, _⟩ := h; rfl) | (obtain ⟨_, _, _, _, _, _, _, _, _, _, _, _, _, _, _, _, _, _, _, _, _, _, _, _, _, rfl, _⟩ := h; rfl)) (fun cdv A outer s H vs Q E hgd hr h => ⟨_, d_law c__law_draws c__law_draw m_range cm2_Profile cm1_Ratio m_int c__law_gained c__law_due c__law_best c__law_best_due cp_heights m_tuple hgd hr, p_law68 h⟩)
def D_LimitExceeded___init__ : He.DefD := ⟨("LimitExceeded", some "__init__"), "__init__", "LimitExceeded.__init__", defArgs s_LimitExceeded___init__, defBody s_LimitExceeded___init__, defScope s_LimitExceeded___init__, [], []⟩
def D_InvalidColumn___init__ : He.DefD := ⟨("InvalidColumn", some "__init__"), "__init__", "InvalidColumn.__init__", defArgs s_InvalidColumn___init__, defBody s_InvalidColumn___init__, defScope s_InvalidColumn___init__, [], []⟩
def D_InvalidNumber___init__ : He.DefD := ⟨("InvalidNumber", some "__init__"), "__init__", "InvalidNumber.__init__", defArgs s_InvalidNumber___init__, defBody s_InvalidNumber___init__, defScope s_InvalidNumber___init__, [], []⟩
def D__law_draws : He.DefD := ⟨("_law_draws", none), "_law_draws", "_law_draws", defArgs s__law_draws, defBody s__law_draws, defScope s__law_draws, [], []⟩
def D__law_draw : He.DefD := ⟨("_law_draw", none), "_law_draw", "_law_draw", defArgs s__law_draw, defBody s__law_draw, defScope s__law_draw, [], []⟩
def D_is_whole : He.DefD := ⟨("is_whole", none), "is_whole", "is_whole", defArgs s_is_whole, defBody s_is_whole, defScope s_is_whole, [], []⟩
def D_is_whole_within : He.DefD := ⟨("is_whole_within", none), "is_whole_within", "is_whole_within", defArgs s_is_whole_within, defBody s_is_whole_within, defScope s_is_whole_within, [], []⟩
def D_first_outside : He.DefD := ⟨("first_outside", none), "first_outside", "first_outside", defArgs s_first_outside, defBody s_first_outside, defScope s_first_outside, [], []⟩
def D_is_row : He.DefD := ⟨("is_row", none), "is_row", "is_row", defArgs s_is_row, defBody s_is_row, defScope s_is_row, [], []⟩
def D_check_heights : He.DefD := ⟨("check_heights", none), "check_heights", "check_heights", defArgs s_check_heights, defBody s_check_heights, defScope s_check_heights, [], []⟩
def D_check_widths : He.DefD := ⟨("check_widths", none), "check_widths", "check_widths", defArgs s_check_widths, defBody s_check_widths, defScope s_check_widths, [], []⟩
def D_Profile___init__ : He.DefD := ⟨("Profile", some "__init__"), "__init__", "Profile.__init__", defArgs s_Profile___init__, defBody s_Profile___init__, defScope s_Profile___init__, [.non], []⟩
def D_grown_profile : He.DefD := ⟨("grown_profile", none), "grown_profile", "grown_profile", defArgs s_grown_profile, defBody s_grown_profile, defScope s_grown_profile, [], []⟩
def D_Profile___len__ : He.DefD := ⟨("Profile", some "__len__"), "__len__", "Profile.__len__", defArgs s_Profile___len__, defBody s_Profile___len__, defScope s_Profile___len__, [], []⟩
def D_Profile_raised : He.DefD := ⟨("Profile", some "raised"), "raised", "Profile.raised", defArgs s_Profile_raised, defBody s_Profile_raised, defScope s_Profile_raised, [], []⟩
def D_common_divisor : He.DefD := ⟨("common_divisor", none), "common_divisor", "common_divisor", defArgs s_common_divisor, defBody s_common_divisor, defScope s_common_divisor, [], []⟩
def D_gap : He.DefD := ⟨("gap", none), "gap", "gap", defArgs s_gap, defBody s_gap, defScope s_gap, [], []⟩
def D_Ratio___init__ : He.DefD := ⟨("Ratio", some "__init__"), "__init__", "Ratio.__init__", defArgs s_Ratio___init__, defBody s_Ratio___init__, defScope s_Ratio___init__, [.int 1], []⟩
def D_Ratio___repr__ : He.DefD := ⟨("Ratio", some "__repr__"), "__repr__", "Ratio.__repr__", defArgs s_Ratio___repr__, defBody s_Ratio___repr__, defScope s_Ratio___repr__, [], []⟩
def D_as_ratio : He.DefD := ⟨("as_ratio", none), "as_ratio", "as_ratio", defArgs s_as_ratio, defBody s_as_ratio, defScope s_as_ratio, [], []⟩
def D_Ratio___sub__ : He.DefD := ⟨("Ratio", some "__sub__"), "__sub__", "Ratio.__sub__", defArgs s_Ratio___sub__, defBody s_Ratio___sub__, defScope s_Ratio___sub__, [], []⟩
def D_Ratio___gt__ : He.DefD := ⟨("Ratio", some "__gt__"), "__gt__", "Ratio.__gt__", defArgs s_Ratio___gt__, defBody s_Ratio___gt__, defScope s_Ratio___gt__, [], []⟩
def D_end_surfaces : He.DefD := ⟨("end_surfaces", none), "end_surfaces", "end_surfaces", defArgs s_end_surfaces, defBody s_end_surfaces, defScope s_end_surfaces, [], []⟩
def D_end_volume : He.DefD := ⟨("end_volume", none), "end_volume", "end_volume", defArgs s_end_volume, defBody s_end_volume, defScope s_end_volume, [], []⟩
def D_dam_gain : He.DefD := ⟨("dam_gain", none), "dam_gain", "dam_gain", defArgs s_dam_gain, defBody s_dam_gain, defScope s_dam_gain, [], []⟩
def D_best_dam : He.DefD := ⟨("best_dam", none), "best_dam", "best_dam", defArgs s_best_dam, defBody s_best_dam, defScope s_best_dam, [], []⟩
def D__law_gained : He.DefD := ⟨("_law_gained", none), "_law_gained", "_law_gained", defArgs s__law_gained, defBody s__law_gained, defScope s__law_gained, [], []⟩
def D__law_best : He.DefD := ⟨("_law_best", none), "_law_best", "_law_best", defArgs s__law_best, defBody s__law_best, defScope s__law_best, [], []⟩
def D__law_is_int : He.DefD := ⟨("_law_is_int", none), "_law_is_int", "_law_is_int", defArgs s__law_is_int, defBody s__law_is_int, defScope s__law_is_int, [], []⟩
def D__law_due : He.DefD := ⟨("_law_due", none), "_law_due", "_law_due", defArgs s__law_due, defBody s__law_due, defScope s__law_due, [], []⟩
def D__law_best_due : He.DefD := ⟨("_law_best_due", none), "_law_best_due", "_law_best_due", defArgs s__law_best_due, defBody s__law_best_due, defScope s__law_best_due, [], []⟩
def D_law : He.DefD := ⟨("law", none), "law", "law", defArgs s_law, defBody s_law, defScope s_law, [], []⟩
def fn : List He.DefD := [D_LimitExceeded___init__, D_InvalidColumn___init__, D_InvalidNumber___init__, D__law_draws, D__law_draw, D_is_whole, D_is_whole_within, D_first_outside, D_is_row, D_check_heights, D_check_widths, D_Profile___init__, D_grown_profile, D_Profile___len__, D_Profile_raised, D_common_divisor, D_gap, D_Ratio___init__, D_Ratio___repr__, D_as_ratio, D_Ratio___sub__, D_Ratio___gt__, D_end_surfaces, D_end_volume, D_dam_gain, D_best_dam, D__law_gained, D__law_best, D__law_is_int, D__law_due, D__law_best_due, D_law]
def loose : List PySem.Str := [("_wall" : PySem.Str), ("__name__" : PySem.Str), ("RainError" : PySem.Str), ("InvalidNumber" : PySem.Str), ("InvalidProfile" : PySem.Str), ("InvalidWidths" : PySem.Str), ("InvalidColumn" : PySem.Str), ("LimitExceeded" : PySem.Str), ("is_whole" : PySem.Str), ("is_whole_within" : PySem.Str), ("first_outside" : PySem.Str), ("MOST_COLUMNS" : PySem.Str), ("GREATEST" : PySem.Str), ("is_row" : PySem.Str), ("check_heights" : PySem.Str), ("check_widths" : PySem.Str), ("grown_profile" : PySem.Str), ("Profile" : PySem.Str), ("common_divisor" : PySem.Str), ("as_ratio" : PySem.Str), ("gap" : PySem.Str), ("Ratio" : PySem.Str), ("end_surfaces" : PySem.Str), ("end_volume" : PySem.Str), ("dam_gain" : PySem.Str), ("best_dam" : PySem.Str), ("_law_draws" : PySem.Str), ("_law_draw" : PySem.Str), ("_law_gained" : PySem.Str), ("_law_best" : PySem.Str), ("_law_is_int" : PySem.Str), ("_law_due" : PySem.Str), ("_law_best_due" : PySem.Str)]
def fa : List He.Fa := [.free "OverflowError", .free "IndexError", .free "len", .free "int", .free "isinstance", .free "bool", .free "enumerate", .free "tuple", .free "list", .int "MOST_COLUMNS" 60, .int "GREATEST" 1000000000000000000000000000000, .free "abs", .free "range", .free "max", .free "zip", .free "min", .free "sum", .free "repr", .glo "InvalidColumn", .glo "InvalidNumber", .glo "LimitExceeded", .glo "Profile", .cls "Profile", .glo "Ratio", .cls "Ratio", .glo "RainError", .noat "Profile" "column_heights", .noat "Profile" "column_widths", .mkr "Profile", .noat "Ratio" "reduced_top", .noat "Ratio" "reduced_bottom", .mkr "Ratio", .meth "LimitExceeded" "__init__", .meth "InvalidColumn" "__init__", .meth "InvalidNumber" "__init__", .glo "_law_draws", .glo "_law_draw", .glo "is_whole", .glo "is_whole_within", .glo "first_outside", .glo "is_row", .glo "check_heights", .glo "check_widths", .glo "grown_profile", .meth "Profile" "__len__", .meth "Profile" "raised", .glo "common_divisor", .glo "gap", .meth "Ratio" "__repr__", .glo "as_ratio", .meth "Ratio" "__sub__", .meth "Ratio" "__gt__", .glo "end_surfaces", .glo "end_volume", .glo "dam_gain", .glo "best_dam", .glo "_law_gained", .glo "_law_best", .glo "_law_is_int", .glo "_law_due", .glo "_law_best_due", .glo "law"]
abbrev s_get_heights : Stmt := inClass (top 19) 1
theorem sc_get_heights : FnScope ["self"] ["self"] (defScope s_get_heights) := ⟨rfl, rfl, rfl, by decide +kernel, rfl, by decide +kernel, by decide +kernel⟩
def G_heights : Gt := ⟨"Profile", "heights", "Profile.heights", defArgs s_get_heights, defBody s_get_heights, defScope s_get_heights⟩
theorem ok_get_heights {P : Program} {w : World} {K : PySem.W.Frag} {mg : Str → Option Value} {base : Heap} {C f : Addr} {fd : FuncData} (F : FunD K "heights" "Profile.heights" (defArgs s_get_heights) (defBody s_get_heights) (defScope s_get_heights) [] [] f fd) (c : Cls K C) (n : NoAttr K C "column_heights") : FnOk P w K mg base CX0 1 f fd ["self"] (getSp C "column_heights") := by
  obtain ⟨oc, od, dV, kV, doc, pm, an, cdv, ct, osl, rfl, lk, hcd, _, _⟩ := F.ex
  exact fn_getter (N := ["self"]) lk hcd sc_get_heights rfl rfl c n
abbrev s_get_widths : Stmt := inClass (top 19) 2
theorem sc_get_widths : FnScope ["self"] ["self"] (defScope s_get_widths) := ⟨rfl, rfl, rfl, by decide +kernel, rfl, by decide +kernel, by decide +kernel⟩
def G_widths : Gt := ⟨"Profile", "widths", "Profile.widths", defArgs s_get_widths, defBody s_get_widths, defScope s_get_widths⟩
theorem ok_get_widths {P : Program} {w : World} {K : PySem.W.Frag} {mg : Str → Option Value} {base : Heap} {C f : Addr} {fd : FuncData} (F : FunD K "widths" "Profile.widths" (defArgs s_get_widths) (defBody s_get_widths) (defScope s_get_widths) [] [] f fd) (c : Cls K C) (n : NoAttr K C "column_widths") : FnOk P w K mg base CX0 1 f fd ["self"] (getSp C "column_widths") := by
  obtain ⟨oc, od, dV, kV, doc, pm, an, cdv, ct, osl, rfl, lk, hcd, _, _⟩ := F.ex
  exact fn_getter (N := ["self"]) lk hcd sc_get_widths rfl rfl c n
def gts : List Gt := [G_heights, G_widths]
def exB (K : PySem.W.Frag) : Bool := prB K "Profile" "heights" && (prB K "Profile" "widths" && (clB K "Profile" && (clB K "Ratio" && (kiB K "Ratio" && (opcB K "Ratio" && (decide (PySem.W.kitOne K (.ref (He.ga K "Ratio")) (.type "int") = some false) && (oxB K "LimitExceeded" "OverflowError.__new__" bm_OverflowError && (xfB K (He.ga K "LimitExceeded") && (decide (PySem.W.findIn K (.ref (He.ga K "LimitExceeded")) "limit" = some none) && (ecB K "LimitExceeded" && (viB K "OverflowError" && (oxB K "InvalidColumn" "IndexError.__new__" bm_IndexError && (xfB K (He.ga K "InvalidColumn") && (decide (PySem.W.findIn K (.ref (He.ga K "InvalidColumn")) "value" = some none) && (ecB K "InvalidColumn" && (viB K "IndexError" && (oxB K "InvalidNumber" "ValueError.__new__" bm_ValueError && (xfB K (He.ga K "InvalidNumber") && (decide (PySem.W.findIn K (.ref (He.ga K "InvalidNumber")) "value" = some none) && (ecB K "InvalidNumber" && (bgB K "RainError" "ValueError.__init__" && (em3B K && (ki3B K)))))))))))))))))))))))
theorem exb_heights {K : PySem.W.Frag} (h : exB K = true) : prB K "Profile" "heights" = true := (He.ba h).1
theorem exb_widths {K : PySem.W.Frag} (h : exB K = true) : prB K "Profile" "widths" = true := (He.ba (He.ba h).2).1
theorem exb_cls {K : PySem.W.Frag} (h : exB K = true) : clB K "Profile" = true := (He.ba (He.ba (He.ba h).2).2).1
theorem exb_clsR {K : PySem.W.Frag} (h : exB K = true) : clB K "Ratio" = true := (He.ba (He.ba (He.ba (He.ba h).2).2).2).1
theorem exb_ki {K : PySem.W.Frag} (h : exB K = true) : kiB K "Ratio" = true := (He.ba (He.ba (He.ba (He.ba (He.ba h).2).2).2).2).1
theorem exb_opc {K : PySem.W.Frag} (h : exB K = true) : opcB K "Ratio" = true := (He.ba (He.ba (He.ba (He.ba (He.ba (He.ba h).2).2).2).2).2).1
theorem exb_rki {K : PySem.W.Frag} (h : exB K = true) : decide (PySem.W.kitOne K (.ref (He.ga K "Ratio")) (.type "int") = some false) = true := (He.ba (He.ba (He.ba (He.ba (He.ba (He.ba (He.ba h).2).2).2).2).2).2).1
theorem exb_ox_LimitExceeded {K : PySem.W.Frag} (h : exB K = true) : oxB K "LimitExceeded" "OverflowError.__new__" bm_OverflowError = true := (He.ba (He.ba (He.ba (He.ba (He.ba (He.ba (He.ba (He.ba h).2).2).2).2).2).2).2).1
theorem exb_xf_LimitExceeded {K : PySem.W.Frag} (h : exB K = true) : xfB K (He.ga K "LimitExceeded") = true := (He.ba (He.ba (He.ba (He.ba (He.ba (He.ba (He.ba (He.ba (He.ba h).2).2).2).2).2).2).2).2).1
theorem exb_no_LimitExceeded {K : PySem.W.Frag} (h : exB K = true) : decide (PySem.W.findIn K (.ref (He.ga K "LimitExceeded")) "limit" = some none) = true := (He.ba (He.ba (He.ba (He.ba (He.ba (He.ba (He.ba (He.ba (He.ba (He.ba h).2).2).2).2).2).2).2).2).2).1
theorem exb_ec_LimitExceeded {K : PySem.W.Frag} (h : exB K = true) : ecB K "LimitExceeded" = true := (He.ba (He.ba (He.ba (He.ba (He.ba (He.ba (He.ba (He.ba (He.ba (He.ba (He.ba h).2).2).2).2).2).2).2).2).2).2).1
theorem exb_vi_OverflowError {K : PySem.W.Frag} (h : exB K = true) : viB K "OverflowError" = true := (He.ba (He.ba (He.ba (He.ba (He.ba (He.ba (He.ba (He.ba (He.ba (He.ba (He.ba (He.ba h).2).2).2).2).2).2).2).2).2).2).2).1
theorem exb_ox_InvalidColumn {K : PySem.W.Frag} (h : exB K = true) : oxB K "InvalidColumn" "IndexError.__new__" bm_IndexError = true := (He.ba (He.ba (He.ba (He.ba (He.ba (He.ba (He.ba (He.ba (He.ba (He.ba (He.ba (He.ba (He.ba h).2).2).2).2).2).2).2).2).2).2).2).2).1
theorem exb_xf_InvalidColumn {K : PySem.W.Frag} (h : exB K = true) : xfB K (He.ga K "InvalidColumn") = true := (He.ba (He.ba (He.ba (He.ba (He.ba (He.ba (He.ba (He.ba (He.ba (He.ba (He.ba (He.ba (He.ba (He.ba h).2).2).2).2).2).2).2).2).2).2).2).2).2).1
theorem exb_no_InvalidColumn {K : PySem.W.Frag} (h : exB K = true) : decide (PySem.W.findIn K (.ref (He.ga K "InvalidColumn")) "value" = some none) = true := (He.ba (He.ba (He.ba (He.ba (He.ba (He.ba (He.ba (He.ba (He.ba (He.ba (He.ba (He.ba (He.ba (He.ba (He.ba h).2).2).2).2).2).2).2).2).2).2).2).2).2).2).1
theorem exb_ec_InvalidColumn {K : PySem.W.Frag} (h : exB K = true) : ecB K "InvalidColumn" = true := (He.ba (He.ba (He.ba (He.ba (He.ba (He.ba (He.ba (He.ba (He.ba (He.ba (He.ba (He.ba (He.ba (He.ba (He.ba (He.ba h).2).2).2).2).2).2).2).2).2).2).2).2).2).2).2).1
theorem exb_vi_IndexError {K : PySem.W.Frag} (h : exB K = true) : viB K "IndexError" = true := (He.ba (He.ba (He.ba (He.ba (He.ba (He.ba (He.ba (He.ba (He.ba (He.ba (He.ba (He.ba (He.ba (He.ba (He.ba (He.ba (He.ba h).2).2).2).2).2).2).2).2).2).2).2).2).2).2).2).2).1
theorem exb_ox_InvalidNumber {K : PySem.W.Frag} (h : exB K = true) : oxB K "InvalidNumber" "ValueError.__new__" bm_ValueError = true := (He.ba (He.ba (He.ba (He.ba (He.ba (He.ba (He.ba (He.ba (He.ba (He.ba (He.ba (He.ba (He.ba (He.ba (He.ba (He.ba (He.ba (He.ba h).2).2).2).2).2).2).2).2).2).2).2).2).2).2).2).2).2).1
theorem exb_xf_InvalidNumber {K : PySem.W.Frag} (h : exB K = true) : xfB K (He.ga K "InvalidNumber") = true := (He.ba (He.ba (He.ba (He.ba (He.ba (He.ba (He.ba (He.ba (He.ba (He.ba (He.ba (He.ba (He.ba (He.ba (He.ba (He.ba (He.ba (He.ba (He.ba h).2).2).2).2).2).2).2).2).2).2).2).2).2).2).2).2).2).2).1
theorem exb_no_InvalidNumber {K : PySem.W.Frag} (h : exB K = true) : decide (PySem.W.findIn K (.ref (He.ga K "InvalidNumber")) "value" = some none) = true := (He.ba (He.ba (He.ba (He.ba (He.ba (He.ba (He.ba (He.ba (He.ba (He.ba (He.ba (He.ba (He.ba (He.ba (He.ba (He.ba (He.ba (He.ba (He.ba (He.ba h).2).2).2).2).2).2).2).2).2).2).2).2).2).2).2).2).2).2).2).1
theorem exb_ec_InvalidNumber {K : PySem.W.Frag} (h : exB K = true) : ecB K "InvalidNumber" = true := (He.ba (He.ba (He.ba (He.ba (He.ba (He.ba (He.ba (He.ba (He.ba (He.ba (He.ba (He.ba (He.ba (He.ba (He.ba (He.ba (He.ba (He.ba (He.ba (He.ba (He.ba h).2).2).2).2).2).2).2).2).2).2).2).2).2).2).2).2).2).2).2).2).1
theorem exb_bg_RainError {K : PySem.W.Frag} (h : exB K = true) : bgB K "RainError" "ValueError.__init__" = true := (He.ba (He.ba (He.ba (He.ba (He.ba (He.ba (He.ba (He.ba (He.ba (He.ba (He.ba (He.ba (He.ba (He.ba (He.ba (He.ba (He.ba (He.ba (He.ba (He.ba (He.ba (He.ba h).2).2).2).2).2).2).2).2).2).2).2).2).2).2).2).2).2).2).2).2).2).1
theorem exb_em {K : PySem.W.Frag} (h : exB K = true) : em3B K = true := (He.ba (He.ba (He.ba (He.ba (He.ba (He.ba (He.ba (He.ba (He.ba (He.ba (He.ba (He.ba (He.ba (He.ba (He.ba (He.ba (He.ba (He.ba (He.ba (He.ba (He.ba (He.ba (He.ba h).2).2).2).2).2).2).2).2).2).2).2).2).2).2).2).2).2).2).2).2).2).2).1
theorem exb_ki3 {K : PySem.W.Frag} (h : exB K = true) : ki3B K = true := (He.ba (He.ba (He.ba (He.ba (He.ba (He.ba (He.ba (He.ba (He.ba (He.ba (He.ba (He.ba (He.ba (He.ba (He.ba (He.ba (He.ba (He.ba (He.ba (He.ba (He.ba (He.ba (He.ba h).2).2).2).2).2).2).2).2).2).2).2).2).2).2).2).2).2).2).2).2).2).2).2
abbrev RR : PySem.W.OpenRow := PySem.W.OpenLaw.row PySem.Challenge.rw_rainvalleys_k68_dams_refused
abbrev hk : PySem.W.Hook := hookR 6 fa fn gts exB
def ob (s : PySem.W.SharedT) : AlR := obsRG 6 fa fn gts exB (HandSHeadRun.getT s)
theorem ob_eq (s : PySem.W.SharedT) : ob s = hk.obs s.abs := obsRG_eq (HandSHeadRun.getT_eq s)
theorem run (w : World) : HandSHeadRun.RunEq RR (PySem.W.view RR.prog [39]) hk ob 12000 loose w := by
  intro os
  kernel_rfl
theorem facts {P : Program} {w : World} {K : PySem.W.Frag} {h : Heap} {mg : Str → Option Value} {f : Addr} (X : K.In h) (G : h.Ns mainGlobals mg) (hfa : mg ("law" : Str) = some (.ref f)) (c : SaysR fa fn gts exB K) :
    ∃ fd : FuncData, (∀ (s : Shared) (v : Value), BindsTo s fd ⟨[v], []⟩ [("_law_script", v)]) ∧ (PCls K (He.ga K "Profile") ∧ RCls K (He.ga K "Ratio") ∧ RKi K (He.ga K "Ratio") ∧ OX3 K (He.ga K "LimitExceeded") (He.ga K "InvalidColumn") (He.ga K "InvalidNumber") ∧ EM3 K (He.ga K "LimitExceeded") (He.ga K "InvalidColumn") (He.ga K "InvalidNumber") ∧ KI3 K (He.ga K "LimitExceeded") (He.ga K "InvalidColumn") (He.ga K "InvalidNumber") (He.ga K "RainError")) ∧ ∀ base : Heap, K.In base → base.Ns mainGlobals mg → FnOkG P w K mg base CX0 12 f fd ["_law_script"] (spLaw68 K (He.ga K "Profile") (He.ga K "Ratio") (He.ga K "LimitExceeded") (He.ga K "InvalidColumn") (He.ga K "InvalidNumber") (He.ga K "RainError")) := by
  obtain ⟨fd0, F0⟩ := c.d.def_ 0 (d := D_LimitExceeded___init__) rfl
  obtain ⟨fd1, F1⟩ := c.d.def_ 1 (d := D_InvalidColumn___init__) rfl
  obtain ⟨fd2, F2⟩ := c.d.def_ 2 (d := D_InvalidNumber___init__) rfl
  obtain ⟨fd3, F3⟩ := c.d.def_ 3 (d := D__law_draws) rfl
  obtain ⟨fd4, F4⟩ := c.d.def_ 4 (d := D__law_draw) rfl
  obtain ⟨fd5, F5⟩ := c.d.def_ 5 (d := D_is_whole) rfl
  obtain ⟨fd6, F6⟩ := c.d.def_ 6 (d := D_is_whole_within) rfl
  obtain ⟨fd7, F7⟩ := c.d.def_ 7 (d := D_first_outside) rfl
  obtain ⟨fd8, F8⟩ := c.d.def_ 8 (d := D_is_row) rfl
  obtain ⟨fd9, F9⟩ := c.d.def_ 9 (d := D_check_heights) rfl
  obtain ⟨fd10, F10⟩ := c.d.def_ 10 (d := D_check_widths) rfl
  obtain ⟨fd11, F11⟩ := c.d.def_ 11 (d := D_Profile___init__) rfl
  obtain ⟨fd12, F12⟩ := c.d.def_ 12 (d := D_grown_profile) rfl
  obtain ⟨fd13, F13⟩ := c.d.def_ 13 (d := D_Profile___len__) rfl
  obtain ⟨fd14, F14⟩ := c.d.def_ 14 (d := D_Profile_raised) rfl
  obtain ⟨fd15, F15⟩ := c.d.def_ 15 (d := D_common_divisor) rfl
  obtain ⟨fd16, F16⟩ := c.d.def_ 16 (d := D_gap) rfl
  obtain ⟨fd17, F17⟩ := c.d.def_ 17 (d := D_Ratio___init__) rfl
  obtain ⟨fd18, F18⟩ := c.d.def_ 18 (d := D_Ratio___repr__) rfl
  obtain ⟨fd19, F19⟩ := c.d.def_ 19 (d := D_as_ratio) rfl
  obtain ⟨fd20, F20⟩ := c.d.def_ 20 (d := D_Ratio___sub__) rfl
  obtain ⟨fd21, F21⟩ := c.d.def_ 21 (d := D_Ratio___gt__) rfl
  obtain ⟨fd22, F22⟩ := c.d.def_ 22 (d := D_end_surfaces) rfl
  obtain ⟨fd23, F23⟩ := c.d.def_ 23 (d := D_end_volume) rfl
  obtain ⟨fd24, F24⟩ := c.d.def_ 24 (d := D_dam_gain) rfl
  obtain ⟨fd25, F25⟩ := c.d.def_ 25 (d := D_best_dam) rfl
  obtain ⟨fd26, F26⟩ := c.d.def_ 26 (d := D__law_gained) rfl
  obtain ⟨fd27, F27⟩ := c.d.def_ 27 (d := D__law_best) rfl
  obtain ⟨fd28, F28⟩ := c.d.def_ 28 (d := D__law_is_int) rfl
  obtain ⟨fd29, F29⟩ := c.d.def_ 29 (d := D__law_due) rfl
  obtain ⟨fd30, F30⟩ := c.d.def_ 30 (d := D__law_best_due) rfl
  obtain ⟨fd31, F31⟩ := c.d.def_ 31 (d := D_law) rfl
  have e := hfa.symm.trans (He.glo_ok X G (c.d.fact 61 (f := .glo "law") rfl))
  cases e
  have b := FunD.bindsA (ps := ["_law_script"]) F31 fun _ _ _ _ _ _ us hl => match us, hl with | [_], _ => rfl
  have sdP : PCls K (He.ga K "Profile") := pcls_of (He.cls_ok (c.d.fact 22 (f := .cls "Profile") rfl)) (He.noat_ok (c.d.fact 26 (f := .noat "Profile" "column_heights") rfl)) (He.noat_ok (c.d.fact 27 (f := .noat "Profile" "column_widths") rfl)) (exb_cls c.x)
  have sdR : RCls K (He.ga K "Ratio") := rcls_of (He.cls_ok (c.d.fact 24 (f := .cls "Ratio") rfl)) (He.noat_ok (c.d.fact 29 (f := .noat "Ratio" "reduced_top") rfl)) (He.noat_ok (c.d.fact 30 (f := .noat "Ratio" "reduced_bottom") rfl)) (exb_clsR c.x) (exb_ki c.x)
  have sd0 := And.intro sdP sdR
  have sd : PCls K (He.ga K "Profile") ∧ RCls K (He.ga K "Ratio") ∧ RKi K (He.ga K "Ratio") ∧ OX3 K (He.ga K "LimitExceeded") (He.ga K "InvalidColumn") (He.ga K "InvalidNumber") ∧ EM3 K (He.ga K "LimitExceeded") (He.ga K "InvalidColumn") (He.ga K "InvalidNumber") ∧ KI3 K (He.ga K "LimitExceeded") (He.ga K "InvalidColumn") (He.ga K "InvalidNumber") (He.ga K "RainError") := ⟨sd0.1, sd0.2, rki_of (exb_rki c.x), ox3_of (exb_ox_LimitExceeded c.x) (exb_ox_InvalidColumn c.x) (exb_ox_InvalidNumber c.x) (exb_no_LimitExceeded c.x) (exb_no_InvalidColumn c.x) (exb_no_InvalidNumber c.x), em3_of (exb_em c.x), ki3_of (exb_ki3 c.x)⟩
  refine ⟨fd31, fun s v => b s [v] rfl, sd, fun base _ _ => ?_⟩
  have m_OverflowError := He.free_ok X G (c.d.fact 0 (f := .free "OverflowError") rfl)
  have m_IndexError := He.free_ok X G (c.d.fact 1 (f := .free "IndexError") rfl)
  have m_len := He.free_ok X G (c.d.fact 2 (f := .free "len") rfl)
  have m_int := He.free_ok X G (c.d.fact 3 (f := .free "int") rfl)
  have m_isinstance := He.free_ok X G (c.d.fact 4 (f := .free "isinstance") rfl)
  have m_bool := He.free_ok X G (c.d.fact 5 (f := .free "bool") rfl)
  have m_enumerate := He.free_ok X G (c.d.fact 6 (f := .free "enumerate") rfl)
  have m_tuple := He.free_ok X G (c.d.fact 7 (f := .free "tuple") rfl)
  have m_list := He.free_ok X G (c.d.fact 8 (f := .free "list") rfl)
  have m_MOST_COLUMNS := He.int_ok X G (c.d.fact 9 (f := .int "MOST_COLUMNS" 60) rfl)
  have m_GREATEST := He.int_ok X G (c.d.fact 10 (f := .int "GREATEST" 1000000000000000000000000000000) rfl)
  have m_abs := He.free_ok X G (c.d.fact 11 (f := .free "abs") rfl)
  have m_range := He.free_ok X G (c.d.fact 12 (f := .free "range") rfl)
  have m_max := He.free_ok X G (c.d.fact 13 (f := .free "max") rfl)
  have m_zip := He.free_ok X G (c.d.fact 14 (f := .free "zip") rfl)
  have m_min := He.free_ok X G (c.d.fact 15 (f := .free "min") rfl)
  have m_sum := He.free_ok X G (c.d.fact 16 (f := .free "sum") rfl)
  have m_repr := He.free_ok X G (c.d.fact 17 (f := .free "repr") rfl)
  have g_InvalidColumn := He.glo_ok X G (c.d.fact 18 (f := .glo "InvalidColumn") rfl)
  have g_InvalidNumber := He.glo_ok X G (c.d.fact 19 (f := .glo "InvalidNumber") rfl)
  have g_LimitExceeded := He.glo_ok X G (c.d.fact 20 (f := .glo "LimitExceeded") rfl)
  have g_Profile := He.glo_ok X G (c.d.fact 21 (f := .glo "Profile") rfl)
  have k_Profile := He.cls_ok (c.d.fact 22 (f := .cls "Profile") rfl)
  have g_Ratio := He.glo_ok X G (c.d.fact 23 (f := .glo "Ratio") rfl)
  have k_Ratio := He.cls_ok (c.d.fact 24 (f := .cls "Ratio") rfl)
  have g_RainError := He.glo_ok X G (c.d.fact 25 (f := .glo "RainError") rfl)
  have nH := He.noat_ok (c.d.fact 26 (f := .noat "Profile" "column_heights") rfl)
  have nW := He.noat_ok (c.d.fact 27 (f := .noat "Profile" "column_widths") rfl)
  have mk := He.mkr_ok (c.d.fact 28 (f := .mkr "Profile") rfl)
  have nT := He.noat_ok (c.d.fact 29 (f := .noat "Ratio" "reduced_top") rfl)
  have nB := He.noat_ok (c.d.fact 30 (f := .noat "Ratio" "reduced_bottom") rfl)
  have mkR := He.mkr_ok (c.d.fact 31 (f := .mkr "Ratio") rfl)
  obtain ⟨fg0, Fg0⟩ := c.g 0 (g := G_heights) rfl
  have cp_heights : CalP P w K mg base CX0 1 (He.ga K "Profile") "heights" (getSp (He.ga K "Profile") "column_heights") := ⟨_, _, fg0, ok_get_heights Fg0 k_Profile nH, k_Profile, pr_of (exb_heights c.x), Fg0.bindsN fun _ _ _ _ _ _ us hl => match us, hl with | [_], _ => rfl⟩
  obtain ⟨fg1, Fg1⟩ := c.g 1 (g := G_widths) rfl
  have cp_widths : CalP P w K mg base CX0 1 (He.ga K "Profile") "widths" (getSp (He.ga K "Profile") "column_widths") := ⟨_, _, fg1, ok_get_widths Fg1 k_Profile nW, k_Profile, pr_of (exb_widths c.x), Fg1.bindsN fun _ _ _ _ _ _ us hl => match us, hl with | [_], _ => rfl⟩
  have oc_R := opc_of (exb_opc c.x)
  have ox_LimitExceeded := ox_ok PySem.F.excBase_OverflowError mok_oe (exb_ox_LimitExceeded c.x)
  have xf_LimitExceeded := xfB_ok (exb_xf_LimitExceeded c.x)
  have no_LimitExceeded_limit := of_decide_eq_true (exb_no_LimitExceeded c.x)
  have ec_LimitExceeded := ec_of (exb_ec_LimitExceeded c.x)
  have vi_OverflowError := vi_ok (exb_vi_OverflowError c.x)
  have ox_InvalidColumn := ox_ok PySem.F.excBase_IndexError mok_ie (exb_ox_InvalidColumn c.x)
  have xf_InvalidColumn := xfB_ok (exb_xf_InvalidColumn c.x)
  have no_InvalidColumn_value := of_decide_eq_true (exb_no_InvalidColumn c.x)
  have ec_InvalidColumn := ec_of (exb_ec_InvalidColumn c.x)
  have vi_IndexError := vi_ok (exb_vi_IndexError c.x)
  have ox_InvalidNumber := ox_ok PySem.F.excBase_ValueError mok_ve (exb_ox_InvalidNumber c.x)
  have xf_InvalidNumber := xfB_ok (exb_xf_InvalidNumber c.x)
  have no_InvalidNumber_value := of_decide_eq_true (exb_no_InvalidNumber c.x)
  have ec_InvalidNumber := ec_of (exb_ec_InvalidNumber c.x)
  have bg_RainError := bg_ok (exb_bg_RainError c.x)
  have me_ini_LimitExceeded := He.meth_ok (c.d.fact 32 (f := .meth "LimitExceeded" "__init__") rfl)
  have cx_LimitExceeded : CalX P w K mg base CX0 1 "LimitExceeded" (He.ga K "LimitExceeded") ["self", "limit"] (spExc K (He.ga K "LimitExceeded") "OverflowError" "OverflowError.__new__" "OverflowError.__init__" bm_OverflowError "limit") [] "OverflowError" "OverflowError.__new__" "OverflowError.__init__" bm_OverflowError := ⟨_, fd0, [], ok_LimitExceeded___init__ F0 vi_OverflowError m_OverflowError, ox_LimitExceeded, me_ini_LimitExceeded.at_, beq_iff_eq.mp me_ini_LimitExceeded.fn, g_LimitExceeded, F0.bindsN fun _ _ _ _ _ _ us hl => match us, hl with | [_, _], _ => rfl, .nil⟩
  have me_ini_InvalidColumn := He.meth_ok (c.d.fact 33 (f := .meth "InvalidColumn" "__init__") rfl)
  have cx_InvalidColumn : CalX P w K mg base CX0 1 "InvalidColumn" (He.ga K "InvalidColumn") ["self", "value"] (spExc K (He.ga K "InvalidColumn") "IndexError" "IndexError.__new__" "IndexError.__init__" bm_IndexError "value") [] "IndexError" "IndexError.__new__" "IndexError.__init__" bm_IndexError := ⟨_, fd1, [], ok_InvalidColumn___init__ F1 vi_IndexError m_IndexError, ox_InvalidColumn, me_ini_InvalidColumn.at_, beq_iff_eq.mp me_ini_InvalidColumn.fn, g_InvalidColumn, F1.bindsN fun _ _ _ _ _ _ us hl => match us, hl with | [_, _], _ => rfl, .nil⟩
  have me_ini_InvalidNumber := He.meth_ok (c.d.fact 34 (f := .meth "InvalidNumber" "__init__") rfl)
  have cx_InvalidNumber : CalX P w K mg base CX0 1 "InvalidNumber" (He.ga K "InvalidNumber") ["self", "value"] (spExc K (He.ga K "InvalidNumber") "ValueError" "ValueError.__new__" "ValueError.__init__" bm_ValueError "value") [] "ValueError" "ValueError.__new__" "ValueError.__init__" bm_ValueError := ⟨_, fd2, [], ok_InvalidNumber___init__ F2 bg_RainError g_RainError, ox_InvalidNumber, me_ini_InvalidNumber.at_, beq_iff_eq.mp me_ini_InvalidNumber.fn, g_InvalidNumber, F2.bindsN fun _ _ _ _ _ _ us hl => match us, hl with | [_, _], _ => rfl, .nil⟩
  have c__law_draws : Cal P w K mg base CX0 1 "_law_draws" ["_law_script"] (spDraws K) := ⟨_, fd3, ok__law_draws F3 , He.glo_ok X G (c.d.fact 35 (f := .glo "_law_draws") rfl), F3.kp, F3.bindsN fun _ _ _ _ _ _ us hl => match us, hl with | [_], _ => rfl⟩
  have c__law_draw : Cal P w K mg base CX0 1 "_law_draw" ["_law_draws_here", "_law_many"] (spDraw K) := ⟨_, fd4, ok__law_draw F4 m_len, He.glo_ok X G (c.d.fact 36 (f := .glo "_law_draw") rfl), F4.kp, F4.bindsN fun _ _ _ _ _ _ us hl => match us, hl with | [_, _], _ => rfl⟩
  have c_is_whole : Cal P w K mg base CX0 1 "is_whole" ["value"] (spWhole K) := ⟨_, fd5, ok_is_whole F5 m_int m_isinstance m_bool, He.glo_ok X G (c.d.fact 37 (f := .glo "is_whole") rfl), F5.kp, F5.bindsN fun _ _ _ _ _ _ us hl => match us, hl with | [_], _ => rfl⟩
  have c_is_whole_within : Cal P w K mg base CX0 2 "is_whole_within" ["value", "least", "greatest"] (spWithin K) := ⟨_, fd6, ok_is_whole_within F6 c_is_whole, He.glo_ok X G (c.d.fact 38 (f := .glo "is_whole_within") rfl), F6.kp, F6.bindsN fun _ _ _ _ _ _ us hl => match us, hl with | [_, _, _], _ => rfl⟩
  have c_first_outside : Cal P w K mg base CX0 3 "first_outside" ["values", "least", "greatest"] (spOutside K) := ⟨_, fd7, ok_first_outside F7 m_enumerate c_is_whole_within, He.glo_ok X G (c.d.fact 39 (f := .glo "first_outside") rfl), F7.kp, F7.bindsN fun _ _ _ _ _ _ us hl => match us, hl with | [_, _, _], _ => rfl⟩
  have c_is_row : Cal P w K mg base CX0 1 "is_row" ["values", "least", "most"] (spRow K) := ⟨_, fd8, ok_is_row F8 m_tuple m_list m_isinstance m_len, He.glo_ok X G (c.d.fact 40 (f := .glo "is_row") rfl), F8.kp, F8.bindsN fun _ _ _ _ _ _ us hl => match us, hl with | [_, _, _], _ => rfl⟩
  have c_check_heights : Cal P w K mg base CX0 4 "check_heights" ["heights"] (spCheckH K) := ⟨_, fd9, ok_check_heights F9 m_MOST_COLUMNS c_is_row m_GREATEST c_first_outside, He.glo_ok X G (c.d.fact 41 (f := .glo "check_heights") rfl), F9.kp, F9.bindsN fun _ _ _ _ _ _ us hl => match us, hl with | [_], _ => rfl⟩
  have c_check_widths : Cal P w K mg base CX0 4 "check_widths" ["widths", "many"] (spCheckW K) := ⟨_, fd10, ok_check_widths F10 c_is_row m_GREATEST c_first_outside, He.glo_ok X G (c.d.fact 42 (f := .glo "check_widths") rfl), F10.kp, F10.bindsN fun _ _ _ _ _ _ us hl => match us, hl with | [_, _], _ => rfl⟩
  obtain ⟨ds1, v1, b1⟩ := F11.binds1 (ps := ["self", "heights", "widths"]) 2 0 (show ([V.non] : List V) ≠ [] from List.cons_ne_nil _ _) rfl (fun _ _ _ _ _ _ _ us its h1 h2 => match us, its, h1, h2 with | [_, _], [_], _, _ => ⟨_, rfl, rfl⟩)
  obtain ⟨ds2, v2, b2⟩ := F11.binds1 (ps := ["self", "heights", "widths"]) 3 1 (show ([V.non] : List V) ≠ [] from List.cons_ne_nil _ _) rfl (fun _ _ _ _ _ _ _ us its h1 h2 => match us, its, h1, h2 with | [_, _, _], [_], _, _ => ⟨_, rfl, rfl⟩)
  have cm1_Profile : CalM P w K mg base CX0 5 "Profile" (He.ga K "Profile") ["self", "heights", "widths"] (spInit K (He.ga K "Profile")) [.non] := ⟨_, fd11, ds1, ok_Profile___init__ F11 c_check_heights m_len c_check_widths m_tuple, mk, g_Profile, b1, v1⟩
  have cm2_Profile : CalM P w K mg base CX0 5 "Profile" (He.ga K "Profile") ["self", "heights", "widths"] (spInit K (He.ga K "Profile")) [] := ⟨_, fd11, ds2, ok_Profile___init__ F11 c_check_heights m_len c_check_widths m_tuple, mk, g_Profile, b2, v2⟩
  have c_grown_profile : Cal P w K mg base (L2.CX P w) 7 "grown_profile" ["heights", "widths"] (spGrownX K (He.ga K "Profile") (He.ga K "LimitExceeded")) := ⟨_, fd12, ok_grown_profile F12 m_GREATEST c_first_outside cx_LimitExceeded cm2_Profile, He.glo_ok X G (c.d.fact 43 (f := .glo "grown_profile") rfl), F12.kp, F12.bindsN fun _ _ _ _ _ _ us hl => match us, hl with | [_, _], _ => rfl⟩
  have me_len := He.meth_ok (c.d.fact 44 (f := .meth "Profile" "__len__") rfl)
  have cu_len : CalU P w K mg base CX0 1 (He.ga K "Profile") "__len__" (spPLen K (He.ga K "Profile")) := ⟨_, fd13, ok_Profile___len__ F13 m_len, me_len.at_, me_len.fn, F13.bindsN fun _ _ _ _ _ _ us hl => match us, hl with | [_], _ => rfl⟩
  have me_raised := He.meth_ok (c.d.fact 45 (f := .meth "Profile" "raised") rfl)
  have ct_raised : CalT P w K mg base (L2.CX P w) 8 (He.ga K "Profile") "raised" ["self", "column", "height"] (spRaisX K (He.ga K "Profile") (He.ga K "LimitExceeded") (He.ga K "InvalidColumn") (He.ga K "InvalidNumber")) := ⟨_, fd14, ok_Profile_raised F14 m_len cu_len c_is_whole_within cx_InvalidColumn m_GREATEST cx_InvalidNumber m_list c_grown_profile, k_Profile, me_raised, F14.bindsN fun _ _ _ _ _ _ us hl => match us, hl with | [_, _, _], _ => rfl⟩
  have c_common_divisor : Cal P w K mg base CX0 1 "common_divisor" ["first", "second"] (spGcd K) := ⟨_, fd15, ok_common_divisor F15 , He.glo_ok X G (c.d.fact 46 (f := .glo "common_divisor") rfl), F15.kp, F15.bindsN fun _ _ _ _ _ _ us hl => match us, hl with | [_, _], _ => rfl⟩
  have c_gap : Cal P w K mg base CX0 1 "gap" ["left", "right"] (spGap K (He.ga K "Ratio")) := ⟨_, fd16, ok_gap F16 , He.glo_ok X G (c.d.fact 47 (f := .glo "gap") rfl), F16.kp, F16.bindsN fun _ _ _ _ _ _ us hl => match us, hl with | [_, _], _ => rfl⟩
  obtain ⟨dr1, vr1, br1⟩ := F17.binds1 (ps := ["self", "numerator", "denominator"]) 2 0 (show ([V.int 1] : List V) ≠ [] from List.cons_ne_nil _ _) rfl (fun _ _ _ _ _ _ _ us its h1 h2 => match us, its, h1, h2 with | [_, _], [_], _, _ => ⟨_, rfl, rfl⟩)
  obtain ⟨dr2, vr2, br2⟩ := F17.binds1 (ps := ["self", "numerator", "denominator"]) 3 1 (show ([V.int 1] : List V) ≠ [] from List.cons_ne_nil _ _) rfl (fun _ _ _ _ _ _ _ us its h1 h2 => match us, its, h1, h2 with | [_, _, _], [_], _, _ => ⟨_, rfl, rfl⟩)
  have cm1_Ratio : CalM P w K mg base CX0 2 "Ratio" (He.ga K "Ratio") ["self", "numerator", "denominator"] (spRInit K (He.ga K "Ratio")) [.int 1] := ⟨_, fd17, dr1, ok_Ratio___init__ F17 c_is_whole m_abs c_common_divisor, mkR, g_Ratio, br1, vr1⟩
  have cm2_Ratio : CalM P w K mg base CX0 2 "Ratio" (He.ga K "Ratio") ["self", "numerator", "denominator"] (spRInit K (He.ga K "Ratio")) [] := ⟨_, fd17, dr2, ok_Ratio___init__ F17 c_is_whole m_abs c_common_divisor, mkR, g_Ratio, br2, vr2⟩
  have me_rrepr := He.meth_ok (c.d.fact 48 (f := .meth "Ratio" "__repr__") rfl)
  have cuc_repr : CalUC P w K mg base 1 (He.ga K "Ratio") "__repr__" (spRRepr K (He.ga K "Ratio")) := ⟨_, fd18, ok_Ratio___repr__ F18 , me_rrepr.at_, me_rrepr.fn, F18.bindsN fun _ _ _ _ _ _ us hl => match us, hl with | [_], _ => rfl⟩
  have c_as_ratio : Cal P w K mg base CX0 4 "as_ratio" ["value"] (spAsR K (He.ga K "Ratio")) := ⟨_, fd19, ok_as_ratio F19 g_Ratio m_isinstance c_is_whole cm1_Ratio, He.glo_ok X G (c.d.fact 49 (f := .glo "as_ratio") rfl), F19.kp, F19.bindsN fun _ _ _ _ _ _ us hl => match us, hl with | [_], _ => rfl⟩
  have me_sub := He.meth_ok (c.d.fact 50 (f := .meth "Ratio" "__sub__") rfl)
  have co_sub : CalO P w K mg base CX0 5 (He.ga K "Ratio") "__sub__" (spSub K (He.ga K "Ratio")) := ⟨_, fd20, ok_Ratio___sub__ F20 c_as_ratio c_gap cm2_Ratio, me_sub.at_, me_sub.fn, F20.bindsN fun _ _ _ _ _ _ us hl => match us, hl with | [_, _], _ => rfl⟩
  have me_gt := He.meth_ok (c.d.fact 51 (f := .meth "Ratio" "__gt__") rfl)
  have co_gt : CalO P w K mg base CX0 5 (He.ga K "Ratio") "__gt__" (spGt K (He.ga K "Ratio")) := ⟨_, fd21, ok_Ratio___gt__ F21 c_as_ratio c_gap, me_gt.at_, me_gt.fn, F21.bindsN fun _ _ _ _ _ _ us hl => match us, hl with | [_, _], _ => rfl⟩
  have c_end_surfaces : Cal P w K mg base CX0 3 "end_surfaces" ["profile"] (RvM.spEndS K (He.ga K "Profile")) := ⟨_, fd22, ok_end_surfaces F22 cp_heights m_len m_range m_int m_max m_zip m_min, He.glo_ok X G (c.d.fact 52 (f := .glo "end_surfaces") rfl), F22.kp, F22.bindsN fun _ _ _ _ _ _ us hl => match us, hl with | [_], _ => rfl⟩
  have c_end_volume : Cal P w K mg base CX0 4 "end_volume" ["profile"] (RvM.spEndV K (He.ga K "Profile") (He.ga K "Ratio")) := ⟨_, fd23, ok_end_volume F23 cp_heights c_end_surfaces m_zip cp_widths m_sum cm1_Ratio, He.glo_ok X G (c.d.fact 53 (f := .glo "end_volume") rfl), F23.kp, F23.bindsN fun _ _ _ _ _ _ us hl => match us, hl with | [_], _ => rfl⟩
  have c_dam_gain : Cal P w K mg base (L2.CX P w) 9 "dam_gain" ["profile", "column", "height"] (spGainX K (He.ga K "Profile") (He.ga K "Ratio") (He.ga K "LimitExceeded") (He.ga K "InvalidColumn") (He.ga K "InvalidNumber")) := ⟨_, fd24, ok_dam_gain F24 ct_raised c_end_volume co_sub oc_R, He.glo_ok X G (c.d.fact 54 (f := .glo "dam_gain") rfl), F24.kp, F24.bindsN fun _ _ _ _ _ _ us hl => match us, hl with | [_, _, _], _ => rfl⟩
  have c_best_dam : Cal P w K mg base (L2.CX P w) 10 "best_dam" ["profile", "height"] (spBest68 K (He.ga K "Profile") (He.ga K "Ratio") (He.ga K "LimitExceeded") (He.ga K "InvalidColumn") (He.ga K "InvalidNumber")) := ⟨_, fd25, ok_best_dam F25 m_GREATEST c_is_whole_within cx_InvalidNumber cp_heights m_enumerate c_dam_gain co_gt oc_R, He.glo_ok X G (c.d.fact 55 (f := .glo "best_dam") rfl), F25.kp, F25.bindsN fun _ _ _ _ _ _ us hl => match us, hl with | [_, _], _ => rfl⟩
  have c__law_gained : CalG P w K mg base CX0 11 "_law_gained" ["_law_ground", "_law_at", "_law_rise"] (spTold68 K (He.ga K "Profile") (He.ga K "Ratio") (He.ga K "LimitExceeded") (He.ga K "InvalidColumn") (He.ga K "InvalidNumber") (He.ga K "RainError")) := ⟨_, fd26, ok__law_gained F26 g_Ratio c_dam_gain m_isinstance g_RainError ec_InvalidColumn m_IndexError xf_InvalidColumn no_InvalidColumn_value cuc_repr m_repr g_InvalidColumn ec_InvalidNumber xf_InvalidNumber no_InvalidNumber_value g_InvalidNumber ec_LimitExceeded m_OverflowError xf_LimitExceeded no_LimitExceeded_limit g_LimitExceeded, He.glo_ok X G (c.d.fact 56 (f := .glo "_law_gained") rfl), F26.kp, F26.bindsN fun _ _ _ _ _ _ us hl => match us, hl with | [_, _, _], _ => rfl⟩
  have c__law_best : CalG P w K mg base CX0 11 "_law_best" ["_law_ground", "_law_rise"] (spTold68b K (He.ga K "Profile") (He.ga K "Ratio") (He.ga K "LimitExceeded") (He.ga K "InvalidColumn") (He.ga K "InvalidNumber") (He.ga K "RainError")) := ⟨_, fd27, ok__law_best F27 c_best_dam m_tuple m_isinstance m_IndexError ec_InvalidNumber g_RainError xf_InvalidNumber no_InvalidNumber_value cuc_repr m_repr g_InvalidNumber, He.glo_ok X G (c.d.fact 57 (f := .glo "_law_best") rfl), F27.kp, F27.bindsN fun _ _ _ _ _ _ us hl => match us, hl with | [_, _], _ => rfl⟩
  have c__law_is_int : Cal P w K mg base CX0 1 "_law_is_int" ["_law_value"] (spWhole K) := ⟨_, fd28, ok__law_is_int F28 m_int m_isinstance m_bool, He.glo_ok X G (c.d.fact 58 (f := .glo "_law_is_int") rfl), F28.kp, F28.bindsN fun _ _ _ _ _ _ us hl => match us, hl with | [_], _ => rfl⟩
  have c__law_due : CalG P w K mg base CX0 3 "_law_due" ["_law_heights", "_law_at", "_law_rise"] (spDue68 K (He.ga K "Ratio")) := ⟨_, fd29, ok__law_due F29 c__law_is_int m_len cuc_repr m_repr, He.glo_ok X G (c.d.fact 59 (f := .glo "_law_due") rfl), F29.kp, F29.bindsN fun _ _ _ _ _ _ us hl => match us, hl with | [_, _, _], _ => rfl⟩
  have c__law_best_due : CalG P w K mg base CX0 3 "_law_best_due" ["_law_rise"] (spDue68b K (He.ga K "Ratio")) := ⟨_, fd30, ok__law_best_due F30 c__law_is_int cuc_repr m_repr, He.glo_ok X G (c.d.fact 60 (f := .glo "_law_best_due") rfl), F30.kp, F30.bindsN fun _ _ _ _ _ _ us hl => match us, hl with | [_], _ => rfl⟩
  exact ok_law F31 c__law_draws c__law_draw m_range cm2_Profile cm1_Ratio m_int c__law_gained c__law_due c__law_best c__law_best_due cp_heights m_tuple
end Rv
open PySem PySem.W PySem.Calls PyProof.Rows
theorem PySem.Challenge.cw_rainvalleys_k68_dams_refused_holds : PySem.Challenge.rw_rainvalleys_k68_dams_refused.Holds := by
  w_on; o_law
  refine HandSHeadRun.head_any (r := OpenLaw.row PySem.Challenge.rw_rainvalleys_k68_dams_refused) (q := view (OpenLaw.row PySem.Challenge.rw_rainvalleys_k68_dams_refused).prog [39]) (H := Rv.hk) (ob := Rv.ob) (M := 12000) (loose := Rv.loose) (d := HandSHeadRun.topDef (OpenLaw.row PySem.Challenge.rw_rainvalleys_k68_dams_refused).prog 39) (kwd := []) Rv.ob_eq
    (by kernel_rfl) (fun s => by kernel_rfl) Rv.run (by kernel_rfl) (by kernel_rfl) (by kernel_rfl) (by rfl) (by first | assumption | decide +kernel) (by decide +kernel) ⟨rfl, rfl, rfl, rfl, rfl, by decide +kernel⟩ ?hw ?hc
  case hw => w_witness2
  case hc =>
    refine Rv.walk_ofG (l := PySem.Challenge.rw_rainvalleys_k68_dams_refused) (n := 63) (k := 12) (x := "_law_script") (CX := L2.CX0) rfl (by decide) (by kernel_rfl) ⟨rfl, by decide, by decide⟩ ?F (fun _ _ _ _ z => z)
    intro w mg fa h Y G hmg0
    obtain ⟨K, KX, c⟩ := Y
    have hmg : mg ("law" : PySem.Str) = some (.ref fa) := by
      have e : (HandSHeadRun.topDef (OpenLaw.row PySem.Challenge.rw_rainvalleys_k68_dams_refused).prog 39).name = ("law" : PySem.Str) := by kernel_rfl
      rw [← e]
      exact hmg0
    obtain ⟨fd, hb, sd, hF⟩ := Rv.facts (P := (PySem.Challenge.rw_rainvalleys_k68_dams_refused).prog) (w := w) KX G hmg c
    exact ⟨K, fd, _, KX, hb, fun H a ns hl hO hS => ⟨a, ns, rfl, hS, sd.1, sd.2.1, sd.2.2.1, sd.2.2.2.1, sd.2.2.2.2.1, sd.2.2.2.2.2, fun _ => rfl⟩, hF⟩
