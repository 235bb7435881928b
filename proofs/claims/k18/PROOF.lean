import PyProof.Rows.All
import Wide.All
import OpenK.AllK
import Wide.FinOn
import KE.KStateDown
import HandS.ForMost
import HandS.ForExc
import HandS.Defaults
import HandS.Property
import HandS.MakeKw
import HandS.IsInst
import HandS.Flow
import HandS.Style
import HandS.Wide
import HandS.OwnEq
import HandS.Conv
import HandS.Deep
import HandS.Head0
import HandS.Head1
import HandS.Head2
import HandS.HeadEnd
import HandS.HeadHook1
import HandS.HeadHook2
import KE.GoesMore
import OpenK.KOps
import KE.KOpsOwn
import HandS.MakeKwOnly
import HandS.FStr
import HandS.List
import HandS.TupAny
import HandS.More
import HandS.ExcInit
import KE.KExcInit
import HandS.Exc
import HandS.ExcOwn
import HandS.ExcIs
import HandS.ExcField
import KE.KExcIs
import HandS.HotCalls
import HandS.Zip
import PySem.Challenge.RW_rainvalleys_k18_rims_of_valleys
set_option Elab.async false
set_option linter.all false
set_option maxRecDepth 100000
set_option maxHeartbeats 4000000
/-! Words of this proof: operators on values by short names, the steps of a reading, what a call of a def asks. -/
namespace Rv
open PySem PySem.Spec PyProof.Rows L2
abbrev oAdd : R2 := rI0 fun i j => .int (i + j)
abbrev oSub : R2 := rI0 fun i j => .int (i - j)
abbrev oMul : R2 := rI CMul fun i j => .int (i * j)
abbrev oMulW : R2 := rI CMulW fun i j => .int (i * j)
abbrev oDiv : R2 := rI CDivW fun i j => .int (i / j)
abbrev oMod : R2 := rI (fun _ j => 0 < j) fun i j => .int (i % j)
abbrev oPow : R2 := rI CPow fun i j => .int (i ^ j.toNat)
abbrev oLt : R2 := rI0 fun i j => .bl (decide (i < j))
abbrev oLe : R2 := rI0 fun i j => .bl (decide (i ≤ j))
abbrev oGt : R2 := rI0 fun i j => .bl (decide (j < i))
abbrev oGe : R2 := rI0 fun i j => .bl (decide (j ≤ i))
abbrev oIsN : R2 := fun x y H Q => y = .non ∧ Q (.bl (decide (x = .non))) H
abbrev oNotN : R2 := fun x y H Q => y = .non ∧ Q (.bl (!decide (x = .non))) H
abbrev cLen (K : PySem.W.Frag) : List V → Hp → VK → Prop := fun xs H Q => ∃ p ys, xs = [.ref p] ∧ (SqL K H p ys ∨ SqT K H p ys) ∧ Q (.int ys.length) H
abbrev cInt : List V → Hp → VK → Prop := fun xs H Q => (∃ i, xs = [.int i] ∧ Q (.int i) H) ∨ ∃ k, xs = [.bl k] ∧ Q (.int (if k then 1 else 0)) H
abbrev cAbs : List V → Hp → VK → Prop := fun xs H Q => ∃ i, xs = [.int i] ∧ Q (.int (if i < 0 then -i else i)) H
abbrev cList (K : PySem.W.Frag) : List V → Hp → VK → Prop := fun xs H Q => ∃ p ys, xs = [.ref p] ∧ (SqL K H p ys ∨ SqT K H p ys) ∧ ∀ l, H l = none → Q (.ref l) (upd H l (.lst ys))
abbrev cTuple (K : PySem.W.Frag) : List V → Hp → VK → Prop := fun xs H Q => ∃ p ys, xs = [.ref p] ∧ ((SqL K H p ys ∧ ∀ l, H l = none → Q (.ref l) (upd H l (.tup ys))) ∨ (SqT K H p ys ∧ Q (.ref p) H))
abbrev cMax2 : List V → Hp → VK → Prop := fun xs H Q => ∃ i j, xs = [.int i, .int j] ∧ Q (.int (if j > i then j else i)) H
abbrev cMin2 : List V → Hp → VK → Prop := fun xs H Q => ∃ i j, xs = [.int i, .int j] ∧ Q (.int (if j < i then j else i)) H

/-- a def of the module as its callers see it -/
structure Cal (P : Program) (w : World) (K : PySem.W.Frag) (mg : Str → Option Value) (base : Heap) (CX : CXT) (k : Nat) (x : Str) (ps : List Str) (sp : Sp) : Prop where
  ex : ∃ f fd, FnOk P w K mg base CX k f fd ps sp ∧ mg x = some (.ref f) ∧ PySem.W.keepIn K (.ref f) = true ∧ Binds K fd ps []
section
variable {X : Cx} {CX : CXT} {k : Nat} {x : Str} {ps : List Str} {sp : Sp} {E : XK} {p pos : Pos} {e : Expr} {es : List Expr} {t : TA}
theorem pe_cal (c : Cal X.prog X.w X.K X.mg X.base CX k x ps sp) (hr : Room k X.A) (hg : Gl X x) (hx : Passes CX X E) (ha : PA X (e :: es) t) (hdb : (x == ("__debug__" : Str)) = false := by decide)
    (he : starEach (e :: es) X.env = (false, eval e X.env) :: starEach es X.env := by rfl) (hpl : (backTo pos (starEach es X.env)).any (·.1) = false := by rfl) :
    PE X (.Call (.Name x p) (e :: es) [] pos) (tCall sp [] E t) := by
  obtain ⟨f, fd, F, hm, hk, hb⟩ := c.ex
  first
    | exact pe_call F hr hg hm hk hb .nil hx ha hdb he hpl
    | exact pe_call F hr hg hm hk hb .nil hx ha
end

section
variable {K : PySem.W.Frag} {σ : L2.St} {H : Hp} {Q : VK} {D : Ends} {v x y : V} {i j : Int} {n : Nat} {ta tb te to ti : TE} {t u c : TT} {tr : TA} {b : Bool} {r : R2} {s1 s2 : TS} {g : TG} {p : Addr} {xs : List V} {TQ : Bool → Hp → Prop} {AQ : List V → Hp → Prop} {HQ : Hp → Prop} {GQ : L2.St → Hp → Prop}
theorem w_var (h : σ[n]? = some (some v)) (q : Q v H) : tVar n σ H Q := ⟨v, h, q⟩
theorem w_c (q : Q v H) : tC v σ H Q := q
theorem w_op (q : ta σ H fun x H1 => tb σ H1 fun y H2 => r x y H2 Q) : tOp r ta tb σ H Q := q
theorem w_un {r : V → Hp → VK → Prop} (q : ta σ H fun x H1 => r x H1 Q) : tUn r ta σ H Q := q
theorem w_U {g : Int → V} (q : Q (g i) H) : rU g (.int i) H Q := ⟨i, rfl, q⟩
theorem w_test (q : ta σ H fun x H' => ∃ k, x = .bl k ∧ TQ k H') : tTest ta σ H TQ := q
theorem w_tB (q : ta σ H fun x H' => ∃ k, x = .bl k ∧ TQ k H') : tB ta σ H TQ := q
theorem w_bl (q : TQ b H) : ∃ k, V.bl b = .bl k ∧ TQ k H := ⟨b, rfl, q⟩
theorem w_I0 {g : Int → Int → V} (q : Q (g i j) H) : rI0 g (.int i) (.int j) H Q := ⟨i, j, rfl, rfl, q⟩
theorem w_I {C : Int → Int → Prop} {g : Int → Int → V} (hc : C i j) (q : Q (g i j) H) : rI C g (.int i) (.int j) H Q := ⟨i, j, rfl, rfl, hc, q⟩
theorem w_eq (h : scal x y = true) (q : Q (.bl (decide (x = y))) H) : rEq x y H Q := ⟨h, q⟩
theorem w_eqI (q : Q (.bl (decide (i = j))) H) : rEq (.int i) (.int j) H Q := ⟨rfl, by
  have e : decide (V.int i = V.int j) = decide (i = j) := by
    by_cases h : i = j
    · rw [h, decide_eq_true rfl, decide_eq_true rfl]
    · rw [decide_eq_false h, decide_eq_false (fun z => h (V.int.inj z))]
  rw [e]
  exact q⟩
theorem w_neI (q : Q (.bl (!decide (i = j))) H) : rNe (.int i) (.int j) H Q := ⟨rfl, by
  have e : decide (V.int i = V.int j) = decide (i = j) := by
    by_cases h : i = j
    · rw [h, decide_eq_true rfl, decide_eq_true rfl]
    · rw [decide_eq_false h, decide_eq_false (fun z => h (V.int.inj z))]
  rw [e]
  exact q⟩
theorem w_cons (q : ta σ H fun x H1 => tr σ H1 fun xs H2 => AQ (x :: xs) H2) : tCons ta tr σ H AQ := q
theorem w_nil (q : AQ [] H) : tNil σ H AQ := q
theorem w_seq (q : s1 { D with nx := s2 D } σ H) : tSeq s1 s2 D σ H := q
theorem w_seqA (q : te σ H fun x H1 => g x σ H1 (s2 D)) : tSeq (tAsg te g) s2 D σ H := q
theorem w_seqD (q : te σ H fun _ H1 => s2 D σ H1) : tSeq (tDrop te) s2 D σ H := q
theorem w_seqP {m : Nat} (q : tr σ H fun vs H1 => ∃ v w, vs = [v, w] ∧ s2 D ((σ.set n (some v)).set m (some w)) H1) : tSeq (tPar n m tr) s2 D σ H := q
/-- behind s1 the word W holds, whatever way was gone -/
theorem w_cut (W : L2.St → Hp → Prop) (h : ∀ N : L2.St → Hp → Prop, (∀ σ' H', W σ' H' → N σ' H') → s1 { D with nx := N } σ H) (k : ∀ σ' H', W σ' H' → s2 D σ' H') : tSeq s1 s2 D σ H := h _ k
theorem w_next (q : D.nx σ H) : tNext D σ H := q
theorem w_asg (q : te σ H fun x H1 => g x σ H1 D.nx) : tAsg te g D σ H := q
theorem w_gn (q : GQ (σ.set n (some v)) H) : gName n v σ H GQ := q
theorem w_gsub {s : TSet} (q : to σ H fun o H1 => ti σ H1 fun i H2 => s o i v H2 fun H3 => GQ σ H3) : gSub to ti s v σ H GQ := q
theorem w_setL {k : Int} {j : Nat} (h : H p = some (.lst xs)) (hj : ixN xs.length k = some j) (q : HQ (upd H p (.lst (xs.set j v)))) : rSetL (.ref p) (.int k) v H HQ := ⟨p, xs, k, j, rfl, rfl, h, hj, q⟩
theorem w_ret (q : te σ H D.rt) : tRet te D σ H := q
theorem w_drop (q : te σ H fun _ H1 => D.nx σ H1) : tDrop te D σ H := q
theorem w_ifs (q : c σ H fun b H1 => if b = true then s1 D σ H1 else s2 D σ H1) : tIfS c s1 s2 D σ H := q
theorem w_if (q : c σ H fun b H1 => if b = true then ta σ H1 Q else tb σ H1 Q) : tIf c ta tb σ H Q := q
theorem w_and (q : t σ H fun c H1 => if c = true then u σ H1 TQ else TQ false H1) : tAnd t u σ H TQ := q
theorem w_or (q : t σ H fun c H1 => if c = true then TQ true H1 else u σ H1 TQ) : tOr t u σ H TQ := q
theorem w_not (q : t σ H fun c H1 => TQ (!c) H1) : tNot t σ H TQ := q
theorem w_andV (q : ta σ H fun x H1 => ∃ c, x = .bl c ∧ if c = true then tb σ H1 Q else Q (.bl false) H1) : tAndV ta tb σ H Q := q
theorem w_orV (q : ta σ H fun x H1 => ∃ c, x = .bl c ∧ if c = true then Q (.bl true) H1 else tb σ H1 Q) : tOrV ta tb σ H Q := q
theorem w_notV (q : ta σ H fun x H1 => ∃ c, x = .bl c ∧ Q (.bl (!c)) H1) : tNotV ta σ H Q := q
theorem w_ixL (h : SqL K H p xs) (ha : atI xs i = some v) (q : Q v H) : rIxL K (.ref p) (.int i) H Q := ⟨p, xs, i, v, rfl, rfl, h, ha, q⟩
theorem w_ixT (h : SqT K H p xs) (ha : atI xs i = some v) (q : Q v H) : rIxT K (.ref p) (.int i) H Q := ⟨p, xs, i, v, rfl, rfl, h, ha, q⟩
theorem w_cb {r : List V → Hp → VK → Prop} (q : tr σ H fun vs H1 => r vs H1 Q) : tCB r tr σ H Q := q
theorem w_lenL (h : SqL K H p xs) (q : Q (.int xs.length) H) : cLen K [.ref p] H Q := ⟨p, xs, rfl, .inl h, q⟩
theorem w_lenT (h : SqT K H p xs) (q : Q (.int xs.length) H) : cLen K [.ref p] H Q := ⟨p, xs, rfl, .inr h, q⟩
theorem w_intB (q : Q (.int (if b then 1 else 0)) H) : cInt [.bl b] H Q := .inr ⟨b, rfl, q⟩
theorem w_intI (q : Q (.int i) H) : cInt [.int i] H Q := .inl ⟨i, rfl, q⟩
theorem w_abs (q : Q (.int (if i < 0 then -i else i)) H) : cAbs [.int i] H Q := ⟨i, rfl, q⟩
theorem w_call {sp : Sp} {dvs : List V} {E : XK} (q : tr σ H fun vs H1 => sp (vs ++ dvs) H1 Q E) : tCall sp dvs E tr σ H Q := q
theorem w_lst (q : tr σ H fun xs H1 => xs.length ≤ sizeLine ∧ ∀ p, H1 p = none → Q (.ref p) (upd H1 p (.lst xs))) : tLst tr σ H Q := q
theorem w_tup (q : tr σ H fun xs H1 => xs.length ≤ sizeLine ∧ ∀ p, H1 p = none → Q (.ref p) (upd H1 p (.tup xs))) : tTup tr σ H Q := q
theorem w_par {m : Nat} (q : tr σ H fun vs H1 => ∃ v w, vs = [v, w] ∧ D.nx ((σ.set n (some v)).set m (some w)) H1) : tPar n m tr D σ H := q
theorem w_sl {r : V → Option Int → Option Int → Hp → VK → Prop} {tl th : TO} (q : te σ H fun x H1 => tl σ H1 fun l H2 => th σ H2 fun u H3 => r x l u H3 Q) : tSl r te tl th σ H Q := q
theorem w_slL {lo hi : Option Int} (h : SqL K H p xs) (q : ∀ q', H q' = none → Q (.ref q') (upd H q' (.lst (cutV xs lo hi)))) : rSlL K (.ref p) lo hi H Q := ⟨p, xs, rfl, h, q⟩
theorem w_noPart {OQ : Option Int → Hp → Prop} (q : OQ none H) : tNoPart σ H OQ := q
theorem w_part {OQ : Option Int → Hp → Prop} (q : te σ H fun x H1 => ∃ i, x = .int i ∧ OQ (some i) H1) : tPart te σ H OQ := q
theorem w_ex1 {P : Int → Prop} (q : P i) : ∃ j, V.int i = .int j ∧ P j := ⟨i, rfl, q⟩
theorem w_exb {P : Bool → Prop} (q : P b) : ∃ j, V.bl b = .bl j ∧ P j := ⟨b, rfl, q⟩
theorem w_nx {f : L2.St → Hp → Prop} {r : VK} {k c : L2.St → Hp → Prop} {σ : L2.St} {H : Hp} (q : f σ H) : Ends.nx ⟨f, r, k, c⟩ σ H := q
theorem w_rt {f : L2.St → Hp → Prop} {r : VK} {k c : L2.St → Hp → Prop} {v : V} {H : Hp} (q : r v H) : Ends.rt ⟨f, r, k, c⟩ v H := q
theorem w_yes {TQ : Bool → Hp → Prop} {σ : L2.St} {H : Hp} (q : TQ true H) : tYes σ H TQ := q
theorem iteNT {A B : Prop} (h : B) : if (!true) = true then A else B := iteF h
theorem iteNF {A B : Prop} (h : A) : if (!false) = true then A else B := iteT h
theorem iteRf {α : Type} [DecidableEq α] {z : α} {A B : Prop} (h : A) : if decide (z = z) = true then A else B := by
  rw [decide_eq_true rfl]
  exact iteT h
theorem iteNRf {α : Type} [DecidableEq α] {z : α} {A B : Prop} (h : B) : if (!decide (z = z)) = true then A else B := by
  rw [decide_eq_true rfl]
  exact iteF h
/-- a test whose answer is open: both ways -/
theorem w_both {c A B : Prop} [Decidable c] (h1 : c → A) (h2 : ¬ c → B) : if decide c = true then A else B := by
  by_cases h : c
  · rw [decide_eq_true h]
    exact iteT (h1 h)
  · rw [decide_eq_false h]
    exact iteF (h2 h)
theorem w_bothN {c A B : Prop} [Decidable c] (h1 : ¬ c → A) (h2 : c → B) : if (!decide c) = true then A else B := by
  by_cases h : c
  · rw [decide_eq_true h]
    exact iteF (h2 h)
  · rw [decide_eq_false h]
    exact iteT (h1 h)
theorem w_bool {A B : Prop} {b : Bool} (h1 : b = true → A) (h2 : b = false → B) : if b = true then A else B := by
  cases b with
  | true => exact iteT (h1 rfl)
  | false => exact iteF (h2 rfl)
end
theorem pow_c {i j : Int} (h : 0 ≤ j) (h2 : j ≤ 1000000) (h3 : -18446744073709551616 < i) (h4 : i < 18446744073709551616) : CPow i j := ⟨h, h2, by
  have e : (2 : Nat) ^ 64 = 18446744073709551616 := by decide
  omega⟩
theorem mul_l {i j : Int} (h3 : -18446744073709551616 < i) (h4 : i < 18446744073709551616) : CMul i j := .inl ⟨by
  have e : (2 : Int) ^ 64 = 18446744073709551616 := by decide
  omega, by
  have e : (2 : Int) ^ 64 = 18446744073709551616 := by decide
  omega⟩
theorem mul_r {i j : Int} (h3 : -18446744073709551616 < j) (h4 : j < 18446744073709551616) : CMul i j := .inr ⟨by
  have e : (2 : Int) ^ 64 = 18446744073709551616 := by decide
  omega, by
  have e : (2 : Int) ^ 64 = 18446744073709551616 := by decide
  omega⟩
/-- all that H tracked, but the object at d, stands as it was -/
def But (d : Addr) (H H' : Hp) : Prop := ∀ b o, b ≠ d → H b = some o → H' b = some o
theorem But.refl (d : Addr) (H : Hp) : But d H H := fun _ _ _ h => h
theorem But.trans {d : Addr} {H H1 H2 : Hp} (a : But d H H1) (b : But d H1 H2) : But d H H2 := fun c o n h => b c o n (a c o n h)
theorem But.wr {d : Addr} {H H' : Hp} {o : HO} (a : But d H H') : But d H (upd H' d o) := fun c u n h => by
  rw [upd_ne n]
  exact a c u n h
theorem But.new {d p : Addr} {H H' : Hp} {o : HO} (a : But d H H') (h : H' p = none) : But d H (upd H' p o) := fun c u n z => by
  have q := a c u n z
  rw [upd_ne (ne_of_none q h)]
  exact q
theorem But.same {d : Addr} {H H' : Hp} (a : Same H H') : But d H H' := fun c u _ z => a c u z
theorem same_new {p : Addr} {H H' : Hp} {o : HO} (a : Same H H') (h : H' p = none) : Same H (upd H' p o) := fun c u z => by
  have q := a c u z
  rw [upd_ne (ne_of_none q h)]
  exact q
theorem But.sq {K : PySem.W.Frag} {d a : Addr} {H H' : Hp} {xs : List V} (e : But d H H') (n : a ≠ d) (h : SqL K H a xs) : SqL K H' a xs := by
  rcases h with (h | ⟨o, h⟩) | h
  · exact .inl (.inl (e _ _ n h))
  · exact .inl (.inr ⟨o, e _ _ n h⟩)
  · exact .inr h
theorem But.free {d : Addr} {H H' : Hp} (e : But d H H') {l : Addr} (n : l ≠ d) (h : H' l = none) : H l = none := by
  cases q : H l with
  | none => rfl
  | some o =>
    rw [e l o n q] at h
    cases h
theorem sq_lst {K : PySem.W.Frag} {H : Hp} {a : Addr} {xs : List V} (h : H a = some (.lst xs)) : SqL K H a xs := .inl (.inl h)
theorem sq_tup {K : PySem.W.Frag} {H : Hp} {a : Addr} {xs : List V} (h : H a = some (.tup xs)) : SqT K H a xs := .inl (.inl h)
theorem at_nat {xs : List V} {j : Nat} {v : V} (h : xs[j]? = some v) : atI xs (j : Int) = some v := atI_nat h
theorem szl {n : Nat} (h : n ≤ 100000) : n ≤ sizeLine := Nat.le_trans h (by decide)
end Rv
namespace Rv
open PySem PySem.Spec PyProof.Rows L2
/-- a module's name that holds an int -/
theorem pe_gint {X : Cx} {x : Str} {i : Int} {pos : Pos} (h : ∃ u, X.mg x = some (.int i u)) (hg : Gl X x) (hd : (x == ("__debug__" : Str)) = false := by decide) : PE X (.Name x pos) (tC (.int i)) := by
  obtain ⟨u, h⟩ := h
  exact pe_glob hg h ⟨u, rfl⟩ hd
/-- a class of the module whose instances are made by its __init__ (dvs: the defaults that fill up) -/
structure CalM (P : Program) (w : World) (K : PySem.W.Frag) (mg : Str → Option Value) (base : Heap) (CX : CXT) (k : Nat) (x : Str) (C : Addr) (ps : List Str) (sp : Sp) (dvs : List V) : Prop where
  ex : ∃ f fd ds, FnOk P w K mg base CX k f fd ps sp ∧ Mk K C f ∧ mg x = some (.ref C) ∧ Binds K fd ps ds ∧ Vals dvs ds
/-- a property of a class that hands back a field -/
structure CalP (P : Program) (w : World) (K : PySem.W.Frag) (mg : Str → Option Value) (base : Heap) (CX : CXT) (k : Nat) (C : Addr) (f : Str) (sp : Sp) : Prop where
  ex : ∃ p g fd, FnOk P w K mg base CX k g fd ["self"] sp ∧ Cls K C ∧ PropOf K C f p g ∧ Binds K fd ["self"] []
/-- a method of a class -/
structure CalT (P : Program) (w : World) (K : PySem.W.Frag) (mg : Str → Option Value) (base : Heap) (CX : CXT) (k : Nat) (C : Addr) (m : Str) (ps : List Str) (sp : Sp) : Prop where
  ex : ∃ f fd, FnOk P w K mg base CX k f fd ps sp ∧ Cls K C ∧ Meth K C m f ∧ Binds K fd ps []
section
variable {X : Cx} {CX : CXT} {k : Nat} {x f m : Str} {ps : List Str} {sp : Sp} {E : XK} {p pos apos : Pos} {e o : Expr} {es : List Expr} {t : TA} {ta : TE} {C : Addr} {dvs : List V}
theorem pe_calm (c : CalM X.prog X.w X.K X.mg X.base CX k x C ps sp dvs) (hr : Room (k + 1) X.A) (hg : Gl X x) (hx : Passes CX X E) (ha : PA X (e :: es) t) (hdb : (x == ("__debug__" : Str)) = false := by decide)
    (he : starEach (e :: es) X.env = (false, eval e X.env) :: starEach es X.env := by rfl) (hpl : (backTo pos (starEach es X.env)).any (·.1) = false := by rfl) :
    PE X (.Call (.Name x p) (e :: es) [] pos) (tMake C sp dvs E t) := by
  obtain ⟨f, fd, ds, F, M, hm, hb, hd⟩ := c.ex
  exact pe_make M F hr hg hm hb hd hx ha hdb he hpl
theorem pe_calp (c : CalP X.prog X.w X.K X.mg X.base CX k C f sp) (hr : Room (k + 1) X.A) (hx : Passes CX X.nox E) (ha : PE X e ta) (hab : attributeBase e f X.env (eval e X.env) = eval e X.env) :
    PE X (.Attribute e f pos) (tProp C sp [] E ta) := by
  obtain ⟨q, g, fd, F, cl, hp, hb⟩ := c.ex
  exact pe_prop ha cl hp F hr hb .nil hx hab
theorem pe_calt {pl : Sem Bool} (c : CalT X.prog X.w X.K X.mg X.base CX k C m ps sp) (hr : Room k X.A) (hx : Passes CX X E) (ho : PE X o ta) (ha : PA X (e :: es) t)
    (he : starEach (e :: es) X.env = (false, eval e X.env) :: starEach es X.env := by rfl) (hpl : (backTo pos (starEach es X.env)).any (·.1) = false := by rfl)
    (ht : eval (.Call (.Attribute o m apos) (e :: es) [] pos) X.env = (do let ov ← eval o X.env; standAt apos.atName; let (f, first) ← holding [ov] (getMethod ov m pl); callWith pos f first (backTo pos (starEach (e :: es) X.env)) (backToKw pos (keywordEach [] X.env))) := by rfl) :
    PE X (.Call (.Attribute o m apos) (e :: es) [] pos) (tMeth C m sp [] E ta t) := by
  obtain ⟨f, fd, F, cl, hm, hb⟩ := c.ex
  exact pe_meth ho cl hm F hr hb .nil hx ha he hpl ht
theorem pe_calt0 {pl : Sem Bool} (c : CalT X.prog X.w X.K X.mg X.base CX k C m ps sp) (hr : Room k X.A) (hx : Passes CX X E) (ho : PE X o ta)
    (ht : eval (.Call (.Attribute o m apos) [] [] pos) X.env = (do let ov ← eval o X.env; standAt apos.atName; let (f, first) ← holding [ov] (getMethod ov m pl); callWith pos f first (backTo pos (starEach [] X.env)) (backToKw pos (keywordEach [] X.env))) := by rfl) :
    PE X (.Call (.Attribute o m apos) [] [] pos) (tMeth C m sp [] E ta tNil) := by
  obtain ⟨f, fd, F, cl, hm, hb⟩ := c.ex
  exact pe_meth0 ho cl hm F hr hb .nil hx ht
end
/-- == of a class's own -/
structure CalE (P : Program) (w : World) (K : PySem.W.Frag) (mg : Str → Option Value) (base : Heap) (CX : CXT) (k : Nat) (C : Addr) (R : Addr → Addr → Hp → Prop) : Prop where
  ex : ∃ f fd, FnOk P w K mg base CX k f fd ["self", "other"] (spEq R) ∧ PySem.W.findIn K (.ref C) "__eq__" = some (some (.ref f)) ∧ PySem.W.isFn K (.ref f) = true ∧ Binds K fd ["self", "other"] []
theorem op_cale {X : Cx} {CX : CXT} {k : Nat} {C : Addr} {R : Addr → Addr → Hp → Prop} {E : XK} (c : CalE X.prog X.w X.K X.mg X.base CX k C R) (hr : Room k X.A) (hx : Passes CX X E) : OpR X (compareOp .Eq) (rEqG (DIns C R)) := by
  obtain ⟨f, fd, F, h1, h2, hb⟩ := c.ex
  exact op_eqG (rcG_ins F h1 h2 hb hx) hr
end Rv
namespace Rv
open PySem PySem.Spec PyProof.Rows L2
section
variable {K : PySem.W.Frag} {σ : L2.St} {H : Hp} {Q : VK} {D : Ends} {v x y : V} {i j : Int} {n slot : Nat} {ta tb tc te to ti tv tl : TE} {t u c tt : TT} {tr : TA} {b : Bool} {r r' : R2} {s1 s2 : TS} {g : TG} {p a d C dx : Addr} {xs : List V} {f : Str} {fs : List (Str × V)} {GQ2 : Hp → Prop}
theorem w_chain (q : ta σ H fun x H1 => tb σ H1 fun y H2 => r x y H2 fun z H3 => ∃ k, z = .bl k ∧ (if k = true then tc σ H3 fun w' H4 => r' y w' H4 Q else Q (.bl false) H3)) : tChain r r' ta tb tc σ H Q := q
theorem w_fld (hn : σ[n]? = some (some (.ref a))) (ho : H a = some (.ins C dx fs)) (hc : Cls K C) (hf : NoAttr K C f) (hl : fs.lookup f = some v) (q : Q v H) : tFld K (tVar n) f σ H Q := ⟨_, hn, a, C, dx, fs, v, rfl, ho, hc, hf, hl, q⟩
theorem w_prop {sp : Sp} {E : XK} (hn : σ[n]? = some (some (.ref a))) (ho : H a = some (.ins C dx fs)) (q : sp [.ref a] H Q E) : tProp C sp [] E (tVar n) σ H Q := ⟨_, hn, a, dx, fs, rfl, ho, q⟩
theorem w_sfld (q : tv σ H fun y H1 => to σ H1 fun x H2 => ∃ a C dx fs, x = .ref a ∧ H2 a = some (.ins C dx fs) ∧ Cls K C ∧ NoAttr K C f ∧ fs.length < 1000 ∧ D.nx σ (upd H2 a (.ins C dx (putF f y fs)))) : sFld K to tv f D σ H := q
theorem w_put (ho : H a = some (.ins C dx fs)) (hc : Cls K C) (hf : NoAttr K C f) (hl : fs.length < 1000) (q : GQ2 (upd H a (.ins C dx (putF f y fs)))) : ∃ a' C' dx' fs', V.ref a = .ref a' ∧ H a' = some (.ins C' dx' fs') ∧ Cls K C' ∧ NoAttr K C' f ∧ fs'.length < 1000 ∧ GQ2 (upd H a' (.ins C' dx' (putF f y fs'))) := ⟨a, C, dx, fs, rfl, ho, hc, hf, hl, q⟩
/-- a call of a maker -/
theorem w_make {sp : Sp} {dvs : List V} {E : XK} (q : tr σ H fun vs H1 => ∀ x dx, H1 x = none → H1 dx = none → dx ≠ x → sp (.ref x :: (vs ++ dvs)) (upd (upd H1 dx (.own x)) x (.ins C dx [])) (fun v H2 => v = .non ∧ Q (.ref x) H2) E) : tMake C sp dvs E tr σ H Q := q
/-- for i in range(n) -/
theorem w_forR {n : Nat} (hn : n ≤ 100000) (ha : ∀ AQ : List V → Hp → Prop, AQ [.int (n : Int)] H → tr σ H AQ) (Pv : Nat → L2.St → Hp → Prop) (h0 : Pv 0 σ H)
    (hs : ∀ i σ' H', i < n → Pv i σ' H' → s1 { D with nx := Pv (i + 1), ct := Pv (i + 1), bk := D.nx } (σ'.set slot (some (.int (i : Int)))) H') (hd : ∀ σ' H', Pv n σ' H' → D.nx σ' H') : tFor (iRng1 tr) (gName slot) s1 D σ H := by
  refine ha _ ⟨(n : Int), rfl, by omega, by omega, ?_⟩
  rw [show ((n : Int)).toNat = n from Int.toNat_natCast n]
  refine for_range Pv h0 (fun i σ' H' hi q => ?_) hd
  show s1 _ (σ'.set slot (some (.int (0 + (i : Int))))) H'
  rw [Int.zero_add]
  exact hs i σ' H' hi q
/-- for x in a list -/
theorem w_forL (ha : ∀ Q : VK, Q (.ref a) H → tl σ H Q) (hx : SqL K H a xs) (Pv : Nat → L2.St → Hp → Prop) (h0 : Pv 0 σ H) (hl : ∀ i σ' H', i ≤ xs.length → Pv i σ' H' → SqL K H' a xs)
    (hs : ∀ i x σ' H', xs[i]? = some x → Pv i σ' H' → g x σ' H' fun σ2 H2 => s1 { D with nx := Pv (i + 1), ct := Pv (i + 1), bk := D.nx } σ2 H2) (hd : ∀ σ' H', Pv xs.length σ' H' → D.nx σ' H') : tFor (iList K tl) g s1 D σ H :=
  ha _ ⟨a, rfl, ⟨xs, hx⟩, for_list Pv h0 hl hs hd⟩
theorem w_forT (ha : ∀ Q : VK, Q (.ref a) H → tl σ H Q) (hx : SqT K H a xs) (Pv : Nat → L2.St → Hp → Prop) (h0 : Pv 0 σ H) (hl : ∀ i σ' H', i ≤ xs.length → Pv i σ' H' → SqT K H' a xs)
    (hs : ∀ i x σ' H', xs[i]? = some x → Pv i σ' H' → g x σ' H' fun σ2 H2 => s1 { D with nx := Pv (i + 1), ct := Pv (i + 1), bk := D.nx } σ2 H2) (hd : ∀ σ' H', Pv xs.length σ' H' → D.nx σ' H') : tFor (iTup K tl) g s1 D σ H :=
  ha _ ⟨a, rfl, ⟨xs, hx⟩, for_tup Pv h0 hl hs hd⟩
/-- for i, x in enumerate(a list): each turn has a new pair -/
theorem w_forE (ha : ∀ AQ : List V → Hp → Prop, AQ [.ref a] H → tr σ H AQ) (hx : SqL K H a xs) (Pv : Nat → L2.St → Hp → Prop) (h0 : Pv 0 σ H) (hl : ∀ i σ' H', Pv i σ' H' → SqL K H' a xs)
    (hs : ∀ i x T σ' H', xs[i]? = some x → Pv i σ' H' → H' T = none → g (.ref T) σ' (upd H' T (.tup [.int (i : Int), x])) fun σ2 H2 => s1 { D with nx := Pv (i + 1), ct := Pv (i + 1), bk := D.nx } σ2 H2)
    (hd : ∀ σ' H', Pv xs.length σ' H' → D.nx σ' H') : tFor (iEnum K tr) g s1 D σ H := by
  refine ha _ ⟨a, xs, rfl, hx, fun i m σ' H' => m = xs.length - i ∧ i ≤ xs.length ∧ Pv i σ' H', ⟨xs.length, by simp, Nat.zero_le _, h0⟩, ?_⟩
  rintro i m σ' H' ⟨rfl, hi, q⟩
  have hq := hl i σ' H' q
  by_cases hlt : i < xs.length
  · refine .inr ⟨⟨xs, xs[i], hq, List.getElem?_eq_getElem hlt⟩, fun σ2 H2 => Pv (i + 1) σ2 H2, fun σ2 H2 q2 => ⟨xs.length - (i + 1), by omega, rfl, hlt, q2⟩, ?_⟩
    rintro x H2 ⟨T, z, rfl, nT, rfl, hz⟩
    exact hs i z T σ' H' (hz xs hq) q nT
  · have e : i = xs.length := by omega
    subst e
    exact .inl ⟨⟨xs, hq, Nat.le_refl _⟩, hd σ' H' q⟩
/-- while -/
theorem w_while (W : Nat → L2.St → Hp → Prop) {m : Nat} (h0 : W m σ H) (hs : ∀ m σ' H', W m σ' H' → c σ' H' fun b H1 => if b = true then (∃ N : L2.St → Hp → Prop, (∀ σ2 H2, N σ2 H2 → ∃ m', m' < m ∧ W m' σ2 H2) ∧ s1 { D with nx := N, ct := N, bk := D.nx } σ' H1) else D.nx σ' H1) : tWhile c s1 D σ H := ⟨W, ⟨m, h0⟩, hs⟩
theorem w_turn {W : Nat → L2.St → Hp → Prop} {m : Nat} {σ' : L2.St} {H1 : Hp} {D2 : Ends} (h : s1 { D2 with nx := fun σ2 H2 => ∃ m', m' < m ∧ W m' σ2 H2, ct := fun σ2 H2 => ∃ m', m' < m ∧ W m' σ2 H2, bk := D2.nx } σ' H1) :
    ∃ N : L2.St → Hp → Prop, (∀ σ2 H2, N σ2 H2 → ∃ m', m' < m ∧ W m' σ2 H2) ∧ s1 { D2 with nx := N, ct := N, bk := D2.nx } σ' H1 := ⟨_, fun _ _ z => z, h⟩
/-- [e for x in range(n)] -/
theorem w_lcR {n : Nat} (hn : n ≤ 100000) (ha : ∀ AQ : List V → Hp → Prop, AQ [.int (n : Int)] H → tr σ H AQ) (J : Addr → List V → Hp → Prop) (h0 : ∀ D, H D = none → J D [] (upd H D (.lst [])))
    (hs : ∀ D acc H1, acc.length < n → J D acc H1 → te ((σ.set slot none).set slot (some (.int (acc.length : Int)))) H1 fun y H2 => ∃ bcc, H2 D = some (.lst bcc) ∧ bcc.length < sizeLine ∧ ∃ ccc, ccc.length = acc.length + 1 ∧ J D ccc (upd H2 D (.lst (bcc ++ [y]))))
    (hd : ∀ D acc H1, acc.length = n → J D acc H1 → Q (.ref D) H1) : tLc (iRng1 tr) (gName slot) tYes te [slot] σ H Q := by
  refine ha _ ⟨(n : Int), rfl, by omega, by omega, ?_⟩
  rw [show ((n : Int)).toNat = n from Int.toNat_natCast n]
  intro D nD
  refine lc_range (fun i H1 => ∃ acc, acc.length = i ∧ J D acc H1) ⟨[], rfl, h0 D nD⟩ ?_ (fun H1 ⟨acc, e, q⟩ => hd D acc H1 e q)
  rintro i H1 hi ⟨acc, rfl, q⟩
  refine ⟨?_, ?_⟩
  · show ((σ.set slot none).set slot _).set slot none = σ.set slot none
    rw [List.set_set, List.set_set]
  · show te _ H1 _
    rw [Int.zero_add]
    exact hs D acc H1 hi q
/-- what a turn of a comprehension ends with -/
theorem w_app {J : Addr → List V → Hp → Prop} {D2 : Addr} {acc : List V} {H2 : Hp} (h : H2 D2 = some (.lst acc)) (hl : acc.length ≤ 100000) (q : J D2 (acc ++ [y]) (upd H2 D2 (.lst (acc ++ [y])))) :
    ∃ bcc, H2 D2 = some (.lst bcc) ∧ bcc.length < sizeLine ∧ ∃ ccc, ccc.length = acc.length + 1 ∧ J D2 ccc (upd H2 D2 (.lst (bcc ++ [y]))) :=
  ⟨acc, h, Nat.lt_of_lt_of_le (by omega : acc.length < 100001) (by decide), acc ++ [y], by rw [List.length_append]; rfl, q⟩
end
end Rv
namespace Rv
open PySem PySem.Spec PyProof.Rows L2
section
variable {K : PySem.W.Frag} {σ : L2.St} {H : Hp} {Q : VK} {D : Ends} {v x y : V} {i j : Int} {n slot : Nat} {ta tb tc te to ti tv tl : TE} {t u c tt : TT} {tr : TA} {b b2 : Bool} {g : TG} {p a l : Addr} {xs ys : List V} {vs : List Nat}
theorem w_bm {r : V → List V → Hp → VK → Prop} (hn : σ[n]? = some (some (.ref l))) (hl : H l = some (.lst xs)) (q : tr σ H fun ws H2 => r (.ref l) ws H2 Q) : tBM K "list" r (tVar n) tr σ H Q := ⟨_, hn, .inl ⟨rfl, _, sq_lst hl⟩, q⟩
theorem w_bm0 {r : V → List V → Hp → VK → Prop} (hn : σ[n]? = some (some (.ref l))) (hl : H l = some (.lst xs)) (q : r (.ref l) [] H Q) : tBM0 K "list" r (tVar n) σ H Q := ⟨_, hn, .inl ⟨rfl, _, sq_lst hl⟩, q⟩
theorem w_appR (hl : H l = some (.lst xs)) (hz : xs.length ≤ 100000) (q : Q .non (upd H l (.lst (xs ++ [y])))) : rAppend (.ref l) [y] H Q := ⟨l, xs, y, rfl, rfl, hl, Nat.lt_of_lt_of_le (by omega : xs.length < 100001) (by decide), q⟩
theorem w_clear (hl : H l = some (.lst xs)) (q : Q .non (upd H l (.lst []))) : rClear (.ref l) [] H Q := ⟨l, xs, rfl, rfl, hl, q⟩
theorem w_eqB (q : Q (.bl (decide (b = b2))) H) : rEq (.bl b) (.bl b2) H Q := ⟨rfl, by
  have e : decide (V.bl b = V.bl b2) = decide (b = b2) := by
    by_cases h : b = b2
    · rw [h, decide_eq_true rfl, decide_eq_true rfl]
    · rw [decide_eq_false h, decide_eq_false (fun z => h (V.bl.inj z))]
  rw [e]
  exact q⟩
/-- a list, two lists that are at hand -/
def iAt (K : PySem.W.Frag) (a : Addr) : TI := fun _ H R => (∃ xs, SqL K H a xs) ∧ R (Itl K a) H
theorem w_lcl (q : tl σ H fun x H1 => ∃ a, x = .ref a ∧ tLc (iAt K a) g tt te vs σ H1 Q) : tLc (iList K tl) g tt te vs σ H Q := q
theorem w_lcA (hx : SqL K H a xs) (J : Addr → Nat → List V → Hp → Prop) (h0 : ∀ D, H D = none → J D 0 [] (upd H D (.lst []))) (hl : ∀ D i acc H1, J D i acc H1 → SqL K H1 a xs)
    (hs : ∀ D i acc x H1, xs[i]? = some x → J D i acc H1 → g x (wipe σ vs) H1 fun σ2 H2 => wipe σ2 vs = wipe σ vs ∧ tt σ2 H2 fun b H3 => if b = true then te σ2 H3 fun y H4 => ∃ bcc, H4 D = some (.lst bcc) ∧ bcc.length < sizeLine ∧ ∃ ccc, J D (i + 1) ccc (upd H4 D (.lst (bcc ++ [y]))) else ∃ ccc, J D (i + 1) ccc H3)
    (hd : ∀ D acc H1, J D xs.length acc H1 → Q (.ref D) H1) : tLc (iAt K a) g tt te vs σ H Q := by
  refine ⟨⟨xs, hx⟩, fun D nD => ?_⟩
  exact lc_list (fun i H1 => ∃ acc, J D i acc H1) ⟨[], h0 D nD⟩ (fun i H1 _ ⟨acc, q⟩ => hl D i acc H1 q) (fun i x H1 hx ⟨acc, q⟩ => hs D i acc x H1 hx q) fun H1 ⟨acc, q⟩ => hd D acc H1 q
def iAtZ (K : PySem.W.Frag) (a b : Addr) : TI := fun _ H R => (∃ xs ys, SqL K H a xs ∧ SqL K H b ys) ∧ R (Itz K a b) H
theorem w_lcz (q : tr σ H fun ws H1 => ∃ a b xs ys, ws = [.ref a, .ref b] ∧ SqL K H1 a xs ∧ SqL K H1 b ys ∧ ∀ D, H1 D = none → ∃ W : Nat → Nat → Hp → Prop, (∃ m, W 0 m (upd H1 D (.lst []))) ∧ ∀ i m H, W i m H →
      ((Itz K a b).stop i H ∧ Q (.ref D) H) ∨ ((Itz K a b).go i H ∧ ∃ Nx : Hp → Prop, (∀ H', Nx H' → ∃ m', m' < m ∧ W (i + 1) m' H') ∧ ∀ x H', (Itz K a b).yld i H x H' → g x (wipe σ vs) H' fun σ2 H2 =>
        wipe σ2 vs = wipe σ vs ∧ tt σ2 H2 fun b H3 => if b = true then te σ2 H3 fun y H4 => ∃ acc, H4 D = some (.lst acc) ∧ acc.length < sizeLine ∧ Nx (upd H4 D (.lst (acc ++ [y]))) else Nx H3)) : tLc (iZip K tr) g tt te vs σ H Q := q
/-- the body of a comprehension over zip, by a word J of the turn -/
theorem w_lcZ {bb : Addr} (J : Addr → Nat → List V → Hp → Prop) {H1 : Hp} {Dd : Addr} (h0 : J Dd 0 [] (upd H1 Dd (.lst []))) (hl : ∀ i acc H2, J Dd i acc H2 → SqL K H2 a xs ∧ SqL K H2 bb ys)
    (hs : ∀ i acc x y T H2, xs[i]? = some x → ys[i]? = some y → J Dd i acc H2 → H2 T = none → g (.ref T) (wipe σ vs) (upd H2 T (.tup [x, y])) fun σ2 H3 => wipe σ2 vs = wipe σ vs ∧ tt σ2 H3 fun b H4 => if b = true then te σ2 H4 fun z H5 => ∃ bcc, H5 Dd = some (.lst bcc) ∧ bcc.length < sizeLine ∧ ∃ ccc, J Dd (i + 1) ccc (upd H5 Dd (.lst (bcc ++ [z]))) else ∃ ccc, J Dd (i + 1) ccc H4)
    (hd : ∀ acc H2, J Dd (min xs.length ys.length) acc H2 → Q (.ref Dd) H2) :
    ∃ W : Nat → Nat → Hp → Prop, (∃ m, W 0 m (upd H1 Dd (.lst []))) ∧ ∀ i m H, W i m H →
      ((Itz K a bb).stop i H ∧ Q (.ref Dd) H) ∨ ((Itz K a bb).go i H ∧ ∃ Nx : Hp → Prop, (∀ H', Nx H' → ∃ m', m' < m ∧ W (i + 1) m' H') ∧ ∀ x H', (Itz K a bb).yld i H x H' → g x (wipe σ vs) H' fun σ2 H2 =>
        wipe σ2 vs = wipe σ vs ∧ tt σ2 H2 fun b H3 => if b = true then te σ2 H3 fun y H4 => ∃ acc, H4 Dd = some (.lst acc) ∧ acc.length < sizeLine ∧ Nx (upd H4 Dd (.lst (acc ++ [y]))) else Nx H3) := by
  refine ⟨fun i m H2 => m = min xs.length ys.length - i ∧ i ≤ min xs.length ys.length ∧ ∃ acc, J Dd i acc H2, ⟨min xs.length ys.length, by simp, Nat.zero_le _, [], h0⟩, ?_⟩
  rintro i m H2 ⟨rfl, hi, acc, q⟩
  obtain ⟨q1, q2⟩ := hl i acc H2 q
  by_cases hlt : i < min xs.length ys.length
  · have k1 : i < xs.length := by omega
    have k2 : i < ys.length := by omega
    refine .inr ⟨⟨xs, ys, xs[i], ys[i], q1, q2, List.getElem?_eq_getElem k1, List.getElem?_eq_getElem k2⟩, fun H' => ∃ ccc, J Dd (i + 1) ccc H', fun H' z => ⟨min xs.length ys.length - (i + 1), by omega, rfl, hlt, z⟩, ?_⟩
    rintro z H' ⟨T, x, y, rfl, nT, rfl, hx, hy⟩
    exact hs i acc x y T H2 (hx xs q1) (hy ys q2) q nT
  · have e : i = min xs.length ys.length := by omega
    subst e
    exact .inl ⟨⟨xs, ys, q1, q2, by omega⟩, hd acc H2 q⟩
end
end Rv
namespace Rv
open PySem PySem.Spec PyProof.Rows L2
/-! what the top leaves behind, beyond defs and methods: properties, an own ==, getters -/
def prA (K : PySem.W.Frag) (x f : Str) : Addr := He.ma K (He.ga K x) f
def gtA (K : PySem.W.Frag) (x f : Str) : Addr := match PySem.W.recIn K (prA K x f) "property" with
  | some (.ref g :: _) => g
  | _ => 0
def prB (K : PySem.W.Frag) (x f : Str) : Bool := He.eqO (PySem.W.findIn K (.ref (He.ga K x)) f) (some (some (.ref (prA K x f)))) &&
  (He.eqO (PySem.W.specialIn K (.ref (prA K x f)) "__get__") (some (some (.builtin "property.__get__"))) && (decide (PySem.W.takesIn K (.ref (prA K x f)) = some true) &&
    (match PySem.W.recIn K (prA K x f) "property" with
      | some (.ref _ :: _) => true
      | _ => false)))
theorem pr_of {K : PySem.W.Frag} {x f : Str} (h : prB K x f = true) : PropOf K (He.ga K x) f (prA K x f) (gtA K x f) := by
  obtain ⟨h1, h⟩ := He.ba h
  obtain ⟨h2, h⟩ := He.ba h
  obtain ⟨h3, h4⟩ := He.ba h
  refine ⟨He.eqO_ok h1, He.eqO_ok h2, of_decide_eq_true h3, ?_⟩
  unfold gtA
  cases q : PySem.W.recIn K (prA K x f) "property" with
  | none =>
    rw [q] at h4
    cases h4
  | some l =>
    rw [q] at h4
    match l, h4 with
    | .ref g :: r, _ => exact ⟨r, rfl⟩
/-- the class x has no __class__ of its own -/
def clB (K : PySem.W.Frag) (x : Str) : Bool := He.eqO (PySem.W.findIn K (.ref (He.ga K x)) "__class__") (some (some (.builtin "object.__class__"))) &&
  (He.eqO (PySem.W.specialIn K (.builtin "object.__class__") "__get__") (some (some (.builtin "getset_descriptor.__get__"))) && (decide (PySem.W.takesIn K (.builtin "object.__class__") = some true) && decide (PySem.W.mroIn K (He.ga K x) (.type "object") = some true)))
/-- the text of a function at an address -/
def txt (K : PySem.W.Frag) (a : Addr) : He.FnW := match K.lookup a with
  | some o => (match o.data with
    | .func z => some (z.name, z.qualname, z.params, z.body, z.scope, z.globals, z.closure, z.builtins)
    | _ => none)
  | none => none
def isNn : Value → Bool
  | .none => true
  | _ => false
def txB (K : PySem.W.Frag) (a : Addr) (q : Str) : Bool := PySem.W.keepIn K (.ref a) && (match K.lookup a with
  | some o => (match o.data with
    | .func z => PySem.W.codeIn K z.code q && isNn z.defaults
    | _ => false)
  | none => false)
/-- a getter: its class, the property's name, its function's text -/
structure Gt where
  cl : Str
  pr : Str
  qual : Str
  params : Arguments
  body : List Stmt
  scope : Scope
def Gt.val (g : Gt) : He.FnW := some (g.pr, g.qual, g.params, .stmts g.body, g.scope, mainGlobals, [], builtinsNs)
theorem gt_fun {K : PySem.W.Frag} {g : Gt} {a : Addr} (e : txt K a = g.val) (c : txB K a g.qual = true) : ∃ z, FunD K g.pr g.qual g.params g.body g.scope [] [] a z := by
  obtain ⟨kp, c⟩ := He.ba c
  unfold txt at e
  cases q : K.lookup a with
  | none =>
    rw [q] at e
    cases e
  | some o =>
    obtain ⟨o1, o2, o3, o4⟩ := o
    rw [q] at e c
    cases o3 with
    | func z =>
      obtain ⟨z1, z2, z3, z4, z5, z6, z7, z8, z9, z10, z11, z12, z13, z14, z15⟩ := z
      have e2 : (some (z1, z2, z3, z4, z5, z6, z7, z15) : He.FnW) = some (g.pr, g.qual, g.params, .stmts g.body, g.scope, mainGlobals, [], builtinsNs) := e
      simp only [Option.some.injEq, Prod.mk.injEq] at e2
      obtain ⟨r1, r2, r3, r4, r5, r6, r7, r8⟩ := e2
      subst r1 r2 r3 r4 r5 r6 r7 r8
      obtain ⟨u1, u2⟩ := He.ba (show (PySem.W.codeIn K z13 _ && isNn z8) = true from c)
      cases z8 with
      | none => exact ⟨_, ⟨o1, o2, _, z9, z10, z11, z12, z13, z14, o4, rfl, q, u1, .inl ⟨rfl, rfl⟩, .inl rfl⟩, kp⟩
      | _ => cases u2
    | _ => cases c
/-! the hook: facts, defs, getters, one more test -/
abbrev AlR : Type := He.AlD × (Bool × List He.FnW)
def obsR (fa : List He.Fa) (fn : List He.DefD) (gs : List Gt) (ex : PySem.W.Frag → Bool) (K : PySem.W.Frag) : AlR :=
  (He.obsD fa fn K, (ex K && gs.all fun g => txB K (gtA K g.cl g.pr) g.qual, gs.map fun g => txt K (gtA K g.cl g.pr)))
def valR (fn : List He.DefD) (gs : List Gt) : AlR := (He.valD fn, (true, gs.map Gt.val))
def SaysR (fa : List He.Fa) (fn : List He.DefD) (gs : List Gt) (ex : PySem.W.Frag → Bool) (K : PySem.W.Frag) : Prop := obsR fa fn gs ex K = valR fn gs
def obsRG (n : Nat) (fa : List He.Fa) (fn : List He.DefD) (gs : List Gt) (ex : PySem.W.Frag → Bool) (g : Addr → Option Obj) : AlR := obsR fa fn gs ex (He.frG g (cStatics :: He.asD g n))
def hookR (n : Nat) (fa : List He.Fa) (fn : List He.DefD) (gs : List Gt) (ex : PySem.W.Frag → Bool) : PySem.W.Hook where
  α := AlR
  obs := fun s => obsRG n fa fn gs ex s.heap.get?
  val := fun _ => valR fn gs
  says := fun _ h => ∃ K : PySem.W.Frag, K.In h ∧ SaysR fa fn gs ex K
  of := fun _ _ e => ⟨_, He.frG_in, e⟩
  keeps := fun _ _ _ ⟨K, hK, c⟩ k => ⟨K, PySem.W.Frag.In.keeps hK k, c⟩
theorem obsRG_eq {n : Nat} {fa : List He.Fa} {fn : List He.DefD} {gs : List Gt} {ex : PySem.W.Frag → Bool} {g : Addr → Option Obj} {s : Shared} (h : ∀ a, g a = s.heap.get? a) : obsRG n fa fn gs ex g = (hookR n fa fn gs ex).obs s := by
  have e : g = s.heap.get? := funext h
  rw [e] <;> rfl
section
variable {fa : List He.Fa} {fn : List He.DefD} {gs : List Gt} {ex : PySem.W.Frag → Bool} {K : PySem.W.Frag}
theorem SaysR.d (c : SaysR fa fn gs ex K) : He.SaysD fa fn K := congrArg (fun z : AlR => z.1) c
theorem SaysR.x (c : SaysR fa fn gs ex K) : ex K = true := (He.ba (show (ex K && gs.all fun g => txB K (gtA K g.cl g.pr) g.qual) = true from congrArg (fun z : AlR => z.2.1) c)).1
theorem SaysR.g (c : SaysR fa fn gs ex K) (i : Nat) {g : Gt} (h : gs[i]? = some g := by rfl) : ∃ z, FunD K g.pr g.qual g.params g.body g.scope [] [] (gtA K g.cl g.pr) z := by
  have c1 := (He.ba (show (ex K && gs.all fun g => txB K (gtA K g.cl g.pr) g.qual) = true from congrArg (fun z : AlR => z.2.1) c)).2
  have e : gs.map (fun g => txt K (gtA K g.cl g.pr)) = gs.map Gt.val := congrArg (fun z : AlR => z.2.2) c
  have e2 : (gs.map fun g => txt K (gtA K g.cl g.pr))[i]? = (gs.map Gt.val)[i]? := by rw [e]
  rw [List.getElem?_map, List.getElem?_map, h] at e2
  exact gt_fun (Option.some.inj e2) (List.all_eq_true.mp c1 g (List.mem_of_getElem? h))
end
end Rv
namespace Rv
open PySem PySem.Spec PyProof.Rows L2
/-! ### the law's draws: a list of the cells, a place, a number in use, a seed -/
def DrawsAt (H : Hp) (d c : Addr) : Prop := ∃ (ns : List Int) (pos num seed : Int), H d = some (.lst [.ref c, .int pos, .int num, .int seed]) ∧ H c = some (.lst (ns.map V.int)) ∧ c ≠ d ∧ 0 ≤ pos ∧ 0 ≤ num ∧ 0 ≤ seed ∧ seed < 2147483647
theorem DrawsAt.new {H H' : Hp} {d c : Addr} (h : DrawsAt H d c) (e : Same H H') : DrawsAt H' d c := by
  obtain ⟨ns, pos, num, seed, h1, h2, h3⟩ := h
  exact ⟨ns, pos, num, seed, e _ _ h1, e _ _ h2, h3⟩
theorem DrawsAt.wr {H : Hp} {d c a : Addr} {o : HO} (h : DrawsAt H d c) (n1 : a ≠ d) (n2 : a ≠ c) : DrawsAt (upd H a o) d c := by
  obtain ⟨ns, pos, num, seed, h1, h2, h3⟩ := h
  exact ⟨ns, pos, num, seed, by rw [upd_ne n1.symm]; exact h1, by rw [upd_ne n2.symm]; exact h2, h3⟩
theorem DrawsAt.nd {H : Hp} {d c a : Addr} (h : DrawsAt H d c) (n : H a = none) : a ≠ d := by
  obtain ⟨ns, pos, num, seed, h1, h2, h3⟩ := h
  intro e
  rw [e, h1] at n
  cases n
theorem DrawsAt.nc {H : Hp} {d c a : Addr} (h : DrawsAt H d c) (n : H a = none) : a ≠ c := by
  obtain ⟨ns, pos, num, seed, h1, h2, h3⟩ := h
  intro e
  rw [e, h2] at n
  cases n
def spDraw (K : PySem.W.Frag) : Sp := fun vs H Q _ => ∃ (d c : Addr) (many : Int), vs = [.ref d, .int many] ∧ DrawsAt H d c ∧ 0 < many ∧ many < 2 ^ 200 ∧
  ∀ r H', 0 ≤ r → r < many → But d H H' → DrawsAt H' d c → Q (.int r) H'
def spDraws (K : PySem.W.Frag) : Sp := fun vs H Q _ => ∃ (a : Addr) (ns : List Int), vs = [.ref a] ∧ SqL K H a (ns.map V.int) ∧ ∀ d c H', H d = none → H c = none → Same H H' → DrawsAt H' d c → Q (.ref d) H'
theorem map_int_at {ns : List Int} {j : Nat} (h : j < ns.length) : (ns.map V.int)[j]? = some (V.int ns[j]) := by
  rw [List.getElem?_map, List.getElem?_eq_getElem h]
  rfl
theorem cell_at {ns : List Int} {z : Int} (h0 : 0 ≤ z) (h : z < ((ns.map V.int).length : Int)) : ∃ y, atI (ns.map V.int) z = some (V.int y) := by
  rw [List.length_map] at h
  have e : z = ((z.toNat : Nat) : Int) := (Int.toNat_of_nonneg h0).symm
  have q : (ns.map V.int)[z.toNat]? = some (V.int (ns[z.toNat]'(by omega))) := map_int_at (by omega)
  exact ⟨_, at_of e q⟩
theorem divw {i j : Int} (h : 0 < j) (hb : j < 2 ^ 200) : CDivW i j := by
  refine wide_div (b := 201) h ?_ (by decide) (by decide)
  have e : (2 : Int) ^ 200 = ((2 ^ 200 : Nat) : Int) := rfl
  have e2 : (2 ^ 200 : Nat) < 2 ^ 201 := by decide
  omega
theorem cut_map (ns : List Int) (lo hi : Option Int) : ∃ ms : List Int, cutV (ns.map V.int) lo hi = ms.map V.int := by
  unfold cutV
  rw [← List.map_drop, ← List.map_take]
  exact ⟨_, rfl⟩
def t__law_draws (K : PySem.W.Frag) : TS :=
  (tRet (tLst (tCons (tSl (rSlL K) (tVar 0) tNoPart (tPart (tC (.int 63)))) (tCons (tC (.int 0)) (tCons (tC (.int 0)) (tCons (tC (.int 5)) tNil))))))
def t__law_draw (K : PySem.W.Frag) : TS :=
  (tSeq (tAsg (tOp (rIxL K) (tVar 0) (tC (.int 0))) (gName 2))
    (tSeq (tIfS (tAnd (tTest (tOp rEq (tOp (rIxL K) (tVar 0) (tC (.int 2))) (tC (.int 0)))) (tAnd (tTest (tOp oLt (tOp (rIxL K) (tVar 0) (tC (.int 1))) (tCB (cLen K) (tCons (tVar 2) tNil)))) (tTest (tOp oGe (tOp (rIxL K) (tVar 2) (tOp (rIxL K) (tVar 0) (tC (.int 1)))) (tOp oPow (tC (.int 10)) (tC (.int 18))))))) (tSeq (tAsg (tOp (rIxL K) (tVar 2) (tOp (rIxL K) (tVar 0) (tC (.int 1)))) (gSub (tVar 0) (tC (.int 2)) rSetL))
    (tAsg (tOp oAdd (tOp (rIxL K) (tVar 0) (tC (.int 1))) (tC (.int 1))) (gSub (tVar 0) (tC (.int 1)) rSetL))) tNext)
    (tSeq (tIfS (tTest (tOp oGt (tOp (rIxL K) (tVar 0) (tC (.int 2))) (tC (.int 0)))) (tSeq (tAsg (tOp oMod (tOp (rIxL K) (tVar 0) (tC (.int 2))) (tVar 1)) (gName 3))
    (tSeq (tAsg (tOp oDiv (tOp (rIxL K) (tVar 0) (tC (.int 2))) (tVar 1)) (gSub (tVar 0) (tC (.int 2)) rSetL))
    (tRet (tVar 3)))) tNext)
    (tSeq (tAsg (tC (.int 0)) (gName 4))
    (tSeq (tIfS (tTest (tOp oLt (tOp (rIxL K) (tVar 0) (tC (.int 1))) (tCB (cLen K) (tCons (tVar 2) tNil)))) (tSeq (tAsg (tOp (rIxL K) (tVar 2) (tOp (rIxL K) (tVar 0) (tC (.int 1)))) (gName 4))
    (tAsg (tOp oAdd (tOp (rIxL K) (tVar 0) (tC (.int 1))) (tC (.int 1))) (gSub (tVar 0) (tC (.int 1)) rSetL))) tNext)
    (tSeq (tAsg (tOp oMod (tOp oAdd (tOp oAdd (tOp oMul (tOp (rIxL K) (tVar 0) (tC (.int 3))) (tC (.int 48271))) (tOp oMod (tVar 4) (tC (.int 1999993)))) (tC (.int 11))) (tC (.int 2147483647))) (gSub (tVar 0) (tC (.int 3)) rSetL))
    (tSeq (tAsg (tOp oMod (tOp oPow (tOp (rIxL K) (tVar 0) (tC (.int 3))) (tC (.int 5))) (tC (.int 2147483647))) (gName 5))
    (tSeq (tIfS (tTest (tOp oGt (tVar 1) (tOp oPow (tC (.int 10)) (tC (.int 9))))) (tAsg (tOp oAdd (tOp oPow (tVar 5) (tC (.int 4))) (tVar 5)) (gName 5)) tNext)
    (tRet (tOp oMod (tVar 5) (tVar 1)))))))))))
local macro_rules | `(tactic| walk_at "rv st") => `(tactic| first
  | with_reducible refine iteT ?_ | with_reducible refine iteF ?_ | with_reducible refine w_nx ?_ | with_reducible refine w_yes ?_ | with_reducible refine w_rt ?_ | with_reducible refine iteNT ?_ | with_reducible refine iteNF ?_ | with_reducible refine iteNRf ?_ | with_reducible refine iteRf ?_ | with_reducible refine w_seqA ?_ | with_reducible refine w_seqD ?_ | with_reducible refine w_seqP ?_ | with_reducible refine w_asg ?_ | with_reducible refine w_ret ?_ | with_reducible refine w_drop ?_ | with_reducible refine w_ifs ?_ | with_reducible refine w_next ?_ | with_reducible refine w_par ?_
  | with_reducible refine w_op ?_ | with_reducible refine w_un ?_ | ((with_reducible show tVar _ _ _ _); refine' w_var ?hv ?_; (case hv => exact rfl)) | with_reducible refine w_c ?_ | with_reducible refine w_test ?_ | with_reducible refine w_tB ?_
  | with_reducible refine w_bl ?_ | with_reducible refine w_I0 ?_ | with_reducible refine w_U ?_ | with_reducible refine w_eqI ?_ | with_reducible refine w_neI ?_
  | with_reducible refine w_cons ?_ | with_reducible refine w_nil ?_ | with_reducible refine w_gn ?_ | with_reducible refine w_gsub ?_ | with_reducible refine w_and ?_ | with_reducible refine w_or ?_ | with_reducible refine w_not ?_
  | with_reducible refine w_andV ?_ | with_reducible refine w_orV ?_ | with_reducible refine w_notV ?_ | with_reducible refine w_if ?_ | with_reducible refine w_cb ?_ | with_reducible refine w_call ?_ | with_reducible refine w_lst ?_ | with_reducible refine w_tup ?_
  | with_reducible refine w_sl ?_ | with_reducible refine w_noPart ?_ | with_reducible refine w_part ?_ | with_reducible refine w_ex1 ?_ | with_reducible refine w_exb ?_ | with_reducible refine w_intB ?_ | with_reducible refine w_intI ?_ | with_reducible refine w_abs ?_)
local macro_rules | `(tactic| walk_at "rv ix") => `(tactic| ((with_reducible show rIxL _ _ _ _ _); refine' w_ixL (sq_lst ?ha) ?hb ?_; (case ha => first | exact upd_same | assumption); (case hb => first | exact rfl | assumption)))
local macro_rules | `(tactic| walk_at "rv ar") => `(tactic| first
  | (refine' w_I ?hc ?_; (case hc => first | (show (0 : Int) < _; first | assumption | decide | omega) | exact pow_c (by decide) (by decide) (by first | decide | omega) (by first | decide | omega) | exact mul_r (by first | decide | omega) (by first | decide | omega) | exact mul_l (by first | decide | omega) (by first | decide | omega) | exact divw (by first | assumption | decide | omega) (by first | assumption | decide | omega))))
local macro_rules | `(tactic| walk_at "rv go") => `(tactic| repeat first | walk_at "rv st" | walk_at "rv ix" | ((with_reducible show rI _ _ _ _ _ _); walk_at "rv ar"))
theorem p_draws {K : PySem.W.Frag} {vs : List V} {H : Hp} {Q : VK} {E : XK} (h : spDraws K vs H Q E) : t__law_draws K { nx := fun _ H' => Q .non H', rt := Q } (start ["_law_script"] vs) H := by
  obtain ⟨a, ns, rfl, hS, k⟩ := h
  unfold t__law_draws
  walk_at "rv go"
  refine w_slL hS fun p np => ?_
  walk_at "rv go"
  refine ⟨szl (by simp), fun q nq => ?_⟩
  have npq : p ≠ q := fun e => by
    rw [e, upd_same] at nq
    cases nq
  have nH : H q = none := by
    rw [upd_ne npq.symm] at nq
    exact nq
  obtain ⟨ms, em⟩ := cut_map ns none (some 63)
  refine k q p _ nH np (same_new (same_new (Same.refl H) np) nq) ⟨ms, 0, 0, 5, upd_same, ?_, npq, by decide, by decide, by decide, by decide⟩
  rw [upd_ne npq, upd_same, em]
theorem p_draw {K : PySem.W.Frag} {vs : List V} {H : Hp} {Q : VK} {E : XK} (h : spDraw K vs H Q E) : t__law_draw K { nx := fun _ H' => Q .non H', rt := Q } (start ["_law_draws_here", "_law_many", "_law_cells", "_law_value", "_law_cell", "_law_mixed"] vs) H := by
  obtain ⟨d, c, many, rfl, ⟨ns, pos, num, seed, hd, hc, ncd, hp, hn, hs, hs2⟩, hm, hm2, k⟩ := h
  have e18 : (0 : Int) < 10 ^ (18 : Int).toNat := by decide
  have sqc : ∀ {H1 : Hp}, But d H H1 → SqL K H1 c (ns.map V.int) := fun e => sq_lst (e _ _ ncd hc)
  unfold t__law_draw
  walk_at "rv go"
  -- a number is taken from the cells, or not
  refine w_cut (fun σ' H1 => ∃ pos num : Int, σ' = [some (.ref d), some (.int many), some (.ref c), none, none, none] ∧ H1 d = some (.lst [.ref c, .int pos, .int num, .int seed]) ∧ But d H H1 ∧ 0 ≤ pos ∧ 0 ≤ num) (fun N key => ?_) ?_
  · refine w_ifs ?_
    walk_at "rv go"
    refine w_both (fun h1 => ?_) (fun h1 => ?_)
    · walk_at "rv go"
      refine w_lenL (sq_lst hc) ?_
      walk_at "rv go"
      refine w_both (fun h2 => ?_) (fun h2 => ?_)
      · obtain ⟨y, hy⟩ := cell_at hp h2
        walk_at "rv go"
        refine w_both (fun h3 => ?_) (fun h3 => ?_)
        · walk_at "rv go"
          refine w_setL hd rfl ?_
          walk_at "rv go"
          refine w_setL upd_same rfl ?_
          refine key _ _ ⟨pos + 1, y, rfl, upd_same, (But.refl d H).wr.wr, by omega, by omega⟩
        · walk_at "rv go"
          exact key _ _ ⟨pos, num, rfl, hd, But.refl d H, hp, hn⟩
      · walk_at "rv go"
        exact key _ _ ⟨pos, num, rfl, hd, But.refl d H, hp, hn⟩
    · walk_at "rv go"
      exact key _ _ ⟨pos, num, rfl, hd, But.refl d H, hp, hn⟩
  · rintro σ1 H1 ⟨pos, num, rfl, hd, b1, hp, hn⟩
    refine w_seq ?_
    walk_at "rv go"
    refine w_both (fun h1 => ?_) (fun h1 => ?_)
    · -- a digit of the number
      walk_at "rv go"
      refine w_setL hd rfl ?_
      walk_at "rv go"
      refine k _ _ (Int.emod_nonneg _ (by omega)) (Int.emod_lt_of_pos _ hm) b1.wr ⟨ns, pos, num / many, seed, upd_same, b1.wr _ _ ncd hc, ncd, hp, Int.ediv_nonneg hn (by omega), hs, hs2⟩
    · -- from the seed
      walk_at "rv go"
      refine w_cut (fun σ' H2 => ∃ pos cell : Int, σ' = [some (.ref d), some (.int many), some (.ref c), none, some (.int cell), none] ∧ H2 d = some (.lst [.ref c, .int pos, .int num, .int seed]) ∧ But d H H2 ∧ 0 ≤ pos) (fun N key => ?_) ?_
      · walk_at "rv go"
        refine w_lenL (sqc b1) ?_
        walk_at "rv go"
        refine w_both (fun h2 => ?_) (fun h2 => ?_)
        · obtain ⟨y, hy⟩ := cell_at hp h2
          walk_at "rv go"
          refine w_ixL (sqc b1) hy ?_
          walk_at "rv go"
          refine w_setL hd rfl ?_
          exact key _ _ ⟨pos + 1, y, rfl, upd_same, b1.wr, by omega⟩
        · refine w_next ?_
          exact key _ _ ⟨pos, 0, rfl, hd, b1, hp⟩
      · rintro σ2 H2 ⟨pos, cell, rfl, hd, b2, hp⟩
        walk_at "rv go"
        refine w_setL hd rfl ?_
        have s1 : 0 ≤ (seed * 48271 + cell % 1999993 + 11) % 2147483647 := Int.emod_nonneg _ (by decide)
        have s2 : (seed * 48271 + cell % 1999993 + 11) % 2147483647 < 2147483647 := Int.emod_lt_of_pos _ (by decide)
        generalize (seed * 48271 + cell % 1999993 + 11) % 2147483647 = sd at s1 s2
        walk_at "rv go"
        have m1 : 0 ≤ sd ^ (5 : Int).toNat % 2147483647 := Int.emod_nonneg _ (by decide)
        have m2 : sd ^ (5 : Int).toNat % 2147483647 < 2147483647 := Int.emod_lt_of_pos _ (by decide)
        generalize sd ^ (5 : Int).toNat % 2147483647 = mx at m1 m2
        have fin : ∀ z : Int, Q (.int (z % many)) (upd H2 d (.lst [.ref c, .int pos, .int num, .int sd])) := fun z =>
          k _ _ (Int.emod_nonneg _ (by omega)) (Int.emod_lt_of_pos _ hm) b2.wr ⟨ns, pos, num, sd, upd_same, b2.wr _ _ ncd hc, ncd, hp, hn, s1, s2⟩
        refine w_seq ?_
        refine w_ifs ?_
        walk_at "rv go"
        refine w_both (fun h2 => ?_) (fun h2 => ?_)
        · walk_at "rv go"
          exact fin _
        · walk_at "rv go"
          exact fin _
end Rv
/-! enumerate of a tuple, and of a list or a tuple. -/
namespace PySem
open Sem (wp)
open AutoSeq1 (wpAny_loadPart')
theorem rv_enum_newT (l : Addr) (items : Array Value) (n : Nat) (dct : Option Addr) (sl : Array (Option Value)) :
    Meets (Builtin.«enumerate.__new__» ⟨[.type "enumerate", .ref l], []⟩) (fun _ R s => s.heap.get? l = some { cls := .type "tuple", dict := dct, data := .seq items n, slots := sl } ∧
      R (.ok (.ret (.ref (s.heap.push { cls := .type "tuple_iterator", data := .fields #[.ref l, .int 0 0] }).objs.size)))
        { s with heap := (s.heap.push { cls := .type "tuple_iterator", data := .fields #[.ref l, .int 0 0] }).push { cls := .type "enumerate", data := .fields #[.none, .bool false, .ref s.heap.objs.size, rawInt 0, .none, .none] } }) :=
  .of_wp fun prog w A R s h => by
    obtain ⟨hp, g, d, tk, os⟩ := s
    obtain ⟨hl, h⟩ := h
    have hsub := sub_enumerate
    have hL : Heap.IsTuple (Shared.heap ⟨hp, g, d, tk, os⟩) l items := ⟨_, hl, rfl, n, rfl⟩
    wp_walk using wpAny_loadPart' hl
    refine wpAny_stack_any fun st => wpAny_pure ?_
    split
    · rename_i c _ _ _ _ _
      cases (c == Value.type "enumerate")
      · wp_walk using wpAny_loadPart' hl, wpAny_pyIter_tuple hL
        exact ⟨_, rfl, h⟩
      · wp_walk using wpAny_loadPart' hl, wpAny_pyIter_tuple hL
        exact ⟨_, rfl, h⟩
    · wp_walk using wpAny_loadPart' hl, wpAny_pyIter_tuple hL
      exact ⟨_, rfl, h⟩
section
variable {prog : Program} {w : World} {A : Around} {E : Value → Shared → Prop} {s : Shared}
theorem rv_call_enumT {l : Addr} {items : Array Value} {Q : Value → Shared → Prop} (hL : s.heap.IsTuple l items)
    (h : ∀ h', IsEnum h' (s.heap.objs.size + 1) s.heap.objs.size 0 .none → h'.IsTupleIter s.heap.objs.size l 0 → h'.objs.size = s.heap.objs.size + 2 →
      (∀ b o, s.heap.get? b = some o → h'.get? b = some o) → Q (.ref (s.heap.objs.size + 1)) { s with heap := h' }) :
    wpAny (model prog w) A (call (.type "enumerate") [.ref l]) Q E s := by
  obtain ⟨⟨c, dct, dt, sl⟩, hl, hc, n, hd⟩ := hL
  replace hc : c = .type "tuple" := hc
  replace hd : dt = .seq items n := hd
  subst hc hd
  refine callType_new F.called_enumerate (by decide) (F.typeCall_enumerate_1 _) (F.newCall_enumerate_1 _) (fun obj => F.args_object_init_2 obj _) F.entry_enumerate_new
    (rv_enum_newT l items n dct sl) ⟨hl, ?_⟩
  have hz : (s.heap.push { cls := .type "tuple_iterator", data := .fields #[.ref l, .int 0 0] }).objs.size = s.heap.objs.size + 1 := Heap.size_push ..
  show _ ∧ _
  rw [hz]
  have he : IsEnum ((s.heap.push { cls := .type "tuple_iterator", data := .fields #[.ref l, .int 0 0] }).push
      { cls := .type "enumerate", data := .fields #[.none, .bool false, .ref s.heap.objs.size, rawInt 0, .none, .none] }) (s.heap.objs.size + 1) s.heap.objs.size 0 .none := by
    have := Heap.get?_push_size (s.heap.push { cls := .type "tuple_iterator", data := .fields #[.ref l, .int 0 0] })
      (o := { cls := .type "enumerate", data := .fields #[.none, .bool false, .ref s.heap.objs.size, rawInt 0, .none, .none] }) rfl
    rw [hz] at this
    exact this
  refine ⟨⟨_, he, rfl⟩, h _ he ⟨_, Heap.get?_push_of_some _ (Heap.get?_push_size _ rfl), rfl, rfl⟩ (by rw [Heap.size_push, hz]) fun b o x => Heap.get?_push_of_some _ (Heap.get?_push_of_some _ x)⟩
theorem rv_enum_endT {e it l : Addr} {i : Nat} {items : Array Value} {old : Value} {Q : Option Value → Shared → Prop} (hh : A.handled = none)
    (he : IsEnum s.heap e it i old) (hit : s.heap.IsTupleIter it l i) (hl : s.heap.IsTuple l items) (hx : items[i]? = none)
    (hQ : ∀ h', Heap.ExtBut it s.heap h' → Q none { s with heap := h' }) : wpAny (model prog w) A (pyNext (.ref e)) Q E s := by
  have hT : s.TypeIs (.ref e) "enumerate" := ⟨_, he, rfl⟩
  unfold pyNext
  refine wpAny_bind (wpAny_attempt (wpAny_callSpecial?_slot (name := Str.ofString "__next__") hT F.slot_enumerate_next
    (wpAny_call_entry F.slot_enumerate_next hT F.entry_enumerate_next ?_ (F.args_enumerate_next_1 _))))
  show wpAny _ _ (field (.ref e) 2 >>= _) _ _ _
  refine wpAny_bind (wpAny_field he rfl (x := .ref it) rfl ?_)
  refine wpAny_bind (wpAny_nextOf_tuple_end hh hit hl hx fun h' x he' hx' => ?_)
  obtain ⟨o, ho, hc⟩ := hx'
  refine wpAny_bind (wpAny_isInstance (T := "StopIteration") (b := true) ⟨o, ho, hc⟩ isSubtype_stop ?_)
  exact wpAny_pure (hQ _ he')
end
end PySem
namespace Rv
open PySem PySem.Spec PyProof.Rows L2
/-- the tuple at a, each item in a new pair -/
def IteT (K : PySem.W.Frag) (a : Addr) : It :=
  ⟨fun i H => ∃ (xs : List V) (x : V), SqT K H a xs ∧ xs[i]? = some x, fun i H v H' => ∃ T x, v = .ref T ∧ H T = none ∧ H' = upd H T (.tup [.int (i : Nat), x]) ∧ ∀ xs, SqT K H a xs → xs[i]? = some x, fun i H => ∃ xs : List V, SqT K H a xs ∧ xs.length ≤ i⟩
theorem turn_enumT {P : Program} {w : World} {K : PySem.W.Frag} {elts : List Expr} {kk : Nat} {tpos : Pos} (a e it : Addr) :
    Turn P w K (.Tuple elts kk tpos) (IteT K a) [e, it] e (fun i h => (∃ old, IsEnum h e it ((i : Nat) : Int) old) ∧ h.IsTupleIter it a i ∧ e ≠ it ∧ a ≠ it ∧ e ≠ a) where
  mem := by simp
  obj := fun i h st b hb => by
    obtain ⟨⟨old, he⟩, ⟨o, ho, hc, hd⟩, _⟩ := st
    have e' : b = e ∨ b = it := by simpa using hb
    rcases e' with z | z
    · rw [z]
      exact ⟨_, he, fun v q => nomatch q⟩
    · rw [z]
      exact ⟨o, ho, fun v q => by rw [hd] at q; cases q⟩
  keep := fun i h h' st k => let ⟨⟨old, he⟩, hi, hne⟩ := st; ⟨⟨old, k e (by simp) _ he⟩, hi.at fun o q => k it (by simp) o q, hne⟩
  item := by
    intro X hP hw hK hc i pins s σ H E I hf st hg
    subst hP hw hK
    obtain ⟨⟨old, he⟩, hit, hne, hai, hea⟩ := st
    obtain ⟨xs, x, hq, hx⟩ := hg
    obtain ⟨its, rv, p, hz⟩ := I.tuple hq
    obtain ⟨u, hu, ru⟩ := rv.get hx
    have hel : e < s.heap.objs.size := Heap.lt_size he
    have hil : it < s.heap.objs.size := by obtain ⟨_, q, _⟩ := hit; exact Heap.lt_size q
    have hil2 : i < its.toArray.size := by
      rw [List.size_toArray]
      exact (List.getElem?_eq_some_iff.mp hu).1
    refine wpAny_pyNext_enum_itemD (Draws.tuple (A := X.A.in1) (I.ok.hd hc) it a hai its.toArray) he ⟨hit, p⟩ hil2 hne (by simp [hne, hea]) fun u' h' tk hu' ho hst' hT hsz hk => ?_
    obtain ⟨hit', _⟩ := hst'
    have eu : u' = u := by
      have h1 : its[i]? = some u' := by simpa using hu'
      rw [hu] at h1
      exact (Option.some.inj h1).symm
    subst eu
    refine ⟨_, rfl, wpAny_letOwnedTupleGo_enum (s := { s with heap := h', toks := tk + 1 }) ho fun h'' he' sb => ?_⟩
    have hT2 : h''.get? s.heap.objs.size = some { cls := .type "tuple", data := .seq #[.int i tk, u'] } := (sb.2 _ (Nat.ne_of_gt hel)).trans hT
    have new : ObjOk X.prog X.w (upd H s.heap.objs.size (.tup [.int (i : Nat), x])) h'' s.heap.objs.size (.tup [.int (i : Nat), x]) :=
      ⟨by show 2 ≤ sizeLine; decide, [.int i tk, u'], .cons ⟨_, rfl⟩ (.cons ru .nil), ⟨_, hT2, rfl, _, rfl⟩⟩
    have I1 : Inv X pins σ (upd H s.heap.objs.size (.tup [.int (i : Nat), x])) { s with heap := h'', toks := tk + 1 } :=
      I.turnedNew (t' := tk + 1) (ch := [e, it]) (fun b ob hb q => (sb.2 b (fun z => hb (by simp [z]))).trans (hk b ob (fun z => hb (by simp [z])) (fun z => hb (by simp [z])) q)) hf (Nat.le_refl _) new
    refine ⟨.ref s.heap.objs.size, _, I1, rfl, ⟨_, x, rfl, I.hok.fresh (Nat.le_refl _), rfl, fun ys hy => by rw [I.tuple_inj hy hq]; exact hx⟩, ⟨⟨u', ?_⟩, hit'.at fun o q => (sb.2 it (Ne.symm hne)).trans q, hne, hai, hea⟩, fun b hb => ?_⟩
    · have e1 : ((i + 1 : Nat) : Int) = (i : Int) + 1 := by omega
      rw [e1]
      exact he'
    · have hb' : b < s.heap.objs.size := by
        have e' : b = e ∨ b = it := by simpa using hb
        rcases e' with z | z
        · rw [z]; exact hel
        · rw [z]; exact hil
      rw [upd_ne (Nat.ne_of_lt hb')]
      exact (hf b hb).1
  done := by
    intro X hP hw hK hc i pins s σ H E I hf st hg
    subst hP hw hK
    obtain ⟨⟨old, he⟩, hit, hne, hai, hea⟩ := st
    obtain ⟨xs, hq, hx⟩ := hg
    obtain ⟨its, rv, p, hz⟩ := I.tuple hq
    obtain ⟨f0, f1, f2, f3, f4, f5⟩ := hf it (by simp)
    have hl := rv.length
    exact rv_enum_endT (I.ok.hd hc) he hit (show s.heap.IsTuple a its.toArray from p) (by simp; omega) fun h' eb => ⟨rfl, I.turned (t' := s.toks) (fun b o hb q => eb b o hb q) f0 f1 f3 f4 f5⟩
  self := fun A i s Q E st h => let ⟨⟨_, he⟩, _⟩ := st; wpAny_pyIter_enum he h
/-- enumerate of a list or a tuple -/
def iEnumA (K : PySem.W.Frag) (ta : TA) : TI := fun σ H R => ta σ H fun vs H1 => ∃ a xs, vs = [.ref a] ∧ ((SqL K H1 a xs ∧ R (Ite K a) H1) ∨ (SqT K H1 a xs ∧ R (IteT K a) H1))
theorem pi_enumA {X : Cx} {e : Expr} {ta : TA} {p pos tpos : Pos} {elts : List Expr} {kk : Nat} (hg : Gl X "enumerate") (hm : X.mg "enumerate" = none) (ha : PA X [e] ta) (hs : starEach [e] X.env = [(false, eval e X.env)] := by rfl) :
    PI X (.Tuple elts kk tpos) (.Call (.Name "enumerate" p) [e] [] pos) (iEnumA X.K ta) := by
  refine ⟨fun pins s σ H R I h => ?_⟩
  refine Call_ (ld_blt I hg hm boot_enumerate (PyProof.Rows.callWith_type1 (thn (ha.run pos pins s σ H _ I h) fun us s1 ⟨vs, H1, I1, r1, q1⟩ => ?_) hs rfl))
  obtain ⟨a, xs, ex, hq⟩ := q1
  subst ex
  cases r1 with
  | cons r rr =>
    cases rr
    cases r
    rcases hq with ⟨hq, q⟩ | ⟨hq, q⟩
    · obtain ⟨its, rv, p', hz⟩ := I1.list hq
      refine call_enumerate_list p'.isList fun h' he hit hsz hk => wpAny_pyIter_enum he ?_
      have I2 : Inv X pins σ H1 { s1 with heap := h' } := I1.kept (t' := s1.toks) hk
      refine ⟨s1.heap.objs.size + 1, [s1.heap.objs.size + 1, s1.heap.objs.size], _, _, H1, rfl, I2, turn_enum a (s1.heap.objs.size + 1) s1.heap.objs.size, ⟨⟨.none, he⟩, hit, Nat.succ_ne_self _⟩, fun b hb => ?_, q⟩
      have e' : b = s1.heap.objs.size + 1 ∨ b = s1.heap.objs.size := by simpa using hb
      have hle : s1.heap.objs.size ≤ b := by
        rcases e' with z | z
        · rw [z]; exact Nat.le_add_right _ _
        · rw [z]; exact Nat.le_refl _
      exact I1.fpOk hle (I1.hok.fresh hle)
    · obtain ⟨its, rv, p', hz⟩ := I1.tuple hq
      have al : a < s1.heap.objs.size := by
        obtain ⟨_, q1, _⟩ := p'
        exact Heap.lt_size q1
      refine rv_call_enumT (show s1.heap.IsTuple a its.toArray from p') fun h' he hit hsz hk => wpAny_pyIter_enum he ?_
      have I2 : Inv X pins σ H1 { s1 with heap := h' } := I1.kept (t' := s1.toks) hk
      refine ⟨s1.heap.objs.size + 1, [s1.heap.objs.size + 1, s1.heap.objs.size], _, _, H1, rfl, I2, turn_enumT a (s1.heap.objs.size + 1) s1.heap.objs.size, ⟨⟨.none, he⟩, hit, Nat.succ_ne_self _, Nat.ne_of_lt al, Nat.ne_of_gt (Nat.lt_succ_of_lt al)⟩, fun b hb => ?_, q⟩
      have e' : b = s1.heap.objs.size + 1 ∨ b = s1.heap.objs.size := by simpa using hb
      have hle : s1.heap.objs.size ≤ b := by
        rcases e' with z | z
        · rw [z]; exact Nat.le_add_right _ _
        · rw [z]; exact Nat.le_refl _
      exact I1.fpOk hle (I1.hok.fresh hle)
section
variable {K : PySem.W.Frag} {σ : L2.St} {H : Hp} {Q : VK} {D : Ends} {tr : TA} {g : TG} {s1 : TS} {a : Addr} {xs : List V}
/-- for i, x in enumerate(a list or a tuple): each turn has a new pair -/
theorem w_forEA (ha : ∀ AQ : List V → Hp → Prop, AQ [.ref a] H → tr σ H AQ) (hx : SqL K H a xs ∨ SqT K H a xs) (Pv : Nat → L2.St → Hp → Prop) (h0 : Pv 0 σ H) (hl : ∀ i σ' H', Pv i σ' H' → (SqL K H a xs → SqL K H' a xs) ∧ (SqT K H a xs → SqT K H' a xs))
    (hs : ∀ i x T σ' H', xs[i]? = some x → Pv i σ' H' → H' T = none → g (.ref T) σ' (upd H' T (.tup [.int (i : Int), x])) fun σ2 H2 => s1 { D with nx := Pv (i + 1), ct := Pv (i + 1), bk := D.nx } σ2 H2)
    (hd : ∀ σ' H', Pv xs.length σ' H' → D.nx σ' H') : tFor (iEnumA K tr) g s1 D σ H := by
  rcases hx with hx | hx
  · refine ha _ ⟨a, xs, rfl, .inl ⟨hx, fun i m σ' H' => m = xs.length - i ∧ i ≤ xs.length ∧ Pv i σ' H', ⟨xs.length, by simp, Nat.zero_le _, h0⟩, ?_⟩⟩
    rintro i m σ' H' ⟨rfl, hi, q⟩
    have hq := (hl i σ' H' q).1 hx
    by_cases hlt : i < xs.length
    · refine .inr ⟨⟨xs, xs[i], hq, List.getElem?_eq_getElem hlt⟩, fun σ2 H2 => Pv (i + 1) σ2 H2, fun σ2 H2 q2 => ⟨xs.length - (i + 1), by omega, rfl, hlt, q2⟩, ?_⟩
      rintro x H2 ⟨T, z, rfl, nT, rfl, hz⟩
      exact hs i z T σ' H' (hz xs hq) q nT
    · have e : i = xs.length := by omega
      subst e
      exact .inl ⟨⟨xs, hq, Nat.le_refl _⟩, hd σ' H' q⟩
  · refine ha _ ⟨a, xs, rfl, .inr ⟨hx, fun i m σ' H' => m = xs.length - i ∧ i ≤ xs.length ∧ Pv i σ' H', ⟨xs.length, by simp, Nat.zero_le _, h0⟩, ?_⟩⟩
    rintro i m σ' H' ⟨rfl, hi, q⟩
    have hq := (hl i σ' H' q).2 hx
    by_cases hlt : i < xs.length
    · refine .inr ⟨⟨xs, xs[i], hq, List.getElem?_eq_getElem hlt⟩, fun σ2 H2 => Pv (i + 1) σ2 H2, fun σ2 H2 q2 => ⟨xs.length - (i + 1), by omega, rfl, hlt, q2⟩, ?_⟩
      rintro x H2 ⟨T, z, rfl, nT, rfl, hz⟩
      exact hs i z T σ' H' (hz xs hq) q nT
    · have e : i = xs.length := by omega
      subst e
      exact .inl ⟨⟨xs, hq, Nat.le_refl _⟩, hd σ' H' q⟩
end
end Rv
namespace Rv
open PySem PySem.Spec PyProof.Rows L2
theorem draw_call {K : PySem.W.Frag} {H : Hp} {Q : VK} {E : XK} {d c : Addr} {many : Int} (h : DrawsAt H d c) (h1 : 0 < many) (h2 : many < 2 ^ 200) (k : ∀ r H', 0 ≤ r → r < many → But d H H' → DrawsAt H' d c → Q (.int r) H') :
    spDraw K ([.ref d, .int many] ++ []) H Q E := ⟨d, c, many, rfl, h, h1, h2, k⟩
/-- a height, a width of the law -/
def HOk1 (z : Int) : Prop := -1000000000000000000000000000000 ≤ z ∧ z ≤ 1000000000000000000000000000000
def WOk1 (z : Int) : Prop := 1 ≤ z ∧ z ≤ 1000000000000000000000000000000
def spHeights (K : PySem.W.Frag) : Sp := fun vs H Q _ => ∃ d c, vs = [.ref d] ∧ DrawsAt H d c ∧
  ∀ p H' (hs : List Int), 1 ≤ hs.length → hs.length ≤ 60 → (∀ z ∈ hs, HOk1 z) → But d H H' → DrawsAt H' d c → H p = none → H' p = some (.lst (hs.map V.int)) → Q (.ref p) H'
def spWidths (K : PySem.W.Frag) : Sp := fun vs H Q _ => ∃ d c, ∃ n : Nat, vs = [.ref d, .int (n : Int)] ∧ n ≤ 60 ∧ DrawsAt H d c ∧
  ∀ p H' (ws : List Int), ws.length = n → (∀ z ∈ ws, WOk1 z) → But d H H' → DrawsAt H' d c → H p = none → H' p = some (.lst (ws.map V.int)) → Q (.ref p) H'
theorem map_app (l : List Int) (z : Int) : l.map V.int ++ [V.int z] = (l ++ [z]).map V.int := by rw [List.map_append]; rfl
/-! values: is it an integer -/
inductive Whole (K : PySem.W.Frag) (H : Hp) : V → Prop where
  | int (i : Int) : Whole K H (.int i)
  | bl (b : Bool) : Whole K H (.bl b)
  | other {v : V} {t : Value} (h : TyX K H v t) (k : PySem.W.kitOne K t (.type "int") = some false) (n1 : ∀ i, v ≠ .int i) : Whole K H v
def isI : V → Bool
  | .int _ => true
  | _ => false
def inI (lo hi : Int) : V → Bool
  | .int i => decide (lo ≤ i) && decide (i ≤ hi)
  | _ => false
def spWhole (K : PySem.W.Frag) : Sp := fun vs H Q _ => ∃ v, vs = [v] ∧ Whole K H v ∧ Q (.bl (isI v)) H
def spWithin (K : PySem.W.Frag) : Sp := fun vs H Q _ => ∃ v lo hi, vs = [v, .int lo, .int hi] ∧ Whole K H v ∧ Q (.bl (inI lo hi v)) H
/-- the first place whose value is not within, if any, from place n on -/
def outs (lo hi : Int) : List V → Nat → V
  | [], _ => .non
  | v :: r, n => if inI lo hi v = true then outs lo hi r (n + 1) else .int (n : Int)
def spOutside (K : PySem.W.Frag) : Sp := fun vs H Q _ => ∃ a lo hi xs, vs = [.ref a, .int lo, .int hi] ∧ (SqL K H a xs ∨ SqT K H a xs) ∧ (∀ x ∈ xs, Whole K H x) ∧ ∀ H', Same H H' → Q (outs lo hi xs 0) H'
theorem outs_none {lo hi : Int} : ∀ {xs : List V} {n : Nat}, (∀ x ∈ xs, inI lo hi x = true) → outs lo hi xs n = .non
  | [], _, _ => rfl
  | x :: r, n, h => by
    unfold outs
    rw [if_pos (h x List.mem_cons_self)]
    exact outs_none fun y hy => h y (List.mem_cons_of_mem _ hy)
theorem isi_of {K : PySem.W.Frag} {H : Hp} {Q : VK} {x c : V} {t u : Value} {b : Bool} (h1 : ClsV c u) (h2 : TyX K H x t) (h3 : PySem.W.kitOne K t u = some b) (q : Q (.bl b) H) : rIsi K [x, c] H Q := ⟨x, c, t, u, b, rfl, h1, h2, h3, q⟩
theorem kit_ii {K : PySem.W.Frag} : PySem.W.kitOne K (.type "int") (.type "int") = some true := kit_ty (by decide +kernel)
theorem kit_ib {K : PySem.W.Frag} : PySem.W.kitOne K (.type "int") (.type "bool") = some false := kit_ty (by decide +kernel)
theorem kit_bi {K : PySem.W.Frag} : PySem.W.kitOne K (.type "bool") (.type "int") = some true := kit_ty (by decide +kernel)
theorem kit_bb {K : PySem.W.Frag} : PySem.W.kitOne K (.type "bool") (.type "bool") = some true := kit_ty (by decide +kernel)
theorem kit_ll {K : PySem.W.Frag} : PySem.W.kitOne K (.type "list") (.type "list") = some true := kit_ty (by decide +kernel)
theorem kit_tl {K : PySem.W.Frag} : PySem.W.kitOne K (.type "tuple") (.type "list") = some false := kit_ty (by decide +kernel)
theorem kit_tt {K : PySem.W.Frag} : PySem.W.kitOne K (.type "tuple") (.type "tuple") = some true := kit_ty (by decide +kernel)
/-- a row that is a list or a tuple -/
def RowAt (K : PySem.W.Frag) (H : Hp) (a : Addr) (xs : List V) : Prop := H a = some (.lst xs) ∨ H a = some (.tup xs)
theorem RowAt.same {K : PySem.W.Frag} {H H' : Hp} {a : Addr} {xs : List V} (h : RowAt K H a xs) (e : Same H H') : RowAt K H' a xs := h.elim (fun h => .inl (e _ _ h)) fun h => .inr (e _ _ h)
def spRow (K : PySem.W.Frag) : Sp := fun vs H Q _ => ∃ a lo hi xs, vs = [.ref a, .int lo, .int hi] ∧ RowAt K H a xs ∧ ∀ H', Same H H' → Q (.bl (decide (lo ≤ (xs.length : Int)) && decide ((xs.length : Int) ≤ hi))) H'
/-- heights, widths that are valid -/
def spCheckH (K : PySem.W.Frag) : Sp := fun vs H Q _ => ∃ a, ∃ hs : List Int, vs = [.ref a] ∧ RowAt K H a (hs.map V.int) ∧ 1 ≤ hs.length ∧ hs.length ≤ 60 ∧ (∀ z ∈ hs, HOk1 z) ∧ ∀ H', Same H H' → Q .non H'
def spCheckW (K : PySem.W.Frag) : Sp := fun vs H Q _ => ∃ a, ∃ ws : List Int, vs = [.ref a, .int (ws.length : Int)] ∧ RowAt K H a (ws.map V.int) ∧ (∀ z ∈ ws, WOk1 z) ∧ ∀ H', Same H H' → Q .non H'
def pfl (t1 t2 : Addr) : List (Str × V) := putF "column_widths" (.ref t2) (putF "column_heights" (.ref t1) [])
theorem n_hw : ¬ (("column_heights" : Str) = "column_widths") := by decide +kernel
theorem pfl_h (t1 t2 : Addr) : (pfl t1 t2).lookup ("column_heights" : Str) = some (.ref t1) := by
  unfold pfl
  rw [lookup_putF, if_neg n_hw, lookup_putF, if_pos rfl]
theorem pfl_w (t1 t2 : Addr) : (pfl t1 t2).lookup ("column_widths" : Str) = some (.ref t2) := by
  unfold pfl
  rw [lookup_putF, if_pos rfl]
/-- a Profile stands at p -/
def ProfAt (K : PySem.W.Frag) (C : Addr) (H : Hp) (p : Addr) (hs ws : List Int) : Prop := ∃ dx t1 t2, H p = some (.ins C dx (pfl t1 t2)) ∧ H t1 = some (.tup (hs.map V.int)) ∧ H t2 = some (.tup (ws.map V.int))
theorem ProfAt.same {K : PySem.W.Frag} {C : Addr} {H H' : Hp} {p : Addr} {hs ws : List Int} (h : ProfAt K C H p hs ws) (e : Same H H') : ProfAt K C H' p hs ws := by
  obtain ⟨dx, t1, t2, h1, h2, h3⟩ := h
  exact ⟨dx, t1, t2, e _ _ h1, e _ _ h2, e _ _ h3⟩
/-- what is told of the class as the top has made it -/
structure PCls (K : PySem.W.Frag) (C : Addr) : Prop where
  cl : Cls K C
  nH : NoAttr K C "column_heights"
  nW : NoAttr K C "column_widths"
  cA : PySem.W.findIn K (.ref C) "__class__" = some (some (.builtin "object.__class__"))
  cG : PySem.W.specialIn K (.builtin "object.__class__") "__get__" = some (some (.builtin "getset_descriptor.__get__"))
  cT : PySem.W.takesIn K (.builtin "object.__class__") = some true
  cM : PySem.W.mroIn K C (.type "object") = some true
def spInit (K : PySem.W.Frag) (C : Addr) : Sp := fun vs H Q _ => ∃ p dx a, ∃ wv : V, ∃ hs ws : List Int, vs = [.ref p, .ref a, wv] ∧ PCls K C ∧ H p = some (.ins C dx []) ∧ RowAt K H a (hs.map V.int) ∧ 1 ≤ hs.length ∧ hs.length ≤ 60 ∧ (∀ z ∈ hs, HOk1 z) ∧
  ((wv = .non ∧ ws = List.replicate hs.length 1) ∨ ∃ b, wv = .ref b ∧ RowAt K H b (ws.map V.int) ∧ ws.length = hs.length ∧ ∀ z ∈ ws, WOk1 z) ∧ ∀ H', ProfAt K C H' p hs ws → (∀ b o, b ≠ p → H b = some o → H' b = some o) → Q .non H'
/-- two profiles that are equal, of the class at C -/
def PEq (K : PySem.W.Frag) (C : Addr) : Addr → Addr → Hp → Prop := fun a b H => PCls K C ∧ ∃ hs ws, ProfAt K C H a hs ws ∧ ProfAt K C H b hs ws
def t__law_heights (K : PySem.W.Frag) : TS :=
  (tSeq (tAsg (tOp oAdd (tC (.int 1)) (tCall (spDraw K) [] E0 (tCons (tVar 0) (tCons (tOp (rIxL K) (tLst (tCons (tC (.int 9)) (tCons (tC (.int 60)) tNil))) (tCB cInt (tCons (tOp rEq (tCall (spDraw K) [] E0 (tCons (tVar 0) (tCons (tC (.int 4)) tNil))) (tC (.int 3))) tNil))) tNil)))) (gName 1))
    (tSeq (tAsg (tOp (rIxL K) (tLst (tCons (tC (.int 2)) (tCons (tC (.int 7)) (tCons (tOp oPow (tC (.int 10)) (tC (.int 6))) (tCons (tOp oPow (tC (.int 10)) (tC (.int 30))) tNil))))) (tCall (spDraw K) [] E0 (tCons (tVar 0) (tCons (tC (.int 4)) tNil)))) (gName 2))
    (tRet (tLc (iRng1 (tCons (tVar 1) tNil)) (gName 3) tYes (tOp oSub (tCall (spDraw K) [] E0 (tCons (tVar 0) (tCons (tOp oAdd (tOp oMul (tC (.int 2)) (tVar 2)) (tC (.int 1))) tNil))) (tVar 2)) [3]))))
def t__law_widths (K : PySem.W.Frag) : TS :=
  (tSeq (tAsg (tOp (rIxL K) (tLst (tCons (tC (.int 1)) (tCons (tC (.int 3)) (tCons (tOp oPow (tC (.int 10)) (tC (.int 30))) tNil)))) (tCall (spDraw K) [] E0 (tCons (tVar 0) (tCons (tC (.int 3)) tNil)))) (gName 2))
    (tRet (tLc (iRng1 (tCons (tVar 1) tNil)) (gName 3) tYes (tOp oAdd (tC (.int 1)) (tCall (spDraw K) [] E0 (tCons (tVar 0) (tCons (tVar 2) tNil)))) [3])))
def t_is_whole (K : PySem.W.Frag) : TS :=
  (tRet (tAndV (tCB (rIsi K) (tCons (tVar 0) (tCons (tC (.ty "int")) tNil))) (tNotV (tCB (rIsi K) (tCons (tVar 0) (tCons (tC (.ty "bool")) tNil))))))
def t_is_whole_within (K : PySem.W.Frag) : TS :=
  (tRet (tAndV (tCall (spWhole K) [] E0 (tCons (tVar 0) tNil)) (tChain oLe oLe (tVar 1) (tVar 0) (tVar 2))))
def t_first_outside (K : PySem.W.Frag) : TS :=
  (tSeq (tFor (iEnumA K (tCons (tVar 0) tNil)) (gTup K 2 (gCons (gName 3) (gCons (gName 4) gNil))) (tIfS (tNot (tB (tCall (spWithin K) [] E0 (tCons (tVar 4) (tCons (tVar 1) (tCons (tVar 2) tNil)))))) (tRet (tVar 3)) tNext))
    (tRet (tC .non)))
def t_is_row (K : PySem.W.Frag) : TS :=
  (tRet (tAndV (tCB (rIsiT K) (tCons (tVar 0) (tCons (tTup (tCons (tC (.ty "list")) (tCons (tC (.ty "tuple")) tNil))) tNil))) (tChain oLe oLe (tVar 1) (tCB (cLen K) (tCons (tVar 0) tNil)) (tVar 2))))
def t_check_heights (K : PySem.W.Frag) : TS :=
  (tSeq (tIfS (tNot (tB (tCall (spRow K) [] E0 (tCons (tVar 0) (tCons (tC (.int 1)) (tCons (tC (.int 60)) tNil)))))) tNever tNext)
    (tSeq (tAsg (tCall (spOutside K) [] E0 (tCons (tVar 0) (tCons (tUn (rU fun i => .int (-i)) (tC (.int 1000000000000000000000000000000))) (tCons (tC (.int 1000000000000000000000000000000)) tNil)))) (gName 1))
    (tIfS (tTest (tOp oNotN (tVar 1) (tC .non))) tNever tNext)))
def t_check_widths (K : PySem.W.Frag) : TS :=
  (tSeq (tIfS (tNot (tB (tCall (spRow K) [] E0 (tCons (tVar 0) (tCons (tVar 1) (tCons (tVar 1) tNil)))))) tNever tNext)
    (tSeq (tAsg (tCall (spOutside K) [] E0 (tCons (tVar 0) (tCons (tC (.int 1)) (tCons (tC (.int 1000000000000000000000000000000)) tNil)))) (gName 2))
    (tIfS (tTest (tOp oNotN (tVar 2) (tC .non))) tNever tNext)))
def t_Profile___init__ (K : PySem.W.Frag) (C_Profile : Addr) : TS :=
  (tSeq (tDrop (tCall (spCheckH K) [] E0 (tCons (tVar 1) tNil)))
    (tSeq (tIfS (tTest (tOp oIsN (tVar 2) (tC .non))) (tAsg (tOp rRep (tLst (tCons (tC (.int 1)) tNil)) (tCB (cLen K) (tCons (tVar 1) tNil))) (gName 2)) tNext)
    (tSeq (tDrop (tCall (spCheckW K) [] E0 (tCons (tVar 2) (tCons (tCB (cLen K) (tCons (tVar 1) tNil)) tNil))))
    (tSeq (sFld K (tVar 0) (tCB (cTuple K) (tCons (tVar 1) tNil)) "column_heights")
    (sFld K (tVar 0) (tCB (cTuple K) (tCons (tVar 2) tNil)) "column_widths")))))
def t_Profile___eq__ (K : PySem.W.Frag) (C_Profile : Addr) : TS :=
  (tRet (tAndV (tCB (rIsi K) (tCons (tVar 1) (tCons (tC (.ref C_Profile)) tNil))) (tAndV (tOp (rEqD K) (tFld K (tVar 0) "column_heights") (tFld K (tVar 1) "column_heights")) (tOp (rEqD K) (tFld K (tVar 0) "column_widths") (tFld K (tVar 1) "column_widths")))))
local macro_rules | `(tactic| walk_at "rv st") => `(tactic| first
  | with_reducible refine iteT ?_ | with_reducible refine iteF ?_ | with_reducible refine w_nx ?_ | with_reducible refine w_yes ?_ | with_reducible refine w_rt ?_ | with_reducible refine iteNT ?_ | with_reducible refine iteNF ?_ | with_reducible refine iteNRf ?_ | with_reducible refine iteRf ?_ | with_reducible refine w_seqA ?_ | with_reducible refine w_seqD ?_ | with_reducible refine w_seqP ?_ | with_reducible refine w_asg ?_ | with_reducible refine w_ret ?_ | with_reducible refine w_drop ?_ | with_reducible refine w_ifs ?_ | with_reducible refine w_next ?_ | with_reducible refine w_par ?_
  | with_reducible refine w_op ?_ | with_reducible refine w_un ?_ | ((with_reducible show tVar _ _ _ _); refine' w_var ?hv ?_; (case hv => exact rfl)) | with_reducible refine w_c ?_ | with_reducible refine w_test ?_ | with_reducible refine w_tB ?_
  | with_reducible refine w_bl ?_ | with_reducible refine w_I0 ?_ | with_reducible refine w_U ?_ | with_reducible refine w_eqI ?_ | with_reducible refine w_neI ?_
  | with_reducible refine w_cons ?_ | with_reducible refine w_nil ?_ | with_reducible refine w_gn ?_ | with_reducible refine w_gsub ?_ | with_reducible refine w_and ?_ | with_reducible refine w_or ?_ | with_reducible refine w_not ?_
  | with_reducible refine w_andV ?_ | with_reducible refine w_orV ?_ | with_reducible refine w_notV ?_ | with_reducible refine w_if ?_ | with_reducible refine w_cb ?_ | with_reducible refine w_call ?_ | with_reducible refine w_lst ?_ | with_reducible refine w_tup ?_
  | with_reducible refine w_sl ?_ | with_reducible refine w_noPart ?_ | with_reducible refine w_part ?_ | with_reducible refine w_ex1 ?_ | with_reducible refine w_exb ?_ | with_reducible refine w_intB ?_ | with_reducible refine w_intI ?_ | with_reducible refine w_abs ?_)
local macro_rules | `(tactic| walk_at "rv ix") => `(tactic| ((with_reducible show rIxL _ _ _ _ _); refine' w_ixL (sq_lst ?ha) ?hb ?_; (case ha => first | exact upd_same | assumption); (case hb => first | exact rfl | assumption)))
local macro_rules | `(tactic| walk_at "rv ar") => `(tactic| first
  | (refine' w_I ?hc ?_; (case hc => first | (show (0 : Int) < _; first | assumption | decide | omega) | exact pow_c (by decide) (by decide) (by first | decide | omega) (by first | decide | omega) | exact mul_r (by first | decide | omega) (by first | decide | omega) | exact mul_l (by first | decide | omega) (by first | decide | omega) | exact divw (by first | assumption | decide | omega) (by first | assumption | decide | omega))))
local macro_rules | `(tactic| walk_at "rv go") => `(tactic| repeat first | walk_at "rv st" | walk_at "rv ix" | ((with_reducible show rI _ _ _ _ _ _); walk_at "rv ar"))
theorem p_heights {K : PySem.W.Frag} {vs : List V} {H : Hp} {Q : VK} {E : XK} (h : spHeights K vs H Q E) : t__law_heights K { nx := fun _ H' => Q .non H', rt := Q } (start ["_law_draws_here", "_law_many", "_law_size", "_law_k"] vs) H := by
  obtain ⟨d, c, rfl, hD, k⟩ := h
  unfold t__law_heights
  walk_at "rv go"
  refine ⟨szl (by decide), fun p1 n1 => ?_⟩
  have n1d : p1 ≠ d := hD.nd n1
  walk_at "rv go"
  have b1 : But d H (upd H p1 (.lst [.int 9, .int 60])) := (But.refl d H).new n1
  refine draw_call (hD.new (same_new (Same.refl H) n1)) (by decide) (by decide) fun r1 H1 r1a r1b e1 D1 => ?_
  walk_at "rv go"
  have l1 : H1 p1 = some (.lst [.int 9, .int 60]) := e1 _ _ n1d upd_same
  have hm : ∃ m : Int, 0 < m ∧ m ≤ 60 ∧ atI [V.int 9, V.int 60] (if decide (r1 = 3) then 1 else 0) = some (.int m) := by
    by_cases z : r1 = 3
    · rw [decide_eq_true z]
      exact ⟨60, by decide, by decide, rfl⟩
    · rw [decide_eq_false z]
      exact ⟨9, by decide, by decide, rfl⟩
  obtain ⟨m, m0, m60, em⟩ := hm
  refine w_ixL (sq_lst l1) em ?_
  walk_at "rv go"
  refine draw_call D1 m0 (Int.lt_of_le_of_lt m60 (by decide)) fun r2 H2 r2a r2b e2 D2 => ?_
  walk_at "rv go"
  refine ⟨szl (by decide), fun p2 n2 => ?_⟩
  walk_at "rv go"
  have n2d : p2 ≠ d := D2.nd n2
  refine draw_call (D2.new (same_new (Same.refl H2) n2)) (by decide) (by decide) fun r3 H3 r3a r3b e3 D3 => ?_
  have l3 : H3 p2 = some (.lst [.int 2, .int 7, .int (10 ^ Int.toNat 6), .int (10 ^ Int.toNat 30)]) := e3 _ _ n2d upd_same
  have hz : ∃ z : Int, 0 < z ∧ z ≤ 1000000000000000000000000000000 ∧ atI [V.int 2, V.int 7, V.int (10 ^ Int.toNat 6), V.int (10 ^ Int.toNat 30)] r3 = some (.int z) := by
    have c : r3 = 0 ∨ r3 = 1 ∨ r3 = 2 ∨ r3 = 3 := by omega
    rcases c with rfl | rfl | rfl | rfl
    · exact ⟨2, by decide, by decide, rfl⟩
    · exact ⟨7, by decide, by decide, rfl⟩
    · exact ⟨10 ^ Int.toNat 6, by decide, by decide, rfl⟩
    · exact ⟨10 ^ Int.toNat 30, by decide, by decide, rfl⟩
  obtain ⟨z, z0, z1, ez⟩ := hz
  refine w_ixL (sq_lst l3) ez ?_
  walk_at "rv go"
  have eN : (((1 + r2).toNat : Nat) : Int) = 1 + r2 := Int.toNat_of_nonneg (by omega)
  have b3 : But d H H3 := ((b1.trans e1).trans e2).trans (((But.refl d H2).new n2).trans e3)
  refine w_lcR (n := (1 + r2).toNat) (by omega) (fun AQ q => ?_) (fun D acc H' => ∃ hs : List Int, acc = hs.map V.int ∧ (∀ z ∈ hs, HOk1 z) ∧ But d H H' ∧ DrawsAt H' d c ∧ H' D = some (.lst acc) ∧ D ≠ d ∧ D ≠ c ∧ H D = none) (fun D nD => ?_) ?_ ?_
  · rw [eN] at q
    walk_at "rv go"
    exact q
  · exact ⟨[], rfl, (fun _ h => nomatch h), b3.new nD, D3.new (same_new (Same.refl H3) nD), upd_same, D3.nd nD, D3.nc nD, b3.free (D3.nd nD) nD⟩
  · rintro D acc H' hl ⟨hs, rfl, hok, b, DD, hD', nDd, nDc, nD⟩
    walk_at "rv go"
    refine draw_call DD (by omega) (Int.lt_of_le_of_lt (b := 2000000000000000000000000000001) (by omega) (by decide)) fun r H4 ra rb e4 D4 => ?_
    walk_at "rv go"
    have b4 := b.trans e4
    refine w_app (J := fun D acc H' => ∃ hs : List Int, acc = hs.map V.int ∧ (∀ z ∈ hs, HOk1 z) ∧ But d H H' ∧ DrawsAt H' d c ∧ H' D = some (.lst acc) ∧ D ≠ d ∧ D ≠ c ∧ H D = none) (e4 _ _ nDd hD') (by rw [List.length_map] at hl ⊢; omega) ⟨hs ++ [r - z], (by rw [map_app]), ?_, ?_, D4.wr nDd nDc, upd_same, nDd, nDc, nD⟩
    · intro y hy
      rcases List.mem_append.mp hy with h | h
      · exact hok y h
      · rw [List.mem_singleton.mp h]
        exact ⟨by omega, by omega⟩
    · exact fun c o nc h => by
        have q := b4 c o nc h
        rw [upd_ne (ne_of_none h nD)]
        exact q
  · rintro D acc H' hl ⟨hs, rfl, hok, b, DD, hD', nDd, nDc, nD⟩
    rw [List.length_map] at hl
    exact k D H' hs (by omega) (by omega) hok b DD nD hD'
theorem p_widths {K : PySem.W.Frag} {vs : List V} {H : Hp} {Q : VK} {E : XK} (h : spWidths K vs H Q E) : t__law_widths K { nx := fun _ H' => Q .non H', rt := Q } (start ["_law_draws_here", "_law_many", "_law_size", "_law_k"] vs) H := by
  obtain ⟨d, c, n, rfl, hn, hD, k⟩ := h
  unfold t__law_widths
  walk_at "rv go"
  refine ⟨szl (by decide), fun p1 n1 => ?_⟩
  have n1d : p1 ≠ d := hD.nd n1
  walk_at "rv go"
  refine draw_call (hD.new (same_new (Same.refl H) n1)) (by decide) (by decide) fun r1 H1 r1a r1b e1 D1 => ?_
  walk_at "rv go"
  have b1 : But d H H1 := But.trans ((But.refl d H).new n1) e1
  have l1 : H1 p1 = some (.lst [.int 1, .int 3, .int (10 ^ Int.toNat 30)]) := e1 _ _ n1d upd_same
  have hz : ∃ z : Int, 0 < z ∧ z ≤ 1000000000000000000000000000000 ∧ atI [V.int 1, V.int 3, V.int (10 ^ Int.toNat 30)] r1 = some (.int z) := by
    have c : r1 = 0 ∨ r1 = 1 ∨ r1 = 2 := by omega
    rcases c with rfl | rfl | rfl
    · exact ⟨1, by decide, by decide, rfl⟩
    · exact ⟨3, by decide, by decide, rfl⟩
    · exact ⟨10 ^ Int.toNat 30, by decide, by decide, rfl⟩
  obtain ⟨z, z0, z1, ez⟩ := hz
  refine w_ixL (sq_lst l1) ez ?_
  walk_at "rv go"
  refine w_lcR (n := n) (by omega) (fun AQ q => ?_) (fun D acc H' => ∃ hs : List Int, acc = hs.map V.int ∧ (∀ z ∈ hs, WOk1 z) ∧ But d H H' ∧ DrawsAt H' d c ∧ H' D = some (.lst acc) ∧ D ≠ d ∧ D ≠ c ∧ H D = none) (fun D nD => ?_) ?_ ?_
  · walk_at "rv go"
    exact q
  · exact ⟨[], rfl, (fun _ h => nomatch h), b1.new nD, D1.new (same_new (Same.refl H1) nD), upd_same, D1.nd nD, D1.nc nD, b1.free (D1.nd nD) nD⟩
  · rintro D acc H' hl ⟨hs, rfl, hok, b, DD, hD', nDd, nDc, nD⟩
    walk_at "rv go"
    refine draw_call DD (by omega) (Int.lt_of_le_of_lt (b := 2000000000000000000000000000001) (by omega) (by decide)) fun r H4 ra rb e4 D4 => ?_
    walk_at "rv go"
    have b4 := b.trans e4
    refine w_app (J := fun D acc H' => ∃ hs : List Int, acc = hs.map V.int ∧ (∀ z ∈ hs, WOk1 z) ∧ But d H H' ∧ DrawsAt H' d c ∧ H' D = some (.lst acc) ∧ D ≠ d ∧ D ≠ c ∧ H D = none) (e4 _ _ nDd hD') (by rw [List.length_map] at hl ⊢; omega) ⟨hs ++ [1 + r], (by rw [map_app]), ?_, ?_, D4.wr nDd nDc, upd_same, nDd, nDc, nD⟩
    · intro y hy
      rcases List.mem_append.mp hy with h | h
      · exact hok y h
      · rw [List.mem_singleton.mp h]
        exact ⟨by omega, by omega⟩
    · exact fun c o nc h => by
        have q := b4 c o nc h
        rw [upd_ne (ne_of_none h nD)]
        exact q
  · rintro D acc H' hl ⟨hs, rfl, hok, b, DD, hD', nDd, nDc, nD⟩
    rw [List.length_map] at hl
    exact k D H' hs hl hok b DD nD hD'
theorem ty_same {K : PySem.W.Frag} {H H' : Hp} {v : V} {t : Value} (h : TyX K H v t) (e : Same H H') : TyX K H' v t := by
  cases h with
  | base h =>
    cases h with
    | non => exact .base .non
    | bl x => exact .base (.bl x)
    | int i => exact .base (.int i)
    | str x => exact .base (.str x)
    | flt x => exact .base (.flt x)
    | lst h => exact .base (.lst (e _ _ h))
    | frz h => exact .base (.frz (e _ _ h))
    | tup h => exact .base (.tup (e _ _ h))
    | dK h => exact .base (.dK (e _ _ h))
    | dT h => exact .base (.dT (e _ _ h))
    | ins h cl ha hn htk hm => exact .base (.ins (e _ _ h) cl ha hn htk hm)
  | byt b => exact .byt b
  | set h => exact .set (e _ _ h)
  | kList h c => exact .kList h c
  | kTuple h c => exact .kTuple h c
  | kDict h c => exact .kDict h c
  | fTuple h => exact .fTuple (e _ _ h)
  | fDict h => exact .fDict (e _ _ h)
theorem Whole.same {K : PySem.W.Frag} {H H' : Hp} {v : V} (h : Whole K H v) (e : Same H H') : Whole K H' v := by
  cases h with
  | int i => exact .int i
  | bl b => exact .bl b
  | other h k n => exact .other (ty_same h e) k n
theorem whole_int {K : PySem.W.Frag} {H : Hp} {v : V} (h : Whole K H v) : ∃ t, TyX K H v t ∧ PySem.W.kitOne K t (.type "int") = some (isI v || match v with | .bl _ => true | _ => false) := by
  cases h with
  | int i => exact ⟨_, .base (.int i), kit_ii⟩
  | bl b => exact ⟨_, .base (.bl b), kit_bi⟩
  | other h k n1 =>
    refine ⟨_, h, ?_⟩
    rw [k]
    cases v with
    | int i => exact absurd rfl (n1 i)
    | bl b =>
      cases h with
      | base hb =>
        cases hb
        rw [kit_bi] at k
        cases k
    | _ => rfl
theorem p_whole {K : PySem.W.Frag} {vs : List V} {H : Hp} {Q : VK} {E : XK} (h : spWhole K vs H Q E) : t_is_whole K { nx := fun _ H' => Q .non H', rt := Q } (start ["value"] vs) H := by
  obtain ⟨v, rfl, hw, k⟩ := h
  unfold t_is_whole
  obtain ⟨t, h1, h2⟩ := whole_int hw
  walk_at "rv go"
  refine isi_of (.ty "int") h1 h2 ?_
  walk_at "rv go"
  cases v with
  | int i =>
    refine iteT ?_
    walk_at "rv go"
    refine isi_of (.ty "bool") (.base (.int i)) kit_ib ?_
    walk_at "rv go"
    exact k
  | bl b =>
    refine iteT ?_
    walk_at "rv go"
    refine isi_of (.ty "bool") (.base (.bl b)) kit_bb ?_
    walk_at "rv go"
    exact k
  | _ => exact k
theorem p_within {K : PySem.W.Frag} {vs : List V} {H : Hp} {Q : VK} {E : XK} (h : spWithin K vs H Q E) : t_is_whole_within K { nx := fun _ H' => Q .non H', rt := Q } (start ["value", "least", "greatest"] vs) H := by
  obtain ⟨v, lo, hi, rfl, hw, k⟩ := h
  unfold t_is_whole_within
  walk_at "rv go"
  refine ⟨v, rfl, hw, ?_⟩
  walk_at "rv go"
  cases v with
  | int i =>
    refine iteT ?_
    refine w_chain ?_
    walk_at "rv go"
    refine w_both (fun h => ?_) (fun h => ?_)
    · walk_at "rv go"
      have e : inI lo hi (.int i) = decide (i ≤ hi) := by
        show (decide (lo ≤ i) && decide (i ≤ hi)) = _
        rw [decide_eq_true h, Bool.true_and]
      rw [e] at k
      exact k
    · have e : inI lo hi (.int i) = false := by
        show (decide (lo ≤ i) && decide (i ≤ hi)) = _
        rw [decide_eq_false h, Bool.false_and]
      rw [e] at k
      exact k
  | _ => exact k
theorem sqT_same0 {K : PySem.W.Frag} {H H' : Hp} {a : Addr} {xs : List V} (h : SqT K H a xs) (e : Same H H') : SqT K H' a xs := by
  rcases h with (h | ⟨o, h⟩) | h
  · exact .inl (.inl (e _ _ h))
  · exact .inl (.inr ⟨o, e _ _ h⟩)
  · exact .inr h
theorem p_outside {K : PySem.W.Frag} {vs : List V} {H : Hp} {Q : VK} {E : XK} (h : spOutside K vs H Q E) : t_first_outside K { nx := fun _ H' => Q .non H', rt := Q } (start ["values", "least", "greatest", "index", "value"] vs) H := by
  obtain ⟨a, lo, hi, xs, rfl, hS, hw, k⟩ := h
  unfold t_first_outside
  refine w_seq ?_
  refine w_forEA (fun AQ q => ?_) hS (fun i σ' H' => ∃ u v : Option V, σ' = [some (.ref a), some (.int lo), some (.int hi), u, v] ∧ Same H H' ∧ outs lo hi xs 0 = outs lo hi (xs.drop i) i) ⟨none, none, rfl, Same.refl H, by rw [List.drop_zero]⟩ (fun i σ' H' ⟨_, _, _, e, _⟩ => ⟨fun z => e.seq z, fun z => sqT_same0 z e⟩) ?_ ?_
  · walk_at "rv go"
    exact q
  · rintro i x T σ' H' hx ⟨u, v, rfl, e, ho⟩ nT
    refine ⟨T, _, rfl, sq_tup upd_same, rfl, _, _, rfl, ?_⟩
    refine ⟨_, _, rfl, rfl, ?_⟩
    have e2 : Same H (upd H' T (.tup [.int (i : Int), x])) := same_new e nT
    have hil : i < xs.length := (List.getElem?_eq_some_iff.mp hx).1
    have hxe : xs[i] = x := (List.getElem?_eq_some_iff.mp hx).2
    have ed : xs.drop i = x :: xs.drop (i + 1) := by rw [List.drop_eq_getElem_cons hil, hxe]
    refine w_ifs ?_
    walk_at "rv go"
    refine ⟨x, lo, hi, rfl, ?_, ?_⟩
    · exact (hw x (List.mem_of_getElem? hx)).same e2
    · walk_at "rv go"
      rw [ed] at ho
      cases hb : inI lo hi x with
      | true =>
        refine iteF ?_
        refine w_next ?_
        refine ⟨_, _, rfl, e2, ?_⟩
        rw [ho]
        show (if inI lo hi x = true then _ else _) = _
        rw [if_pos hb]
      | false =>
        refine iteT ?_
        walk_at "rv go"
        have q := k _ e2
        rw [ho] at q
        have e3 : outs lo hi (x :: xs.drop (i + 1)) i = .int (i : Int) := by
          show (if inI lo hi x = true then _ else _) = _
          rw [hb, if_neg Bool.false_ne_true]
        rw [e3] at q
        exact q
  · rintro σ' H' ⟨u, v, rfl, e, ho⟩
    walk_at "rv go"
    rw [List.drop_length] at ho
    have q := k _ e
    rw [ho] at q
    exact q
theorem p_row {K : PySem.W.Frag} {vs : List V} {H : Hp} {Q : VK} {E : XK} (h : spRow K vs H Q E) : t_is_row K { nx := fun _ H' => Q .non H', rt := Q } (start ["values", "least", "most"] vs) H := by
  obtain ⟨a, lo, hi, xs, rfl, hR, k⟩ := h
  unfold t_is_row
  walk_at "rv go"
  refine ⟨szl (by decide), fun p np => ?_⟩
  have e := same_new (o := .tup [.ty "list", .ty "tuple"]) (Same.refl H) np
  walk_at "rv go"
  have hR2 := hR.same (K := K) e
  have ty : ∃ t, TyX K (upd H p (.tup [.ty "list", .ty "tuple"])) (.ref a) t ∧ PySem.W.kitAny K t [.type "list", .type "tuple"] = some true := by
    rcases hR2 with h | h
    · exact ⟨_, .base (.lst h), kitAny_cons kit_ll (fun z => nomatch z) (fun _ => rfl)⟩
    · exact ⟨_, .base (.tup h), kitAny_cons kit_tl (fun _ => kitAny_cons kit_tt (fun z => nomatch z) (fun _ => rfl)) (fun z => nomatch z)⟩
  obtain ⟨t, h1, h2⟩ := ty
  refine ⟨.ref a, p, _, t, _, true, rfl, upd_same, .cons (.ty "list") (.cons (.ty "tuple") .nil), h1, h2, ?_⟩
  walk_at "rv go"
  refine w_chain ?_
  walk_at "rv go"
  have hl : ∀ Q : VK, Q (.int (xs.length : Int)) (upd H p (.tup [.ty "list", .ty "tuple"])) → cLen K [.ref a] (upd H p (.tup [.ty "list", .ty "tuple"])) Q := fun Q q => by
    rcases hR2 with h | h
    · exact w_lenL (sq_lst h) q
    · exact w_lenT (sq_tup h) q
  refine hl _ ?_
  walk_at "rv go"
  have q := k _ e
  refine w_both (fun z => ?_) (fun z => ?_)
  · walk_at "rv go"
    rw [decide_eq_true z, Bool.true_and] at q
    exact q
  · rw [decide_eq_false z, Bool.false_and] at q
    exact q
theorem row_call {K : PySem.W.Frag} {H : Hp} {Q : VK} {E : XK} {a : Addr} {lo hi : Int} {xs : List V} (h : RowAt K H a xs) (h1 : lo ≤ (xs.length : Int)) (h2 : (xs.length : Int) ≤ hi) (k : ∀ H', Same H H' → Q (.bl true) H') :
    spRow K ([.ref a, .int lo, .int hi] ++ []) H Q E := ⟨a, lo, hi, xs, rfl, h, fun H' e => by
  rw [decide_eq_true h1, decide_eq_true h2]
  exact k H' e⟩
theorem outside_call {K : PySem.W.Frag} {H : Hp} {Q : VK} {E : XK} {a : Addr} {lo hi : Int} {zs : List Int} (h : RowAt K H a (zs.map V.int)) (hz : ∀ z ∈ zs, lo ≤ z ∧ z ≤ hi) (k : ∀ H', Same H H' → Q .non H') :
    spOutside K ([.ref a, .int lo, .int hi] ++ []) H Q E := by
  have hm : ∀ x ∈ zs.map V.int, ∃ z, x = V.int z ∧ lo ≤ z ∧ z ≤ hi := fun x hx => by
    obtain ⟨z, h1, h2⟩ := List.mem_map.mp hx
    exact ⟨z, h2.symm, hz z h1⟩
  refine ⟨a, lo, hi, _, rfl, h.elim (fun h => .inl (sq_lst h)) (fun h => .inr (sq_tup h)), fun x hx => ?_, fun H' e => ?_⟩
  · obtain ⟨z, rfl, _⟩ := hm x hx
    exact .int z
  · rw [outs_none fun x hx => ?_]
    · exact k H' e
    · obtain ⟨z, rfl, h1, h2⟩ := hm x hx
      show (decide (lo ≤ z) && decide (z ≤ hi)) = true
      rw [decide_eq_true h1, decide_eq_true h2]
      rfl
theorem p_checkH {K : PySem.W.Frag} {vs : List V} {H : Hp} {Q : VK} {E : XK} (h : spCheckH K vs H Q E) : t_check_heights K { nx := fun _ H' => Q .non H', rt := Q } (start ["heights", "wrong"] vs) H := by
  obtain ⟨a, hs, rfl, ha, h1, h60, hok, k⟩ := h
  unfold t_check_heights
  refine w_seq ?_
  refine w_ifs ?_
  walk_at "rv go"
  refine row_call ha (by rw [List.length_map]; omega) (by rw [List.length_map]; omega) fun H1 e1 => ?_
  walk_at "rv go"
  refine outside_call (ha.same e1) (fun z hz => hok z hz) fun H2 e2 => ?_
  refine w_gn ?_
  refine w_ifs ?_
  walk_at "rv go"
  refine ⟨rfl, ?_⟩
  walk_at "rv go"
  exact k H2 (e1.trans e2)
theorem p_checkW {K : PySem.W.Frag} {vs : List V} {H : Hp} {Q : VK} {E : XK} (h : spCheckW K vs H Q E) : t_check_widths K { nx := fun _ H' => Q .non H', rt := Q } (start ["widths", "many", "wrong"] vs) H := by
  obtain ⟨a, ws, rfl, ha, hok, k⟩ := h
  unfold t_check_widths
  refine w_seq ?_
  refine w_ifs ?_
  walk_at "rv go"
  refine row_call ha (by rw [List.length_map]; omega) (by rw [List.length_map]; omega) fun H1 e1 => ?_
  walk_at "rv go"
  refine outside_call (ha.same e1) (fun z hz => hok z hz) fun H2 e2 => ?_
  refine w_gn ?_
  refine w_ifs ?_
  walk_at "rv go"
  refine ⟨rfl, ?_⟩
  walk_at "rv go"
  exact k H2 (e1.trans e2)
theorem tup_call {K : PySem.W.Frag} {H : Hp} {Q : VK} {a : Addr} {xs : List V} (h : RowAt K H a xs) (k : ∀ l H', Same H H' → H' l = some (.tup xs) → Q (.ref l) H') : cTuple K [.ref a] H Q := by
  rcases h with h | h
  · exact ⟨a, xs, rfl, .inl ⟨sq_lst h, fun l nl => k l _ (same_new (Same.refl H) nl) upd_same⟩⟩
  · exact ⟨a, xs, rfl, .inr ⟨sq_tup h, k a H (Same.refl H) h⟩⟩
theorem w_lenR {K : PySem.W.Frag} {H : Hp} {Q : VK} {a : Addr} {xs : List V} (h : RowAt K H a xs) (q : Q (.int xs.length) H) : cLen K [.ref a] H Q :=
  h.elim (fun h => w_lenL (sq_lst h) q) fun h => w_lenT (sq_tup h) q
theorem p_init {K : PySem.W.Frag} {C : Addr} {vs : List V} {H : Hp} {Q : VK} {E : XK} (h : spInit K C vs H Q E) : t_Profile___init__ K C { nx := fun _ H' => Q .non H', rt := Q } (start ["self", "heights", "widths"] vs) H := by
  obtain ⟨p, dx, a, wv, hs, ws, rfl, P, hp, ha, h1, h60, hok, hw, k⟩ := h
  unfold t_Profile___init__
  walk_at "rv go"
  refine ⟨a, hs, rfl, ha, h1, h60, hok, fun H1 e1 => ?_⟩
  refine w_cut (fun σ' H' => ∃ b, σ' = [some (.ref p), some (.ref a), some (.ref b)] ∧ RowAt K H' b (ws.map V.int) ∧ ws.length = hs.length ∧ (∀ z ∈ ws, WOk1 z) ∧ Same H H') (fun N key => ?_) ?_
  · refine w_ifs ?_
    rcases hw with ⟨rfl, rfl⟩ | ⟨b, rfl, hb, hl, hwok⟩
    · walk_at "rv go"
      refine ⟨rfl, ?_⟩
      walk_at "rv go"
      refine ⟨szl (by decide), fun q nq => ?_⟩
      walk_at "rv go"
      refine w_lenR (ha.same (same_new e1 nq)) ?_
      walk_at "rv go"
      refine ⟨q, _, _, rfl, rfl, upd_same, by omega, by rw [List.length_map]; omega, by rw [List.length_map]; exact szl (by simp; omega), fun r nr => ?_⟩
      walk_at "rv go"
      refine key _ _ ⟨r, rfl, .inl ?_, by simp, fun z hz => ?_, same_new (same_new e1 nq) nr⟩
      · rw [upd_same, List.map_replicate, List.length_map, Int.toNat_natCast, List.flatten_replicate_singleton]
      · rw [(List.mem_replicate.mp hz).2]
        exact ⟨by decide, by decide⟩
    · walk_at "rv go"
      refine ⟨rfl, ?_⟩
      have e : decide (V.ref b = V.non) = false := decide_eq_false fun z => nomatch z
      rw [e]
      walk_at "rv go"
      exact key _ _ ⟨b, rfl, hb.same e1, hl, hwok, e1⟩
  · rintro σ2 H2 ⟨b, rfl, hb, hl, hwok, e2⟩
    walk_at "rv go"
    refine w_lenR (ha.same e2) ?_
    walk_at "rv go"
    refine ⟨b, ws, ?_, hb, hwok, fun H3 e3 => ?_⟩
    · show [V.ref b, V.int ((hs.map V.int).length : Int)] = _
      rw [List.length_map, hl]
    have e23 := e2.trans e3
    refine w_seq ?_
    refine w_sfld ?_
    walk_at "rv go"
    refine tup_call (ha.same e23) fun t1 H4 e4 h1 => ?_
    walk_at "rv go"
    have e24 := e23.trans e4
    refine w_put (e24 _ _ hp) P.cl P.nH (by decide) ?_
    refine w_nx ?_
    refine w_sfld ?_
    walk_at "rv go"
    have ne_p : ∀ {c : Addr} {ys : List V}, RowAt K H4 c ys → c ≠ p := fun {c ys} q z => by
      have q2 := e24 _ _ hp
      rw [← z] at q2
      rcases q with q | q
      · rw [q] at q2
        cases q2
      · rw [q] at q2
        cases q2
    have t1p : t1 ≠ p := ne_p (.inr h1)
    have hb4 : RowAt K H4 b (ws.map V.int) := (hb.same e3).same e4
    have bp : b ≠ p := ne_p hb4
    have hb5 : RowAt K (upd H4 p (.ins C dx (putF "column_heights" (.ref t1) []))) b (ws.map V.int) := by
      unfold RowAt
      rw [upd_ne bp]
      exact hb4
    refine tup_call hb5 fun t2 H5 e5 h2 => ?_
    have hp5 := e5 _ _ (upd_same (H := H4) (a := p))
    have t2p : t2 ≠ p := fun z => by
      rw [z, hp5] at h2
      cases h2
    walk_at "rv go"
    refine w_put (fs := putF "column_heights" (.ref t1) []) hp5 P.cl P.nW (by show (1 : Nat) < 1000; decide) ?_
    refine k _ ⟨dx, t1, t2, upd_same, ?_, ?_⟩ fun c o nc hc => ?_
    · rw [upd_ne t1p]
      exact e5 _ _ (by rw [upd_ne t1p]; exact h1)
    · rw [upd_ne t2p]
      exact h2
    · rw [upd_ne nc]
      exact e5 _ _ (by rw [upd_ne nc]; exact e24 _ _ hc)
theorem dp_ints {K : PySem.W.Frag} {H : Hp} : ∀ zs : List Int, DpAll K H (zs.map V.int) (zs.map PyData.int)
  | [] => .nil
  | z :: r => .cons (.int z) (dp_ints r)
theorem kit_self {K : PySem.W.Frag} {C : Addr} : PySem.W.kitOne K (.ref C) (.ref C) = some true := if_pos (beq_self_eq_true _)
theorem lay_ints : ∀ zs : List Int, PyData.canLayAll0 (zs.map PyData.int) = true ∧ PyData.depthAll (zs.map PyData.int) = 0
  | [] => ⟨by simp [PyData.canLayAll0], by simp [PyData.depthAll]⟩
  | z :: r => by
    have h := lay_ints r
    exact ⟨by simp [PyData.canLayAll0, PyData.canLay0, h.1], by simp [PyData.depthAll, PyData.depth, h.2]⟩
theorem shT_ints (zs : List Int) : SeqAt.shaped (.tuple (zs.map PyData.int)) = true := by
  have h := lay_ints zs
  simp [SeqAt.shaped, PyData.canLay0, PyData.depth, h.1, h.2]
theorem shL_ints (zs : List Int) : SeqAt.shaped (.list (zs.map PyData.int)) = true := by
  have h := lay_ints zs
  simp [SeqAt.shaped, PyData.canLay0, PyData.depth, h.1, h.2]
theorem eqD_ok {K : PySem.W.Frag} {H : Hp} {Q : VK} {a b : Addr} {zs : List Int} (h1 : SqT K H a (zs.map V.int)) (h2 : SqT K H b (zs.map V.int)) (q : Q (.bl true) H) : rEqD K (.ref a) (.ref b) H Q := by
  refine ⟨.tuple (zs.map PyData.int), .tuple (zs.map PyData.int), .tup h1 (dp_ints zs), .tup h2 (dp_ints zs), shT_ints zs, shT_ints zs, ?_⟩
  rw [SeqAt.eqv_refl _ (SeqAt.canLay_of_shaped (shT_ints zs))]
  exact q
theorem p_eq {K : PySem.W.Frag} {C : Addr} {vs : List V} {H : Hp} {Q : VK} {E : XK} (h : spEq (PEq K C) vs H Q E) : t_Profile___eq__ K C { nx := fun _ H' => Q .non H', rt := Q } (start ["self", "other"] vs) H := by
  obtain ⟨a, b, rfl, ⟨P, hs, ws, ⟨dx, t1, t2, ha, h1, h2⟩, ⟨dy, u1, u2, hb, g1, g2⟩⟩, k⟩ := h
  unfold t_Profile___eq__
  walk_at "rv go"
  refine isi_of (.own C) (.base (.ins hb P.cl P.cA P.cG P.cT P.cM)) kit_self ?_
  walk_at "rv go"
  refine w_fld rfl ha P.cl P.nH (pfl_h _ _) ?_
  refine w_fld rfl hb P.cl P.nH (pfl_h _ _) ?_
  refine eqD_ok (sq_tup h1) (sq_tup g1) ?_
  walk_at "rv go"
  refine w_fld rfl ha P.cl P.nW (pfl_w _ _) ?_
  refine w_fld rfl hb P.cl P.nW (pfl_w _ _) ?_
  refine eqD_ok (sq_tup h2) (sq_tup g2) ?_
  walk_at "rv go"
  exact k H fun _ _ z => z
end Rv
/-! Operators, comparisons and len of instances of a class with its own defs for them. -/
namespace Rv
open PySem PySem.Spec PyProof.Rows L2
theorem back_of {P : Value → Shared → Prop} {z : V} {v : Value} {s' : Shared} (r : RelV z v) (h : P v s') : PySem.W.CmpBack P v s' := by
  have n : v ≠ .notImplemented := by
    rintro rfl
    cases z <;> first | (obtain ⟨_, e⟩ := r; cases e) | cases r
  cases v <;> first | exact h | exact absurd rfl n
/-- the second operand: an int, or an instance of the class at C -/
inductive Snd (C : Addr) (H : Hp) : V → Prop where
  | int (i : Int) : Snd C H (.int i)
  | own {b dy : Addr} {gs : List (Str × V)} (h : H b = some (.ins C dy gs)) : Snd C H (.ref b)
/-- the class at C has a def of two parameters under the name nm -/
structure CalO (P : Program) (w : World) (K : PySem.W.Frag) (mg : Str → Option Value) (base : Heap) (CX : CXT) (k : Nat) (C : Addr) (nm : Str) (sp : Sp) : Prop where
  ex : ∃ f fd, FnOk P w K mg base CX k f fd ["self", "other"] sp ∧ PySem.W.findIn K (.ref C) nm = some (some (.ref f)) ∧ PySem.W.isFn K (.ref f) = true ∧ Binds K fd ["self", "other"] []
/-- .. of one parameter -/
structure CalU (P : Program) (w : World) (K : PySem.W.Frag) (mg : Str → Option Value) (base : Heap) (CX : CXT) (k : Nat) (C : Addr) (nm : Str) (sp : Sp) : Prop where
  ex : ∃ f fd, FnOk P w K mg base CX k f fd ["self"] sp ∧ PySem.W.findIn K (.ref C) nm = some (some (.ref f)) ∧ PySem.W.isFn K (.ref f) = true ∧ Binds K fd ["self"] []
/-- what the operators ask of the class -/
structure OpC (K : PySem.W.Frag) (C : Addr) : Prop where
  nf : PySem.W.notFirst K C (.type "int") = true
  sf : PySem.W.selfFirst K C = true
  su : PySem.W.subIn K (.type "int") (.ref C) = some false
/-- .. for one arithmetic operator (its second name, the reflected one, is a def of the class or nothing) -/
structure OpN (K : PySem.W.Frag) (C : Addr) (nm : String) : Prop where
  rd : ∃ rc, PySem.W.findIn K (.ref C) (PySem.dunderR nm) = some rc ∧ (rc = none ∨ ∃ g : Addr, rc = some (.ref g))
  i1 : ∃ fo, PySem.W.findIn K (.type "int") (PySem.dunder nm) = some fo
  i2 : ∃ ro, PySem.W.findIn K (.type "int") (PySem.dunderR nm) = some ro
def rOwn (C : Addr) (sp : Sp) (E : XK) : R2 := fun x y H Q => ∃ a dx fs, x = .ref a ∧ H a = some (.ins C dx fs) ∧ Snd C H y ∧ sp [x, y] H Q E
def rOwnI (C : Addr) (sp : Sp) (E : XK) : R2 := fun x y H Q => ∃ a dx fs i, x = .ref a ∧ H a = some (.ins C dx fs) ∧ y = .int i ∧ sp [x, y] H Q E
def cLenO (C : Addr) (sp : Sp) (E : XK) : List V → Hp → VK → Prop := fun xs H Q => ∃ a dx fs, xs = [.ref a] ∧ H a = some (.ins C dx fs) ∧ sp [.ref a] H (fun z H' => ∃ i, z = .int i ∧ (0 ≤ i ∧ i < 2 ^ 63) ∧ Q (.int i) H') E
section
variable {X : Cx} {CX : CXT} {k : Nat} {nm : String} {sp : Sp} {E : XK} {C f : Addr} {fd : FuncData} {pins : List (Addr × Obj)} {σ : L2.St} {H : Hp} {s : Shared} {a : Addr} {y : V} {u : Value} {Q : VK}
theorem run2 (F : FnOk X.prog X.w X.K X.mg X.base CX k f fd ["self", "other"] sp) (hb : Binds X.K fd ["self", "other"] []) (hx : Passes CX X E) (hr : Room k X.A) (I : Inv X pins σ H s) (ry : RelV y u) (q : sp [.ref a, y] H Q E) :
    wpAny (model X.prog X.w) X.A (call (.ref f) [.ref a, u]) (PySem.W.CmpBack (EP X pins σ Q)) X.xe s := by
  have r2 : Vals [V.ref a, y] [Value.ref a, u] := .cons rfl (.cons ry .nil)
  have hl := F.len _ _ _ _ q
  refine wpAny_call (codeAny_mono (F.run X.A X.stack s H ⟨[.ref a, u], []⟩ [.ref a, u] [.ref a, y] _ E hr I.env0 (by
    have := hb s [.ref a, u] I.kIn (by simpa using hl)
    simpa using this) r2 q) fun r s' hq => ?_)
  cases r with
  | error e => exact hx pins σ H s e s' I hq
  | ok fl =>
    cases fl with
    | ret w =>
      obtain ⟨z, H', I', rz, qz⟩ := I.after hq
      exact back_of rz ⟨z, H', I', rz, qz⟩
    | next => exact False.elim hq
    | brk => exact False.elim hq
    | cont => exact False.elim hq
theorem op_ownC {op : CmpOp} (hop : ∀ a b, compareOp op a b = richCompare op a b) (c : CalO X.prog X.w X.K X.mg X.base CX k C (cmpInfo op).2.1 sp) (oc : OpC X.K C) (hr : Room k X.A) (hx : Passes CX X E) : OpR X (compareOp op) (rOwn C sp E) := by
  intro pins s σ H x y v u Q I rx ry h
  obtain ⟨a, dx, fs, rfl, ha, sy, q⟩ := h
  cases (show v = Value.ref a from rx)
  obtain ⟨f, fd, F, hs, hf, hb⟩ := c.ex
  obtain ⟨mA, J, _⟩ := ins_get I.hok ha
  obtain ⟨od, J, _⟩ := J.look
  obtain ⟨m, hF⟩ := I.fr
  rw [hop]
  have go := run2 (y := y) (u := u) F hb hx hr I ry q
  cases sy with
  | int i =>
    obtain ⟨t, rfl⟩ := (show ∃ t, u = Value.int i t from ry)
    exact PySem.W.cmp_K (op := op) (tb := .type "int") hr.units0 hF I.ok.mod.kin J (PySem.W.Looks.of_pure rfl) oc.nf hs hf go
  | own hb' =>
    cases (show u = Value.ref _ from ry)
    obtain ⟨mB, J', _⟩ := ins_get I.hok hb'
    obtain ⟨od', J', _⟩ := J'.look
    exact PySem.W.cmp_K (op := op) (tb := .ref C) hr.units0 hF I.ok.mod.kin J J'.type (by simp [PySem.W.notFirst]) hs hf go
theorem op_ownI {op : Operator} (c : CalO X.prog X.w X.K X.mg X.base CX k C (PySem.dunder op.info.2) sp) (oc : OpC X.K C) (on : OpN X.K C op.info.2) (hr : Room k X.A) (hx : Passes CX X E) : OpR X (binaryOp op) (rOwnI C sp E) := by
  intro pins s σ H x y v u Q I rx ry h
  obtain ⟨a, dx, fs, i, rfl, ha, rfl, q⟩ := h
  cases (show v = Value.ref a from rx)
  obtain ⟨f, fd, F, hs, hf, hb⟩ := c.ex
  obtain ⟨mA, J, _⟩ := ins_get I.hok ha
  obtain ⟨od, J, _⟩ := J.look
  obtain ⟨m, hF⟩ := I.fr
  have go := run2 (y := .int i) (u := u) F hb hx hr I ry q
  obtain ⟨t, rfl⟩ := (show ∃ t, u = Value.int i t from ry)
  obtain ⟨rc, r1, r2⟩ := on.rd
  obtain ⟨fo, h1⟩ := on.i1
  obtain ⟨ro, h2⟩ := on.i2
  exact PySem.W.ksp_binT (op := op) (T := "int") hF I.ok.mod.kin J rfl oc.sf hs hf r1 r2 h1 h2 oc.su go
theorem op_ownMul (c : CalO X.prog X.w X.K X.mg X.base CX k C "__mul__" sp) (oc : OpC X.K C) (on : OpN X.K C "mul") (hr : Room k X.A) (hx : Passes CX X E) : OpR X (binaryOp .Mult) (rOwnI C sp E) :=
  op_ownI (op := .Mult) (by rw [show PySem.dunder (Operator.info .Mult).2 = ("__mul__" : Str) from by decide +kernel]; exact c) oc on hr hx
theorem op_ownSub (c : CalO X.prog X.w X.K X.mg X.base CX k C "__sub__" sp) (oc : OpC X.K C) (on : OpN X.K C "sub") (hr : Room k X.A) (hx : Passes CX X E) : OpR X (binaryOp .Sub) (rOwnI C sp E) :=
  op_ownI (op := .Sub) (by rw [show PySem.dunder (Operator.info .Sub).2 = ("__sub__" : Str) from by decide +kernel]; exact c) oc on hr hx
theorem op_ownAdd (c : CalO X.prog X.w X.K X.mg X.base CX k C "__add__" sp) (oc : OpC X.K C) (on : OpN X.K C "add") (hr : Room k X.A) (hx : Passes CX X E) : OpR X (binaryOp .Add) (rOwnI C sp E) :=
  op_ownI (op := .Add) (by rw [show PySem.dunder (Operator.info .Add).2 = ("__add__" : Str) from by decide +kernel]; exact c) oc on hr hx
theorem call_lenO (c : CalU X.prog X.w X.K X.mg X.base CX k C "__len__" sp) (hr : Room (k + 1) X.A) (hx : Passes CX X E) : CallR X (.builtin "len") (cLenO C sp E) := by
  intro pins s σ H xs us Q I r h
  obtain ⟨a, dx, fs, rfl, ha, q⟩ := h
  obtain ⟨u, rfl, ru⟩ := r.one
  cases (show u = Value.ref a from ru)
  obtain ⟨f, fd, F, hs, hf, hb⟩ := c.ex
  obtain ⟨mA, J, _⟩ := ins_get I.hok ha
  obtain ⟨od, J, _⟩ := J.look
  obtain ⟨m, hF⟩ := I.fr
  have hl := F.len _ _ _ _ q
  refine PySem.W.len_K hF I.ok.mod.kin J hs hf (wpAny_call (codeAny_mono (F.run X.A.in1 X.stack s H ⟨[.ref a], []⟩ [.ref a] [.ref a] _ E hr.in1 I.env0.in1 (by
    have := hb s [.ref a] I.kIn (by simpa using hl)
    simpa using this) (.cons rfl .nil) q) fun r s' hq => ?_))
  cases r with
  | error e => exact hx pins σ H s e s' I hq
  | ok fl =>
    cases fl with
    | ret w =>
      obtain ⟨z, H', I', rz, i, rfl, hi, qz⟩ := I.after hq
      obtain ⟨t, rfl⟩ := (show ∃ t, w = Value.int i t from rz)
      exact ⟨hi, .int i, H', I'.tok (s'.toks + 1), ⟨_, rfl⟩, qz⟩
    | next => exact False.elim hq
    | brk => exact False.elim hq
    | cont => exact False.elim hq
end
section
variable {K : PySem.W.Frag} {H : Hp} {Q : VK} {C a dx : Addr} {fs : List (Str × V)} {sp : Sp} {E : XK} {y : V} {i : Int}
theorem w_ownI (ha : H a = some (.ins C dx fs)) (q : sp [.ref a, .int i] H Q E) : rOwn C sp E (.ref a) (.int i) H Q := ⟨a, dx, fs, rfl, ha, .int i, q⟩
theorem w_ownO {b dy : Addr} {gs : List (Str × V)} (ha : H a = some (.ins C dx fs)) (hb : H b = some (.ins C dy gs)) (q : sp [.ref a, .ref b] H Q E) : rOwn C sp E (.ref a) (.ref b) H Q := ⟨a, dx, fs, rfl, ha, .own hb, q⟩
theorem w_binI (ha : H a = some (.ins C dx fs)) (q : sp [.ref a, .int i] H Q E) : rOwnI C sp E (.ref a) (.int i) H Q := ⟨a, dx, fs, i, rfl, ha, rfl, q⟩
theorem w_lenO (ha : H a = some (.ins C dx fs)) (q : sp [.ref a] H (fun z H' => ∃ i, z = .int i ∧ (0 ≤ i ∧ i < 2 ^ 63) ∧ Q (.int i) H') E) : cLenO C sp E [.ref a] H Q := ⟨a, dx, fs, rfl, ha, q⟩
end
end Rv
namespace Rv
open PySem PySem.Spec PyProof.Rows L2
structure Red (n d t b : Int) : Prop where
  eq : t * d = n * b
  pos : 0 < b
  low : Int.gcd t b = 1
  le : b ≤ d
  lt : t.natAbs ≤ n.natAbs
theorem red_gcd {n d : Int} (hd : 0 < d) : Red n d (n / (Int.gcd n d : Int)) (d / (Int.gcd n d : Int)) := by
  have g0 : 0 < Int.gcd n d := Int.gcd_pos_iff.mpr (.inr (by omega))
  have g1 : (0 : Int) < (Int.gcd n d : Int) := by omega
  obtain ⟨x, hx⟩ := Int.gcd_dvd_left (a := n) (b := d)
  obtain ⟨y, hy⟩ := Int.gcd_dvd_right (a := n) (b := d)
  have low : Int.gcd x y = 1 := by
    have e : Int.gcd n d = Int.gcd n d * Int.gcd x y := by
      have q := Int.gcd_mul_left (Int.gcd n d : Int) x y
      rw [← hx, ← hy, Int.natAbs_natCast] at q
      exact q
    exact Nat.eq_of_mul_eq_mul_left g0 (by omega)
  have ex : n / (Int.gcd n d : Int) = x := by
    have q := Int.mul_ediv_cancel_left x (show (Int.gcd n d : Int) ≠ 0 by omega)
    rw [← hx] at q
    exact q
  have ey : d / (Int.gcd n d : Int) = y := by
    have q := Int.mul_ediv_cancel_left y (show (Int.gcd n d : Int) ≠ 0 by omega)
    rw [← hy] at q
    exact q
  rw [ex, ey]
  have py : 0 < y := by
    by_cases h : 0 < y
    · exact h
    · have : (Int.gcd n d : Int) * y ≤ 0 := Int.mul_nonpos_of_nonneg_of_nonpos (by omega) (by omega)
      omega
  generalize hg : Int.gcd n d = g at *
  refine ⟨?_, py, low, ?_, ?_⟩
  · rw [hx, hy]
    rw [show x * ((g : Int) * y) = (g : Int) * x * y by rw [Int.mul_left_comm, Int.mul_assoc]]
  · rw [hy]
    have := Int.mul_le_mul_of_nonneg_right (show (1 : Int) ≤ g by omega) (show 0 ≤ y by omega)
    omega
  · rw [hx, Int.natAbs_mul, Int.natAbs_natCast]
    exact Nat.le_mul_of_pos_left _ g0
theorem gcd_step {a b : Int} (hb : 0 < b) (ha : 0 ≤ a) : Int.gcd b (a % b) = Int.gcd a b := by
  have e : a = (a.natAbs : Int) := by omega
  have f : b = (b.natAbs : Int) := by omega
  rw [Int.gcd_comm a b, e, f, ← Int.natCast_emod]
  show Nat.gcd _ _ = Nat.gcd _ _
  simp only [Int.natAbs_natCast]
  rw [Nat.gcd_comm b.natAbs (a.natAbs % b.natAbs), ← Nat.gcd_rec]
def Sz (k : Nat) (z : Int) : Prop := z.natAbs < 2 ^ k
theorem Sz.mono {j k : Nat} {z : Int} (h : Sz j z) (e : j ≤ k) : Sz k z := Nat.lt_of_lt_of_le h (Nat.pow_le_pow_right (by decide) e)
theorem Sz.mul {j k : Nat} {x y : Int} (h : Sz j x) (g : Sz k y) : Sz (j + k) (x * y) := by
  unfold Sz at *
  rw [Int.natAbs_mul, Nat.pow_add]
  exact Nat.mul_lt_mul'' h g
theorem Sz.add {k : Nat} {x y : Int} (h : Sz k x) (g : Sz k y) : Sz (k + 1) (x + y) := by
  unfold Sz at *
  rw [Nat.pow_succ]
  omega
theorem Sz.sub {k : Nat} {x y : Int} (h : Sz k x) (g : Sz k y) : Sz (k + 1) (x - y) := by
  unfold Sz at *
  rw [Nat.pow_succ]
  omega
theorem Red.szt {n d t b : Int} {k : Nat} (r : Red n d t b) (h : Sz k n) : Sz k t := Nat.lt_of_le_of_lt r.lt h
theorem Red.szb {n d t b : Int} {k : Nat} (r : Red n d t b) (h : Sz k d) : Sz k b := by
  have := r.pos
  have := r.le
  unfold Sz at *
  omega
theorem Red.one {n t b : Int} (r : Red n 1 t b) : t = n ∧ b = 1 := by
  have h1 := r.pos
  have h2 := r.le
  have e : b = 1 := by omega
  have h3 := r.eq
  subst e
  omega
def dueF (h w : Nat → Int) (t b : Int) (f : Nat) : Nat → Int
  | 0 => 0
  | k + 1 => dueF h w t b f k + if h (f + k) * b < t then w (f + k) * (t - h (f + k) * b) else 0
def wetF (h : Nat → Int) (t b : Int) (f : Nat) : Nat → List Nat
  | 0 => []
  | k + 1 => wetF h t b f k ++ if h (f + k) * b < t then [f + k] else []
theorem wet_due (h w : Nat → Int) (t b : Int) (f : Nat) : ∀ k : Nat, t * ((wetF h t b f k).map w).sum - ((wetF h t b f k).map fun c => w c * h c).sum * b = dueF h w t b f k
  | 0 => by simp [wetF, dueF]
  | k + 1 => by
    have ih := wet_due h w t b f k
    unfold wetF dueF
    rw [← ih]
    split
    · rw [List.map_append, List.map_append, List.sum_append, List.sum_append]
      simp only [List.map_cons, List.map_nil, List.sum_cons, List.sum_nil, Int.add_zero]
      rw [Int.mul_add, Int.add_mul, Int.mul_sub, Int.mul_comm t (w (f + k)), Int.mul_assoc (w (f + k))]
      omega
    · simp
theorem due_scale {h w : Nat → Int} {t b p q : Int} {f : Nat} (hb : 0 < b) (hq : 0 < q) (e : t * q = p * b) : ∀ k : Nat, dueF h w t b f k * q = dueF h w p q f k * b
  | 0 => by simp [dueF]
  | k + 1 => by
    have ih := due_scale (h := h) (w := w) (f := f) hb hq e k
    unfold dueF
    have iff' : h (f + k) * b < t ↔ h (f + k) * q < p := by
      have e1 : h (f + k) * b * q = h (f + k) * q * b := by rw [Int.mul_assoc, Int.mul_comm b q, Int.mul_assoc]
      constructor
      · intro z
        have z2 := Int.mul_lt_mul_of_pos_right z hq
        rw [e, e1] at z2
        exact Int.lt_of_mul_lt_mul_right z2 (by omega)
      · intro z
        have z2 := Int.mul_lt_mul_of_pos_right z hb
        rw [← e, ← e1] at z2
        exact Int.lt_of_mul_lt_mul_right z2 (by omega)
    rw [Int.add_mul, Int.add_mul, ih]
    by_cases c : h (f + k) * b < t
    · rw [if_pos c, if_pos (iff'.mp c)]
      have e1 : h (f + k) * b * q = h (f + k) * q * b := by rw [Int.mul_assoc, Int.mul_comm b q, Int.mul_assoc]
      rw [Int.mul_assoc, Int.sub_mul, e, e1, ← Int.sub_mul, ← Int.mul_assoc]
    · rw [if_neg c, if_neg (fun z => c (iff'.mpr z))]
      simp
theorem vol_fin {n d t b p q x y : Int} (hb : 0 < b) (h1 : n * b = x * d) (h2 : x * q = y * b) : n * q = y * d := by
  have e : n * q * b = y * d * b := by
    rw [Int.mul_assoc, Int.mul_comm q b, ← Int.mul_assoc, h1, Int.mul_assoc, Int.mul_comm d q, ← Int.mul_assoc, h2, Int.mul_assoc, Int.mul_comm b d, ← Int.mul_assoc]
  exact Int.eq_of_mul_eq_mul_right (by omega) e
/-- level * wide - ground, in lowest terms twice -/
theorem vol_two {n1 d1 n d t b wide ground : Int} (h1 : n1 * (b * 1) = (t * wide) * d1) (p1 : 0 < d1) (h2 : n * (d1 * 1) = (n1 * 1 - ground * d1) * d) : n * b = (t * wide - ground * b) * d := by
  rw [Int.mul_one] at h1 h2
  rw [Int.mul_one] at h2
  have e : n * b * d1 = (t * wide - ground * b) * d * d1 := by
    rw [Int.mul_assoc, Int.mul_comm b d1, ← Int.mul_assoc, h2, Int.mul_assoc, Int.mul_comm d b, ← Int.mul_assoc, Int.sub_mul, h1, Int.mul_assoc ground d1 b, Int.mul_comm d1 b, ← Int.mul_assoc ground b d1, ← Int.sub_mul, Int.mul_assoc, Int.mul_comm d1 d, ← Int.mul_assoc]
  exact Int.eq_of_mul_eq_mul_right (by omega) e
theorem sum_bound {M : Nat} : ∀ {l : List Int}, (∀ x ∈ l, x.natAbs ≤ M) → l.sum.natAbs ≤ l.length * M
  | [], _ => by simp
  | x :: r, h => by
    have h1 := h x List.mem_cons_self
    have h2 := sum_bound fun y hy => h y (List.mem_cons_of_mem _ hy)
    rw [List.sum_cons, List.length_cons, Nat.add_mul]
    omega
theorem wet_len (h : Nat → Int) (t b : Int) (f : Nat) : ∀ k : Nat, (wetF h t b f k).length ≤ k
  | 0 => by simp [wetF]
  | k + 1 => by
    have := wet_len h t b f k
    unfold wetF
    rw [List.length_append]
    split <;> simp <;> omega
theorem wet_mem {h : Nat → Int} {t b : Int} {f c : Nat} : ∀ {k : Nat}, c ∈ wetF h t b f k → f ≤ c ∧ c < f + k
  | 0, m => by simp [wetF] at m
  | k + 1, m => by
    unfold wetF at m
    rcases List.mem_append.mp m with m | m
    · have := wet_mem m
      omega
    · split at m
      · simp at m
        omega
      · simp at m
/-! fractions in the heap -/
def rfl2 (t b : Int) : List (Str × V) := putF "reduced_bottom" (.int b) (putF "reduced_top" (.int t) [])
theorem n_tb : ¬ (("reduced_top" : Str) = "reduced_bottom") := by decide +kernel
theorem rfl2_t (t b : Int) : (rfl2 t b).lookup ("reduced_top" : Str) = some (.int t) := by
  unfold rfl2
  rw [lookup_putF, if_neg n_tb, lookup_putF, if_pos rfl]
theorem rfl2_b (t b : Int) : (rfl2 t b).lookup ("reduced_bottom" : Str) = some (.int b) := by
  unfold rfl2
  rw [lookup_putF, if_pos rfl]
/-- a Ratio t / b in lowest terms stands at p -/
def RatAt (C : Addr) (H : Hp) (p : Addr) (t b : Int) : Prop := (0 < b ∧ Int.gcd t b = 1) ∧ ∃ dx, H p = some (.ins C dx (rfl2 t b))
theorem RatAt.same {C : Addr} {H H' : Hp} {p : Addr} {t b : Int} (h : RatAt C H p t b) (e : Same H H') : RatAt C H' p t b := by
  obtain ⟨l, dx, h1⟩ := h
  exact ⟨l, dx, e _ _ h1⟩
/-- a number: an int or a Ratio -/
def Num (C : Addr) (H : Hp) (v : V) (n d : Int) : Prop := (v = .int n ∧ d = 1) ∨ ∃ p, v = .ref p ∧ RatAt C H p n d
theorem Num.same {C : Addr} {H H' : Hp} {v : V} {n d : Int} (h : Num C H v n d) (e : Same H H') : Num C H' v n d := by
  rcases h with h | ⟨p, h1, h2⟩
  · exact .inl h
  · exact .inr ⟨p, h1, h2.same e⟩
theorem Num.pos {C : Addr} {H : Hp} {v : V} {n d : Int} (h : Num C H v n d) : 0 < d := by
  rcases h with ⟨_, h⟩ | ⟨p, _, h, _⟩
  · omega
  · exact h.1
/-- what is told of the class Ratio -/
structure RCls (K : PySem.W.Frag) (C : Addr) : Prop where
  cl : Cls K C
  nT : NoAttr K C "reduced_top"
  nB : NoAttr K C "reduced_bottom"
  cA : PySem.W.findIn K (.ref C) "__class__" = some (some (.builtin "object.__class__"))
  cG : PySem.W.specialIn K (.builtin "object.__class__") "__get__" = some (some (.builtin "getset_descriptor.__get__"))
  cT : PySem.W.takesIn K (.builtin "object.__class__") = some true
  cM : PySem.W.mroIn K C (.type "object") = some true
  ki : PySem.W.kitOne K (.type "int") (.ref C) = some false
def spPLen (K : PySem.W.Frag) (C : Addr) : Sp := fun vs H Q _ => ∃ p hs ws, vs = [.ref p] ∧ PCls K C ∧ ProfAt K C H p hs ws ∧ Q (.int (hs.length : Int)) H
def spGcd (K : PySem.W.Frag) : Sp := fun vs H Q _ => ∃ a b : Int, vs = [.int a, .int b] ∧ 0 ≤ a ∧ 0 ≤ b ∧ Q (.int (Int.gcd a b : Int)) H
def spRInit (K : PySem.W.Frag) (C : Addr) : Sp := fun vs H Q _ => ∃ p dx n d, vs = [.ref p, .int n, .int d] ∧ RCls K C ∧ H p = some (.ins C dx []) ∧ 0 < d ∧ Sz 8000 d ∧
  ∀ H' t b, Red n d t b → RatAt C H' p t b → (∀ c o, c ≠ p → H c = some o → H' c = some o) → Q .non H'
def spGap (K : PySem.W.Frag) (C : Addr) : Sp := fun vs H Q _ => ∃ a c t b n d, vs = [.ref a, .ref c] ∧ RCls K C ∧ RatAt C H a t b ∧ RatAt C H c n d ∧ Sz 4000 t ∧ Sz 4000 b ∧ Sz 4000 n ∧ Sz 4000 d ∧ Q (.int (t * d - n * b)) H
def spAsR (K : PySem.W.Frag) (C : Addr) : Sp := fun vs H Q _ => ∃ v n d, vs = [v] ∧ RCls K C ∧ Num C H v n d ∧ ∀ q H', Same H H' → RatAt C H' q n d → Q (.ref q) H'
def spChkN (K : PySem.W.Frag) (C : Addr) : Sp := spAsR K C
def spBin (f : Int → Int → Int → Int → Int) (K : PySem.W.Frag) (C : Addr) : Sp := fun vs H Q _ => ∃ a v t b n d, vs = [.ref a, v] ∧ RCls K C ∧ RatAt C H a t b ∧ Num C H v n d ∧ Sz 3000 t ∧ Sz 3000 b ∧ Sz 3000 n ∧ Sz 3000 d ∧
  ∀ q H' x y, Same H H' → RatAt C H' q x y → Red (f t b n d) (b * d) x y → Q (.ref q) H'
def spMul : PySem.W.Frag → Addr → Sp := spBin fun t _ n _ => t * n
def spSub : PySem.W.Frag → Addr → Sp := spBin fun t b n d => t * d - n * b
def spAdd : PySem.W.Frag → Addr → Sp := spBin fun t b n d => t * d + n * b
def spCmp (f : Int → Bool) (K : PySem.W.Frag) (C : Addr) : Sp := fun vs H Q _ => ∃ a v t b n d, vs = [.ref a, v] ∧ RCls K C ∧ RatAt C H a t b ∧ Num C H v n d ∧ Sz 3000 t ∧ Sz 3000 b ∧ Sz 3000 n ∧ Sz 3000 d ∧
  ∀ H', Same H H' → Q (.bl (f (t * d - n * b))) H'
def spGt : PySem.W.Frag → Addr → Sp := spCmp fun z => decide (0 < z)
def spLe : PySem.W.Frag → Addr → Sp := spCmp fun z => decide (z ≤ 0)
/-- heights and widths of a profile -/
structure PrOk (hs ws : List Int) : Prop where
  pos : 1 ≤ hs.length
  le : hs.length ≤ 60
  eq : ws.length = hs.length
  hh : ∀ z ∈ hs, HOk1 z
  ww : ∀ z ∈ ws, WOk1 z
def spIsCol (K : PySem.W.Frag) (C : Addr) : Sp := fun vs H Q _ => ∃ p hs ws, ∃ c : Int, vs = [.ref p, .int c] ∧ PCls K C ∧ ProfAt K C H p hs ws ∧ hs.length ≤ 60 ∧ Q (.bl (decide (0 ≤ c) && decide (c ≤ (hs.length : Int) - 1))) H
def spChkCol (K : PySem.W.Frag) (C : Addr) : Sp := fun vs H Q _ => ∃ p hs ws, ∃ c : Nat, vs = [.ref p, .int (c : Int)] ∧ PCls K C ∧ ProfAt K C H p hs ws ∧ hs.length ≤ 60 ∧ c < hs.length ∧ Q .non H
def spChkRun (K : PySem.W.Frag) (C : Addr) : Sp := fun vs H Q _ => ∃ p hs ws, ∃ f l : Nat, vs = [.ref p, .int (f : Int), .int (l : Int)] ∧ PCls K C ∧ ProfAt K C H p hs ws ∧ hs.length ≤ 60 ∧ f ≤ l ∧ l < hs.length ∧ Q .non H
def hN (hs : List Int) (i : Nat) : Int := (hs[i]?).getD 0
theorem at_hN {hs : List Int} {i : Nat} (h : i < hs.length) : atI (hs.map V.int) (i : Int) = some (.int (hN hs i)) := by
  refine at_nat ?_
  rw [List.getElem?_map]
  unfold hN
  rw [List.getElem?_eq_getElem h]
  rfl
theorem hN_mem {hs : List Int} {i : Nat} (h : i < hs.length) : hN hs i ∈ hs := by
  unfold hN
  rw [List.getElem?_eq_getElem h]
  exact List.getElem_mem h
def spVolB (K : PySem.W.Frag) (CP CR : Addr) : Sp := fun vs H Q _ => ∃ p hs ws, ∃ f l : Nat, ∃ q t b, vs = [.ref p, .int (f : Int), .int (l : Int), .ref q] ∧ PCls K CP ∧ RCls K CR ∧ ProfAt K CP H p hs ws ∧ PrOk hs ws ∧ f ≤ l ∧ l < hs.length ∧ RatAt CR H q t b ∧ Sz 1000 t ∧ Sz 1000 b ∧
  ∀ r H' n d, Same H H' → RatAt CR H' r n d → n * b = dueF (hN hs) (hN ws) t b f (l + 1 - f) * d → Sz 2000 n → Sz 1000 d → Q (.ref r) H'
def spVolU (K : PySem.W.Frag) (CP CR : Addr) : Sp := fun vs H Q _ => ∃ p hs ws, ∃ f l : Nat, ∃ v t b, vs = [.ref p, .int (f : Int), .int (l : Int), v] ∧ PCls K CP ∧ RCls K CR ∧ ProfAt K CP H p hs ws ∧ PrOk hs ws ∧ f ≤ l ∧ l < hs.length ∧ Num CR H v t b ∧ Sz 1000 t ∧ Sz 1000 b ∧
  ∀ r H' n d, Same H H' → RatAt CR H' r n d → n * b = dueF (hN hs) (hN ws) t b f (l + 1 - f) * d → Sz 2000 n → Sz 1000 d → Q (.ref r) H'
def t_Profile___len__ (K : PySem.W.Frag) (C_Profile : Addr) : TS :=
  (tRet (tCB (cLen K) (tCons (tFld K (tVar 0) "column_heights") tNil)))
def t_common_divisor (K : PySem.W.Frag) : TS :=
  (tSeq (tWhile (tTest (tOp rNe (tVar 1) (tC (.int 0)))) (tPar 0 1 (tCons (tVar 1) (tCons (tOp oMod (tVar 0) (tVar 1)) tNil))))
    (tRet (tVar 0)))
def t_gap (K : PySem.W.Frag) (C_Ratio : Addr) : TS :=
  (tRet (tOp oSub (tOp oMulW (tFld K (tVar 0) "reduced_top") (tFld K (tVar 1) "reduced_bottom")) (tOp oMulW (tFld K (tVar 1) "reduced_top") (tFld K (tVar 0) "reduced_bottom"))))
def t_Ratio___init__ (K : PySem.W.Frag) (C_Ratio : Addr) : TS :=
  (tSeq (tIfS (tNot (tB (tCall (spWhole K) [] E0 (tCons (tVar 1) tNil)))) tNever tNext)
    (tSeq (tIfS (tOr (tNot (tB (tCall (spWhole K) [] E0 (tCons (tVar 2) tNil)))) (tTest (tOp rEq (tVar 2) (tC (.int 0))))) tNever tNext)
    (tSeq (tAsg (tCall (spGcd K) [] E0 (tCons (tCB cAbs (tCons (tVar 1) tNil)) (tCons (tCB cAbs (tCons (tVar 2) tNil)) tNil))) (gName 3))
    (tSeq (tIfS (tTest (tOp oLt (tVar 2) (tC (.int 0)))) (tAsg (tUn (rU fun i => .int (-i)) (tVar 3)) (gName 3)) tNext)
    (tSeq (sFld K (tVar 0) (tOp oDiv (tVar 1) (tVar 3)) "reduced_top")
    (sFld K (tVar 0) (tOp oDiv (tVar 2) (tVar 3)) "reduced_bottom"))))))
def t_as_ratio (K : PySem.W.Frag) (C_Ratio : Addr) : TS :=
  (tSeq (tIfS (tB (tCB (rIsi K) (tCons (tVar 0) (tCons (tC (.ref C_Ratio)) tNil)))) (tRet (tVar 0)) tNext)
    (tSeq (tIfS (tB (tCall (spWhole K) [] E0 (tCons (tVar 0) tNil))) (tRet (tMake C_Ratio (spRInit K C_Ratio) [.int 1] E0 (tCons (tVar 0) tNil))) tNext)
    (tRet (tC .non))))
def t_Ratio___mul__ (K : PySem.W.Frag) (C_Ratio : Addr) : TS :=
  (tSeq (tAsg (tCall (spAsR K C_Ratio) [] E0 (tCons (tVar 1) tNil)) (gName 2))
    (tSeq (tIfS (tTest (tOp oIsN (tVar 2) (tC .non))) tNever tNext)
    (tRet (tMake C_Ratio (spRInit K C_Ratio) [] E0 (tCons (tOp oMulW (tFld K (tVar 0) "reduced_top") (tFld K (tVar 2) "reduced_top")) (tCons (tOp oMulW (tFld K (tVar 0) "reduced_bottom") (tFld K (tVar 2) "reduced_bottom")) tNil))))))
def t_Ratio___sub__ (K : PySem.W.Frag) (C_Ratio : Addr) : TS :=
  (tSeq (tAsg (tCall (spAsR K C_Ratio) [] E0 (tCons (tVar 1) tNil)) (gName 2))
    (tSeq (tIfS (tTest (tOp oIsN (tVar 2) (tC .non))) tNever tNext)
    (tRet (tMake C_Ratio (spRInit K C_Ratio) [] E0 (tCons (tCall (spGap K C_Ratio) [] E0 (tCons (tVar 0) (tCons (tVar 2) tNil))) (tCons (tOp oMulW (tFld K (tVar 0) "reduced_bottom") (tFld K (tVar 2) "reduced_bottom")) tNil))))))
def t_Ratio___gt__ (K : PySem.W.Frag) (C_Ratio : Addr) : TS :=
  (tSeq (tAsg (tCall (spAsR K C_Ratio) [] E0 (tCons (tVar 1) tNil)) (gName 2))
    (tSeq (tIfS (tTest (tOp oIsN (tVar 2) (tC .non))) tNever tNext)
    (tRet (tOp oGt (tCall (spGap K C_Ratio) [] E0 (tCons (tVar 0) (tCons (tVar 2) tNil))) (tC (.int 0))))))
def t_checked_number (K : PySem.W.Frag) (C_Ratio : Addr) : TS :=
  (tSeq (tAsg (tCall (spAsR K C_Ratio) [] E0 (tCons (tVar 0) tNil)) (gName 1))
    (tSeq (tIfS (tTest (tOp oIsN (tVar 1) (tC .non))) tNever tNext)
    (tRet (tVar 1))))
def t_is_column (K : PySem.W.Frag) (C_Profile : Addr) : TS :=
  (tRet (tCall (spWithin K) [] E0 (tCons (tVar 1) (tCons (tC (.int 0)) (tCons (tOp oSub (tCB (cLenO C_Profile (spPLen K C_Profile) E0) (tCons (tVar 0) tNil)) (tC (.int 1))) tNil)))))
def t_check_column (K : PySem.W.Frag) (C_Profile : Addr) : TS :=
  (tIfS (tNot (tB (tCall (spIsCol K C_Profile) [] E0 (tCons (tVar 0) (tCons (tVar 1) tNil))))) tNever tNext)
def t_check_run (K : PySem.W.Frag) (C_Profile : Addr) : TS :=
  (tSeq (tDrop (tCall (spChkCol K C_Profile) [] E0 (tCons (tVar 0) (tCons (tVar 1) tNil))))
    (tIfS (tNot (tB (tCall (spWithin K) [] E0 (tCons (tVar 2) (tCons (tVar 1) (tCons (tOp oSub (tCB (cLenO C_Profile (spPLen K C_Profile) E0) (tCons (tVar 0) tNil)) (tC (.int 1))) tNil)))))) tNever tNext))
def t_volume_below (K : PySem.W.Frag) (C_Profile : Addr) (C_Ratio : Addr) : TS :=
  (tSeq (tAsg (tProp C_Profile (getSp C_Profile "column_heights") [] E0 (tVar 0)) (gName 4))
    (tSeq (tAsg (tProp C_Profile (getSp C_Profile "column_widths") [] E0 (tVar 0)) (gName 5))
    (tSeq (tAsg (tLc (iRng2 (tCons (tVar 1) (tCons (tOp oAdd (tVar 2) (tC (.int 1))) tNil))) (gName 9) (tTest (tOp (rOwn C_Ratio (spGt K C_Ratio) E0) (tVar 3) (tOp (rIxT K) (tVar 4) (tVar 9)))) (tVar 9) [9]) (gName 6))
    (tSeq (tAsg (tCB (rSum K) (tCons (tLc (iList K (tVar 6)) (gName 9) tYes (tOp (rIxT K) (tVar 5) (tVar 9)) [9]) tNil)) (gName 7))
    (tSeq (tAsg (tCB (rSum K) (tCons (tLc (iList K (tVar 6)) (gName 9) tYes (tOp oMulW (tOp (rIxT K) (tVar 5) (tVar 9)) (tOp (rIxT K) (tVar 4) (tVar 9))) [9]) tNil)) (gName 8))
    (tRet (tOp (rOwnI C_Ratio (spSub K C_Ratio) E0) (tOp (rOwnI C_Ratio (spMul K C_Ratio) E0) (tVar 3) (tVar 7)) (tVar 8))))))))
def t_volume_up_to (K : PySem.W.Frag) (C_Profile : Addr) (C_Ratio : Addr) : TS :=
  (tSeq (tDrop (tCall (spChkRun K C_Profile) [] E0 (tCons (tVar 0) (tCons (tVar 1) (tCons (tVar 2) tNil)))))
    (tRet (tCall (spVolB K C_Profile C_Ratio) [] E0 (tCons (tVar 0) (tCons (tVar 1) (tCons (tVar 2) (tCons (tCall (spChkN K C_Ratio) [] E0 (tCons (tVar 3) tNil)) tNil)))))))
local macro_rules | `(tactic| walk_at "rv st") => `(tactic| first
  | with_reducible refine iteT ?_ | with_reducible refine iteF ?_ | with_reducible refine w_nx ?_ | with_reducible refine w_yes ?_ | with_reducible refine w_rt ?_ | with_reducible refine iteNT ?_ | with_reducible refine iteNF ?_ | with_reducible refine iteNRf ?_ | with_reducible refine iteRf ?_ | with_reducible refine w_seqA ?_ | with_reducible refine w_seqD ?_ | with_reducible refine w_seqP ?_ | with_reducible refine w_asg ?_ | with_reducible refine w_ret ?_ | with_reducible refine w_drop ?_ | with_reducible refine w_ifs ?_ | with_reducible refine w_next ?_ | with_reducible refine w_par ?_
  | with_reducible refine w_op ?_ | with_reducible refine w_un ?_ | ((with_reducible show tVar _ _ _ _); refine' w_var ?hv ?_; (case hv => exact rfl)) | with_reducible refine w_c ?_ | with_reducible refine w_test ?_ | with_reducible refine w_tB ?_
  | with_reducible refine w_bl ?_ | with_reducible refine w_I0 ?_ | with_reducible refine w_U ?_ | with_reducible refine w_eqI ?_ | with_reducible refine w_neI ?_
  | with_reducible refine w_cons ?_ | with_reducible refine w_nil ?_ | with_reducible refine w_gn ?_ | with_reducible refine w_gsub ?_ | with_reducible refine w_and ?_ | with_reducible refine w_or ?_ | with_reducible refine w_not ?_
  | with_reducible refine w_andV ?_ | with_reducible refine w_orV ?_ | with_reducible refine w_notV ?_ | with_reducible refine w_if ?_ | with_reducible refine w_cb ?_ | with_reducible refine w_call ?_ | with_reducible refine w_lst ?_ | with_reducible refine w_tup ?_
  | with_reducible refine w_sl ?_ | with_reducible refine w_noPart ?_ | with_reducible refine w_part ?_ | with_reducible refine w_ex1 ?_ | with_reducible refine w_exb ?_ | with_reducible refine w_intB ?_ | with_reducible refine w_intI ?_ | with_reducible refine w_abs ?_)
local macro_rules | `(tactic| walk_at "rv ix") => `(tactic| ((with_reducible show rIxL _ _ _ _ _); refine' w_ixL (sq_lst ?ha) ?hb ?_; (case ha => first | exact upd_same | assumption); (case hb => first | exact rfl | assumption)))
local macro_rules | `(tactic| walk_at "rv ar") => `(tactic| first
  | (refine' w_I ?hc ?_; (case hc => first | (show (0 : Int) < _; first | assumption | decide | omega) | exact pow_c (by decide) (by decide) (by first | decide | omega) (by first | decide | omega) | exact mul_r (by first | decide | omega) (by first | decide | omega) | exact mul_l (by first | decide | omega) (by first | decide | omega) | exact divw (by first | assumption | decide | omega) (by first | assumption | decide | omega))))
local macro_rules | `(tactic| walk_at "rv go") => `(tactic| repeat first | walk_at "rv st" | walk_at "rv ix" | ((with_reducible show rI _ _ _ _ _ _); walk_at "rv ar"))
theorem whole_call {K : PySem.W.Frag} {H : Hp} {Q : VK} {E : XK} {i : Int} (q : Q (.bl true) H) : spWhole K ([.int i] ++ []) H Q E := ⟨.int i, rfl, .int i, q⟩
theorem mulw {j k : Nat} {x y : Int} (h : Sz j x) (g : Sz k y) (h0 : 0 < j) (h1 : 0 < k) (h2 : j + k ≤ 1000000) : CMulW x y := wide_mul h g h0 h1 h2
theorem p_plen {K : PySem.W.Frag} {C : Addr} {vs : List V} {H : Hp} {Q : VK} {E : XK} (h : spPLen K C vs H Q E) : t_Profile___len__ K C { nx := fun _ H' => Q .non H', rt := Q } (start ["self"] vs) H := by
  obtain ⟨p, hs, ws, rfl, P, ⟨dx, t1, t2, hp, h1, h2⟩, k⟩ := h
  unfold t_Profile___len__
  walk_at "rv go"
  refine w_fld rfl hp P.cl P.nH (pfl_h _ _) ?_
  walk_at "rv go"
  refine w_lenT (sq_tup h1) ?_
  rw [List.length_map]
  exact k
theorem p_gcd {K : PySem.W.Frag} {vs : List V} {H : Hp} {Q : VK} {E : XK} (h : spGcd K vs H Q E) : t_common_divisor K { nx := fun _ H' => Q .non H', rt := Q } (start ["first", "second"] vs) H := by
  obtain ⟨a, b, rfl, ha, hb, k⟩ := h
  unfold t_common_divisor
  refine w_seq ?_
  refine w_while (fun m σ' H' => ∃ x y : Int, σ' = [some (.int x), some (.int y)] ∧ 0 ≤ x ∧ 0 ≤ y ∧ m = y.toNat ∧ Int.gcd x y = Int.gcd a b ∧ H' = H) (m := b.toNat) ⟨a, b, rfl, ha, hb, rfl, rfl, rfl⟩ ?_
  rintro m σ' H' ⟨x, y, rfl, hx, hy, rfl, e, rfl⟩
  walk_at "rv go"
  refine w_bothN (fun h1 => ?_) (fun h1 => ?_)
  · refine w_turn ?_
    have y0 : 0 < y := by omega
    have z1 := Int.emod_lt_of_pos x y0
    have z2 := Int.emod_nonneg x (show y ≠ 0 by omega)
    walk_at "rv go"
    refine ⟨_, _, rfl, ?_⟩
    exact ⟨(x % y).toNat, by omega, y, x % y, rfl, hy, z2, rfl, by rw [gcd_step y0 hx]; exact e, rfl⟩
  · subst h1
    walk_at "rv go"
    rw [← e, Int.gcd_zero_right] at k
    have e2 : ((x.natAbs : Nat) : Int) = x := by omega
    rw [e2] at k
    exact k
theorem p_gap {K : PySem.W.Frag} {C : Addr} {vs : List V} {H : Hp} {Q : VK} {E : XK} (h : spGap K C vs H Q E) : t_gap K C { nx := fun _ H' => Q .non H', rt := Q } (start ["left", "right"] vs) H := by
  obtain ⟨a, c, t, b, n, d, rfl, R, ⟨l1, dx, h1⟩, ⟨l2, dy, h2⟩, s1, s2, s3, s4, k⟩ := h
  unfold t_gap
  walk_at "rv go"
  refine w_fld rfl h1 R.cl R.nT (rfl2_t _ _) ?_
  refine w_fld rfl h2 R.cl R.nB (rfl2_b _ _) ?_
  refine w_I (mulw s1 s4 (by decide) (by decide) (by decide)) ?_
  walk_at "rv go"
  refine w_fld rfl h2 R.cl R.nT (rfl2_t _ _) ?_
  refine w_fld rfl h1 R.cl R.nB (rfl2_b _ _) ?_
  refine w_I (mulw s3 s2 (by decide) (by decide) (by decide)) ?_
  walk_at "rv go"
  exact k
theorem p_rinit {K : PySem.W.Frag} {C : Addr} {vs : List V} {H : Hp} {Q : VK} {E : XK} (h : spRInit K C vs H Q E) : t_Ratio___init__ K C { nx := fun _ H' => Q .non H', rt := Q } (start ["self", "numerator", "denominator", "divisor"] vs) H := by
  obtain ⟨p, dx, n, d, rfl, R, hp, hd, sd, k⟩ := h
  unfold t_Ratio___init__
  refine w_seq ?_
  walk_at "rv go"
  refine whole_call ?_
  walk_at "rv go"
  refine w_seq ?_
  walk_at "rv go"
  refine whole_call ?_
  walk_at "rv go"
  rw [decide_eq_false (show ¬ d = 0 by omega)]
  walk_at "rv go"
  refine ⟨_, _, rfl, by split <;> omega, by split <;> omega, ?_⟩
  have eg : Int.gcd (if n < 0 then -n else n) (if d < 0 then -d else d) = Int.gcd n d := by
    have e1 : (if n < 0 then -n else n).natAbs = n.natAbs := by split <;> omega
    have e2 : (if d < 0 then -d else d).natAbs = d.natAbs := by split <;> omega
    show Nat.gcd _ _ = Nat.gcd _ _
    rw [e1, e2]
  rw [eg]
  have red := red_gcd (n := n) hd
  have g0 : 0 < Int.gcd n d := Int.gcd_pos_iff.mpr (.inr (by omega))
  have gd : Int.gcd n d ≤ d.natAbs := by
    have := Int.gcd_dvd_right (a := n) (b := d)
    have z := Int.le_of_dvd hd this
    omega
  have sg : Sz 8000 (Int.gcd n d : Int) := by
    unfold Sz at *
    rw [Int.natAbs_natCast]
    omega
  have cd : ∀ z : Int, CDivW z (Int.gcd n d : Int) := fun z => wide_div (b := 8000) (by omega) sg (by decide) (by decide)
  generalize (Int.gcd n d : Int) = g at *
  walk_at "rv go"
  refine w_seq ?_
  walk_at "rv go"
  rw [decide_eq_false (show ¬ d < 0 by omega)]
  walk_at "rv go"
  refine w_seq ?_
  refine w_sfld ?_
  walk_at "rv go"
  refine w_I (cd _) ?_
  walk_at "rv go"
  refine w_put hp R.cl R.nT (by decide) ?_
  refine w_nx ?_
  refine w_sfld ?_
  walk_at "rv go"
  refine w_I (cd _) ?_
  walk_at "rv go"
  refine w_put (fs := putF "reduced_top" (.int (n / g)) []) upd_same R.cl R.nB (by show (1 : Nat) < 1000; decide) ?_
  refine k _ _ _ red ⟨⟨red.pos, red.low⟩, dx, upd_same⟩ fun c o nc hc => ?_
  rw [upd_ne nc, upd_ne nc]
  exact hc
theorem mk_rat {K : PySem.W.Frag} {C : Addr} {H : Hp} {Q : Addr → Hp → Prop} {E : XK} {n d : Int} {us dvs : List V} (hu : us ++ dvs = [.int n, .int d]) (R : RCls K C) (hd : 0 < d) (sd : Sz 8000 d) (k : ∀ x H' t b, Same H H' → Red n d t b → RatAt C H' x t b → Q x H') :
    ∀ x dx, H x = none → H dx = none → dx ≠ x → spRInit K C (.ref x :: (us ++ dvs)) (upd (upd H dx (.own x)) x (.ins C dx [])) (fun v H2 => v = .non ∧ Q x H2) E := by
  intro x dx nx ndx hne
  rw [hu]
  have s0 : Same H (upd (upd H dx (.own x)) x (.ins C dx [])) := fun b o hb => by
    rw [upd_ne (ne_of_none hb nx), upd_ne (ne_of_none hb ndx)]
    exact hb
  exact ⟨x, dx, n, d, rfl, R, upd_same, hd, sd, fun H' t b r hr hf => ⟨rfl, k x H' t b (fun b o hb => hf b o (ne_of_none hb nx) (s0 b o hb)) r hr⟩⟩
theorem sz_one {k : Nat} (h : 1 ≤ k) : Sz k 1 := Nat.lt_of_lt_of_le (show Int.natAbs 1 < 2 ^ 1 by decide) (Nat.pow_le_pow_right (by decide) h)
theorem p_asR {K : PySem.W.Frag} {C : Addr} {vs : List V} {H : Hp} {Q : VK} {E : XK} (h : spAsR K C vs H Q E) : t_as_ratio K C { nx := fun _ H' => Q .non H', rt := Q } (start ["value"] vs) H := by
  obtain ⟨v, n, d, rfl, R, hv, k⟩ := h
  unfold t_as_ratio
  refine w_seq ?_
  rcases hv with ⟨rfl, rfl⟩ | ⟨p, rfl, hl, dx, hp⟩
  · walk_at "rv go"
    refine isi_of (.own C) (.base (.int n)) R.ki ?_
    walk_at "rv go"
    refine w_seq ?_
    walk_at "rv go"
    refine whole_call ?_
    walk_at "rv go"
    refine w_make ?_
    walk_at "rv go"
    refine mk_rat (Q := fun x H' => Q (.ref x) H') rfl R (by decide) (sz_one (by decide)) fun x H' t b e r hr => ?_
    obtain ⟨rfl, rfl⟩ := r.one
    exact k x H' e hr
  · walk_at "rv go"
    refine isi_of (.own C) (.base (.ins hp R.cl R.cA R.cG R.cT R.cM)) kit_self ?_
    walk_at "rv go"
    exact k p H (Same.refl H) ⟨hl, dx, hp⟩
theorem p_chkN {K : PySem.W.Frag} {C : Addr} {vs : List V} {H : Hp} {Q : VK} {E : XK} (h : spChkN K C vs H Q E) : t_checked_number K C { nx := fun _ H' => Q .non H', rt := Q } (start ["value", "found"] vs) H := by
  obtain ⟨v, n, d, rfl, R, hv, k⟩ := h
  unfold t_checked_number
  walk_at "rv go"
  refine ⟨v, n, d, rfl, R, hv, fun q H' e hq => ?_⟩
  walk_at "rv go"
  refine w_seq ?_
  walk_at "rv go"
  refine ⟨rfl, ?_⟩
  rw [decide_eq_false (show ¬ V.ref q = V.non from fun z => nomatch z)]
  walk_at "rv go"
  exact k q H' e hq
theorem p_mul {K : PySem.W.Frag} {C : Addr} {vs : List V} {H : Hp} {Q : VK} {E : XK} (h : spMul K C vs H Q E) : t_Ratio___mul__ K C { nx := fun _ H' => Q .non H', rt := Q } (start ["self", "other", "right"] vs) H := by
  obtain ⟨a, v, t, b, n, d, rfl, R, ha, hv, s1, s2, s3, s4, k⟩ := h
  unfold t_Ratio___mul__
  walk_at "rv go"
  refine ⟨v, n, d, rfl, R, hv, fun q H1 e hq => ?_⟩
  have hd := hv.pos
  obtain ⟨l1, dx, ha⟩ := ha.same e
  obtain ⟨l2, dy, hq⟩ := hq
  walk_at "rv go"
  refine w_seq ?_
  walk_at "rv go"
  refine ⟨rfl, ?_⟩
  rw [decide_eq_false (show ¬ V.ref q = V.non from fun z => nomatch z)]
  walk_at "rv go"
  refine w_make ?_
  walk_at "rv go"
  refine w_fld rfl ha R.cl R.nT (rfl2_t _ _) ?_
  refine w_fld rfl hq R.cl R.nT (rfl2_t _ _) ?_
  refine w_I (mulw s1 s3 (by decide) (by decide) (by decide)) ?_
  walk_at "rv go"
  refine w_fld rfl ha R.cl R.nB (rfl2_b _ _) ?_
  refine w_fld rfl hq R.cl R.nB (rfl2_b _ _) ?_
  refine w_I (mulw s2 s4 (by decide) (by decide) (by decide)) ?_
  walk_at "rv go"
  exact mk_rat (Q := fun x H' => Q (.ref x) H') rfl R (Int.mul_pos l1.1 hd) ((s2.mul s4).mono (by decide)) fun x H' y z e2 r hr => k x H' y z (e.trans e2) hr r
theorem p_sub {K : PySem.W.Frag} {C : Addr} {vs : List V} {H : Hp} {Q : VK} {E : XK} (h : spSub K C vs H Q E) : t_Ratio___sub__ K C { nx := fun _ H' => Q .non H', rt := Q } (start ["self", "other", "right"] vs) H := by
  obtain ⟨a, v, t, b, n, d, rfl, R, ha, hv, s1, s2, s3, s4, k⟩ := h
  unfold t_Ratio___sub__
  walk_at "rv go"
  refine ⟨v, n, d, rfl, R, hv, fun q H1 e hq => ?_⟩
  have hd := hv.pos
  have ha2 := ha.same e
  obtain ⟨l1, dx, ha⟩ := ha.same e
  have hq2 := hq
  obtain ⟨l2, dy, hq⟩ := hq
  walk_at "rv go"
  refine w_seq ?_
  walk_at "rv go"
  refine ⟨rfl, ?_⟩
  rw [decide_eq_false (show ¬ V.ref q = V.non from fun z => nomatch z)]
  walk_at "rv go"
  refine w_make ?_
  walk_at "rv go"
  refine ⟨a, q, t, b, n, d, rfl, R, ha2, hq2, s1.mono (by decide), s2.mono (by decide), s3.mono (by decide), s4.mono (by decide), ?_⟩
  walk_at "rv go"
  refine w_fld rfl ha R.cl R.nB (rfl2_b _ _) ?_
  refine w_fld rfl hq R.cl R.nB (rfl2_b _ _) ?_
  refine w_I (mulw s2 s4 (by decide) (by decide) (by decide)) ?_
  walk_at "rv go"
  exact mk_rat (Q := fun x H' => Q (.ref x) H') rfl R (Int.mul_pos l1.1 hd) ((s2.mul s4).mono (by decide)) fun x H' y z e2 r hr => k x H' y z (e.trans e2) hr r
theorem p_gt {K : PySem.W.Frag} {C : Addr} {vs : List V} {H : Hp} {Q : VK} {E : XK} (h : spGt K C vs H Q E) : t_Ratio___gt__ K C { nx := fun _ H' => Q .non H', rt := Q } (start ["self", "other", "right"] vs) H := by
  obtain ⟨a, v, t, b, n, d, rfl, R, ha, hv, s1, s2, s3, s4, k⟩ := h
  unfold t_Ratio___gt__
  walk_at "rv go"
  refine ⟨v, n, d, rfl, R, hv, fun q H1 e hq => ?_⟩
  walk_at "rv go"
  refine w_seq ?_
  walk_at "rv go"
  refine ⟨rfl, ?_⟩
  rw [decide_eq_false (show ¬ V.ref q = V.non from fun z => nomatch z)]
  walk_at "rv go"
  refine ⟨a, q, t, b, n, d, rfl, R, ha.same e, hq, s1.mono (by decide), s2.mono (by decide), s3.mono (by decide), s4.mono (by decide), ?_⟩
  walk_at "rv go"
  exact k H1 e
theorem p_isCol {K : PySem.W.Frag} {C : Addr} {vs : List V} {H : Hp} {Q : VK} {E : XK} (h : spIsCol K C vs H Q E) : t_is_column K C { nx := fun _ H' => Q .non H', rt := Q } (start ["profile", "value"] vs) H := by
  obtain ⟨p, hs, ws, c, rfl, P, hp, h60, k⟩ := h
  unfold t_is_column
  walk_at "rv go"
  obtain ⟨dx, t1, t2, h0, h1, h2⟩ := id hp
  refine w_lenO h0 ?_
  refine ⟨p, hs, ws, rfl, P, hp, _, rfl, by omega, ?_⟩
  walk_at "rv go"
  exact ⟨.int c, _, _, rfl, .int c, k⟩
theorem p_chkCol {K : PySem.W.Frag} {C : Addr} {vs : List V} {H : Hp} {Q : VK} {E : XK} (h : spChkCol K C vs H Q E) : t_check_column K C { nx := fun _ H' => Q .non H', rt := Q } (start ["profile", "value"] vs) H := by
  obtain ⟨p, hs, ws, c, rfl, P, hp, h60, hc, k⟩ := h
  unfold t_check_column
  walk_at "rv go"
  refine ⟨p, hs, ws, _, rfl, P, hp, h60, ?_⟩
  rw [decide_eq_true (show (0 : Int) ≤ (c : Int) by omega), decide_eq_true (show (c : Int) ≤ (hs.length : Int) - 1 by omega), Bool.true_and]
  walk_at "rv go"
  exact k
theorem p_chkRun {K : PySem.W.Frag} {C : Addr} {vs : List V} {H : Hp} {Q : VK} {E : XK} (h : spChkRun K C vs H Q E) : t_check_run K C { nx := fun _ H' => Q .non H', rt := Q } (start ["profile", "first", "last"] vs) H := by
  obtain ⟨p, hs, ws, f, l, rfl, P, hp, h60, hfl, hl, k⟩ := h
  unfold t_check_run
  walk_at "rv go"
  refine ⟨p, hs, ws, f, rfl, P, hp, h60, by omega, ?_⟩
  walk_at "rv go"
  obtain ⟨dx, t1, t2, h0, h1, h2⟩ := id hp
  refine w_lenO h0 ?_
  refine ⟨p, hs, ws, rfl, P, hp, _, rfl, by omega, ?_⟩
  walk_at "rv go"
  refine ⟨.int (l : Int), _, _, rfl, .int _, ?_⟩
  have e : inI (f : Int) ((hs.length : Int) - 1) (.int (l : Int)) = true := by
    show (decide _ && decide _) = true
    rw [decide_eq_true (show (f : Int) ≤ (l : Int) by omega), decide_eq_true (show (l : Int) ≤ (hs.length : Int) - 1 by omega)]
    rfl
  rw [e]
  walk_at "rv go"
  exact k
end Rv
/-! The head's tests of the classes Profile and Ratio. -/
namespace Rv
open PySem PySem.Spec PyProof.Rows L2
theorem pcls_of {K : PySem.W.Frag} (k : Cls K (He.ga K "Profile")) (nH : NoAttr K (He.ga K "Profile") "column_heights") (nW : NoAttr K (He.ga K "Profile") "column_widths") (h : clB K "Profile" = true) : PCls K (He.ga K "Profile") := by
  obtain ⟨h1, h⟩ := He.ba h
  obtain ⟨h2, h⟩ := He.ba h
  obtain ⟨h3, h4⟩ := He.ba h
  exact ⟨k, nH, nW, He.eqO_ok h1, He.eqO_ok h2, of_decide_eq_true h3, of_decide_eq_true h4⟩
def kiB (K : PySem.W.Frag) (x : Str) : Bool := decide (PySem.W.kitOne K (.type "int") (.ref (He.ga K x)) = some false)
theorem rcls_of {K : PySem.W.Frag} (k : Cls K (He.ga K "Ratio")) (nT : NoAttr K (He.ga K "Ratio") "reduced_top") (nB : NoAttr K (He.ga K "Ratio") "reduced_bottom") (h : clB K "Ratio" = true) (h5 : kiB K "Ratio" = true) : RCls K (He.ga K "Ratio") := by
  obtain ⟨h1, h⟩ := He.ba h
  obtain ⟨h2, h⟩ := He.ba h
  obtain ⟨h3, h4⟩ := He.ba h
  exact ⟨k, nT, nB, He.eqO_ok h1, He.eqO_ok h2, of_decide_eq_true h3, of_decide_eq_true h4, of_decide_eq_true h5⟩
def opcB (K : PySem.W.Frag) (x : Str) : Bool := PySem.W.notFirst K (He.ga K x) (.type "int") && (PySem.W.selfFirst K (He.ga K x) && decide (PySem.W.subIn K (.type "int") (.ref (He.ga K x)) = some false))
theorem opc_of {K : PySem.W.Frag} {x : Str} (h : opcB K x = true) : OpC K (He.ga K x) := by
  obtain ⟨h1, h⟩ := He.ba h
  obtain ⟨h2, h3⟩ := He.ba h
  exact ⟨h1, h2, of_decide_eq_true h3⟩
def refO : Option (Option Value) → Bool
  | some none => true
  | some (some (.ref _)) => true
  | _ => false
def opnB (K : PySem.W.Frag) (x : Str) (nm : String) : Bool := refO (PySem.W.findIn K (.ref (He.ga K x)) (PySem.dunderR nm)) && ((PySem.W.findIn K (.type "int") (PySem.dunder nm)).isSome && (PySem.W.findIn K (.type "int") (PySem.dunderR nm)).isSome)
theorem opn_of {K : PySem.W.Frag} {x : Str} {nm : String} (h : opnB K x nm = true) : OpN K (He.ga K x) nm := by
  obtain ⟨h1, h⟩ := He.ba h
  obtain ⟨h2, h3⟩ := He.ba h
  refine ⟨?_, Option.isSome_iff_exists.mp h2, Option.isSome_iff_exists.mp h3⟩
  cases q : PySem.W.findIn K (.ref (He.ga K x)) (PySem.dunderR nm) with
  | none =>
    rw [q] at h1
    cases h1
  | some o =>
    rw [q] at h1
    refine ⟨o, rfl, ?_⟩
    cases o with
    | none => exact .inl rfl
    | some v =>
      cases v with
      | ref g => exact .inr ⟨g, rfl⟩
      | _ => cases h1
end Rv
namespace Rv
open PySem PySem.Spec PyProof.Rows L2
local macro_rules | `(tactic| walk_at "rv st") => `(tactic| first
  | with_reducible refine iteT ?_ | with_reducible refine iteF ?_ | with_reducible refine w_nx ?_ | with_reducible refine w_yes ?_ | with_reducible refine w_rt ?_ | with_reducible refine iteNT ?_ | with_reducible refine iteNF ?_ | with_reducible refine iteNRf ?_ | with_reducible refine iteRf ?_ | with_reducible refine w_seqA ?_ | with_reducible refine w_seqD ?_ | with_reducible refine w_seqP ?_ | with_reducible refine w_asg ?_ | with_reducible refine w_ret ?_ | with_reducible refine w_drop ?_ | with_reducible refine w_ifs ?_ | with_reducible refine w_next ?_ | with_reducible refine w_par ?_
  | with_reducible refine w_op ?_ | with_reducible refine w_un ?_ | ((with_reducible show tVar _ _ _ _); refine' w_var ?hv ?_; (case hv => exact rfl)) | with_reducible refine w_c ?_ | with_reducible refine w_test ?_ | with_reducible refine w_tB ?_
  | with_reducible refine w_bl ?_ | with_reducible refine w_I0 ?_ | with_reducible refine w_U ?_ | with_reducible refine w_eqI ?_ | with_reducible refine w_neI ?_
  | with_reducible refine w_cons ?_ | with_reducible refine w_nil ?_ | with_reducible refine w_gn ?_ | with_reducible refine w_gsub ?_ | with_reducible refine w_and ?_ | with_reducible refine w_or ?_ | with_reducible refine w_not ?_
  | with_reducible refine w_andV ?_ | with_reducible refine w_orV ?_ | with_reducible refine w_notV ?_ | with_reducible refine w_if ?_ | with_reducible refine w_cb ?_ | with_reducible refine w_call ?_ | with_reducible refine w_lst ?_ | with_reducible refine w_tup ?_
  | with_reducible refine w_sl ?_ | with_reducible refine w_noPart ?_ | with_reducible refine w_part ?_ | with_reducible refine w_ex1 ?_ | with_reducible refine w_exb ?_ | with_reducible refine w_intB ?_ | with_reducible refine w_intI ?_ | with_reducible refine w_abs ?_)
local macro_rules | `(tactic| walk_at "rv ix") => `(tactic| ((with_reducible show rIxL _ _ _ _ _); refine' w_ixL (sq_lst ?ha) ?hb ?_; (case ha => first | exact upd_same | assumption); (case hb => first | exact rfl | assumption)))
local macro_rules | `(tactic| walk_at "rv ar") => `(tactic| first
  | (refine' w_I ?hc ?_; (case hc => first | (show (0 : Int) < _; first | assumption | decide | omega) | exact pow_c (by decide) (by decide) (by first | decide | omega) (by first | decide | omega) | exact mul_r (by first | decide | omega) (by first | decide | omega) | exact mul_l (by first | decide | omega) (by first | decide | omega) | exact divw (by first | assumption | decide | omega) (by first | assumption | decide | omega))))
local macro_rules | `(tactic| walk_at "rv go") => `(tactic| repeat first | walk_at "rv st" | walk_at "rv ix" | ((with_reducible show rI _ _ _ _ _ _); walk_at "rv ar"))
section
variable {K : PySem.W.Frag} {σ : L2.St} {H : Hp} {Q : VK} {slot : Nat} {tr : TA} {te : TE} {tt : TT}
/-- [e for x in range(lo, hi) if t] -/
theorem w_lcT2 {lo m : Nat} {hi : Int} (hm : m = (hi - (lo : Int)).toNat) (h1 : lo ≤ 100000) (h2 : -100000 ≤ hi ∧ hi ≤ 100000) (ha : ∀ AQ : List V → Hp → Prop, AQ [.int (lo : Int), .int hi] H → tr σ H AQ) (J : Addr → Nat → List V → Hp → Prop) (h0 : ∀ D, H D = none → J D 0 [] (upd H D (.lst [])))
    (hs : ∀ D i acc H1, i < m → J D i acc H1 → tt ((σ.set slot none).set slot (some (.int ((lo + i : Nat) : Int)))) H1 fun b H2 => if b = true then te ((σ.set slot none).set slot (some (.int ((lo + i : Nat) : Int)))) H2 fun y H3 => ∃ bcc, H3 D = some (.lst bcc) ∧ bcc.length < sizeLine ∧ ∃ ccc, J D (i + 1) ccc (upd H3 D (.lst (bcc ++ [y]))) else ∃ ccc, J D (i + 1) ccc H2)
    (hd : ∀ D acc H1, J D m acc H1 → Q (.ref D) H1) : tLc (iRng2 tr) (gName slot) tt te [slot] σ H Q := by
  refine ha _ ⟨(lo : Int), hi, rfl, ⟨by omega, by omega, by omega, by omega⟩, ?_⟩
  rw [← hm]
  intro D nD
  refine lc_range (fun i H1 => ∃ acc, J D i acc H1) ⟨[], h0 D nD⟩ ?_ (fun H1 ⟨acc, q⟩ => hd D acc H1 q)
  rintro i H1 hi' ⟨acc, q⟩
  refine ⟨?_, ?_⟩
  · show ((σ.set slot none).set slot _).set slot none = σ.set slot none
    rw [List.set_set, List.set_set]
  · have e : ((lo : Int) + (i : Int)) = ((lo + i : Nat) : Int) := by omega
    rw [e]
    exact hs D i acc H1 hi' q
end
section
variable {K : PySem.W.Frag} {σ : L2.St} {H : Hp} {Q : VK} {D : Ends} {slot : Nat} {tr : TA} {s1 : TS}
/-- for i in range(lo, hi): m turns -/
theorem w_forT2 {lo m : Nat} {hi : Int} (hm : m = (hi - (lo : Int)).toNat) (h1 : lo ≤ 100000) (h2 : -100000 ≤ hi ∧ hi ≤ 1000000) (ha : ∀ AQ : List V → Hp → Prop, AQ [.int (lo : Int), .int hi] H → tr σ H AQ) (Pv : Nat → L2.St → Hp → Prop) (h0 : Pv lo σ H)
    (hs : ∀ i σ' H', lo ≤ i → (i : Int) < hi → Pv i σ' H' → s1 { D with nx := Pv (i + 1), ct := Pv (i + 1), bk := D.nx } (σ'.set slot (some (.int (i : Int)))) H') (hd : ∀ σ' H', Pv (lo + m) σ' H' → D.nx σ' H') : tFor (iRng2 tr) (gName slot) s1 D σ H := by
  refine ha _ ⟨(lo : Int), hi, rfl, ⟨by omega, by omega, by omega, by omega⟩, ?_⟩
  rw [← hm]
  refine for_range (fun k => Pv (lo + k)) h0 (fun i σ' H' hi' q => ?_) hd
  show s1 _ (σ'.set slot (some (.int ((lo : Int) + (i : Int))))) H'
  have e : ((lo : Int) + (i : Int)) = ((lo + i : Nat) : Int) := by omega
  rw [e]
  exact hs (lo + i) σ' H' (Nat.le_add_right _ _) (by omega) q
end
theorem sz_lit {z : Int} {M k : Nat} (h : z.natAbs ≤ M) (e : M < 2 ^ k := by decide) : Sz k z := Nat.lt_of_le_of_lt h e
theorem hok_sz {z : Int} (h : HOk1 z) : z.natAbs ≤ 1000000000000000000000000000000 := by
  have h1 := h.1
  have h2 := h.2
  omega
theorem wok_sz {z : Int} (h : WOk1 z) : z.natAbs ≤ 1000000000000000000000000000000 := by
  have h1 := h.1
  have h2 := h.2
  omega
theorem p_volB {K : PySem.W.Frag} {CP CR : Addr} {vs : List V} {H : Hp} {Q : VK} {E : XK} (h : spVolB K CP CR vs H Q E) : t_volume_below K CP CR { nx := fun _ H' => Q .non H', rt := Q } (start ["profile", "first", "last", "level", "heights", "widths", "wet", "wide", "ground", "column"] vs) H := by
  obtain ⟨p, hs, ws, f, l, q, t, b, rfl, P, R, ⟨dx, t1, t2, hp, h1, h2⟩, ok, hfl, hl, hq, st, sb, k⟩ := h
  have h60 := ok.le
  have hwl := ok.eq
  unfold t_volume_below
  refine w_seqA ?_
  refine w_prop rfl hp ?_
  refine ⟨p, dx, _, _, rfl, hp, pfl_h _ _, ?_⟩
  walk_at "rv go"
  refine w_prop rfl hp ?_
  refine ⟨p, dx, _, _, rfl, hp, pfl_w _ _, ?_⟩
  walk_at "rv go"
  -- the wet columns
  refine w_lcT2 (lo := f) (m := l + 1 - f) (hi := (l : Int) + 1) (by omega) (by omega) ⟨by omega, by omega⟩ (fun AQ q => by walk_at "rv go"; exact q)
    (fun D i acc H' => Same H H' ∧ H D = none ∧ H' D = some (.lst acc) ∧ acc = (wetF (hN hs) t b f i).map (fun c : Nat => V.int (c : Int)) ∧ acc.length ≤ i)
    (fun D nD => ⟨same_new (Same.refl H) nD, nD, upd_same, rfl, Nat.le_refl _⟩) ?_ ?_
  · rintro D i acc H' hi ⟨e, nD, hD, hacc, hl2⟩
    have hil : f + i < hs.length := by omega
    walk_at "rv go"
    refine w_ixT (sq_tup (e _ _ h1)) (at_hN hil) ?_
    obtain ⟨lw, dq, hq'⟩ := hq.same e
    refine w_ownI hq' ?_
    have shz : Sz 3000 (hN hs (f + i)) := sz_lit (hok_sz (ok.hh _ (hN_mem hil)))
    refine ⟨q, _, t, b, _, 1, rfl, R, ⟨lw, dq, hq'⟩, .inl ⟨rfl, rfl⟩, st.mono (by decide), sb.mono (by decide), shz, sz_one (by decide), fun H2 e2 => ?_⟩
    walk_at "rv go"
    have hD2 := e2 _ _ hD
    have ew : wetF (hN hs) t b f (i + 1) = wetF (hN hs) t b f i ++ if hN hs (f + i) * b < t then [f + i] else [] := rfl
    refine w_both (fun z => ?_) (fun z => ?_)
    · walk_at "rv go"
      rw [if_pos (by omega : hN hs (f + i) * b < t)] at ew
      refine ⟨acc, hD2, Nat.lt_of_lt_of_le (by omega : acc.length < 100001) (by decide), acc ++ [.int ((f + i : Nat) : Int)], ?_, nD, upd_same, ?_, ?_⟩
      · exact fun c o hc => by
          rw [upd_ne (ne_of_none hc nD)]
          exact e2 _ _ (e _ _ hc)
      · rw [ew, List.map_append, ← hacc]
        rfl
      · rw [List.length_append]
        show acc.length + 1 ≤ i + 1
        omega
    · rw [if_neg (by omega : ¬ hN hs (f + i) * b < t), List.append_nil] at ew
      exact ⟨acc, e.trans e2, nD, hD2, by rw [ew]; exact hacc, by omega⟩
  rintro D acc H1 ⟨e1, nD, hD, hacc, hl2⟩
  walk_at "rv go"
  generalize hW : wetF (hN hs) t b f (l + 1 - f) = W at hacc
  have wm : ∀ c ∈ W, c < hs.length := fun c hc => by
    rw [← hW] at hc
    have := wet_mem hc
    omega
  have wl : W.length ≤ 60 := by
    have := wet_len (hN hs) t b f (l + 1 - f)
    rw [hW] at this
    omega
  have al : acc.length = W.length := by rw [hacc, List.length_map]
  have hx : ∀ {i : Nat} {x : V}, acc[i]? = some x → ∃ c, W[i]? = some c ∧ x = .int (c : Int) ∧ c < hs.length := fun {i x} hx => by
    rw [hacc, List.getElem?_map] at hx
    cases hc : W[i]? with
    | none =>
      rw [hc] at hx
      cases hx
    | some c =>
      rw [hc] at hx
      exact ⟨c, rfl, (Option.some.inj hx).symm, wm c (List.mem_of_getElem? hc)⟩
  have stepE : ∀ {g : Nat → Int} {i c : Nat}, W[i]? = some c → ((W.take (i + 1)).map g).map V.int = ((W.take i).map g).map V.int ++ [.int (g c)] := fun {g i c} hc => by
    rw [List.take_add_one, hc]
    simp
  -- the width of the wet ground
  refine w_lcl ?_
  walk_at "rv go"
  refine ⟨D, rfl, ?_⟩
  refine w_lcA (sq_lst hD) (fun D2 i bcc H' => Same H1 H' ∧ H1 D2 = none ∧ H' D2 = some (.lst bcc) ∧ bcc = ((W.take i).map (hN ws)).map V.int ∧ bcc.length ≤ i)
    (fun D2 n2 => ⟨same_new (Same.refl H1) n2, n2, upd_same, by rw [List.take_zero]; rfl, Nat.le_refl _⟩) (fun D2 i bcc H' ⟨e, _⟩ => sq_lst (e _ _ hD)) ?_ ?_
  · rintro D2 i bcc x H' hxi ⟨e, n2, hD2, hb, hl3⟩
    obtain ⟨c, hc, rfl, hcl⟩ := hx hxi
    have il : i < W.length := (List.getElem?_eq_some_iff.mp hc).1
    refine ⟨rfl, ?_⟩
    walk_at "rv go"
    refine w_ixT (sq_tup (e _ _ (e1 _ _ h2))) (at_hN (by omega)) ?_
    refine ⟨bcc, hD2, Nat.lt_of_lt_of_le (by omega : bcc.length < 100001) (by decide), bcc ++ [.int (hN ws c)], ?_, n2, upd_same, ?_, ?_⟩
    · exact fun z o hz => by
        rw [upd_ne (ne_of_none hz n2)]
        exact e _ _ hz
    · rw [stepE hc, ← hb]
    · rw [List.length_append]
      show bcc.length + 1 ≤ i + 1
      omega
  rintro D2 bcc H2 ⟨e2, n2, hD2, hb, _⟩
  rw [al, List.take_length] at hb
  walk_at "rv go"
  refine ⟨D2, W.map (hN ws), rfl, sq_lst (by rw [hD2, hb]), ?_⟩
  walk_at "rv go"
  -- what the wet ground takes up
  refine w_lcl ?_
  walk_at "rv go"
  refine ⟨D, rfl, ?_⟩
  refine w_lcA (sq_lst (e2 _ _ hD)) (fun D3 i bcc H' => Same H2 H' ∧ H2 D3 = none ∧ H' D3 = some (.lst bcc) ∧ bcc = ((W.take i).map (fun c => hN ws c * hN hs c)).map V.int ∧ bcc.length ≤ i)
    (fun D3 n3 => ⟨same_new (Same.refl H2) n3, n3, upd_same, by rw [List.take_zero]; rfl, Nat.le_refl _⟩) (fun D3 i bcc H' ⟨e, _⟩ => sq_lst (e _ _ (e2 _ _ hD))) ?_ ?_
  · rintro D3 i bcc x H' hxi ⟨e, n3, hD3, hb3, hl3⟩
    obtain ⟨c, hc, rfl, hcl⟩ := hx hxi
    have il : i < W.length := (List.getElem?_eq_some_iff.mp hc).1
    refine ⟨rfl, ?_⟩
    walk_at "rv go"
    refine w_ixT (sq_tup (e _ _ (e2 _ _ (e1 _ _ h2)))) (at_hN (by omega)) ?_
    walk_at "rv go"
    refine w_ixT (sq_tup (e _ _ (e2 _ _ (e1 _ _ h1)))) (at_hN hcl) ?_
    refine w_I (mulw (j := 100) (k := 100) (sz_lit (wok_sz (ok.ww _ (hN_mem (by omega))))) (sz_lit (hok_sz (ok.hh _ (hN_mem hcl)))) (by decide) (by decide) (by decide)) ?_
    refine ⟨bcc, hD3, Nat.lt_of_lt_of_le (by omega : bcc.length < 100001) (by decide), bcc ++ [.int (hN ws c * hN hs c)], ?_, n3, upd_same, ?_, ?_⟩
    · exact fun z o hz => by
        rw [upd_ne (ne_of_none hz n3)]
        exact e _ _ hz
    · rw [stepE hc, ← hb3]
    · rw [List.length_append]
      show bcc.length + 1 ≤ i + 1
      omega
  rintro D3 ccc H3 ⟨e3, n3, hD3, hb3, _⟩
  rw [al, List.take_length] at hb3
  walk_at "rv go"
  refine ⟨D3, W.map (fun c => hN ws c * hN hs c), rfl, sq_lst (by rw [hD3, hb3]), ?_⟩
  walk_at "rv go"
  have e13 := (e1.trans e2).trans e3
  -- how great the sums are
  have swide : Sz 110 (W.map (hN ws)).sum := by
    have hb := sum_bound (M := 1000000000000000000000000000000) (l := W.map (hN ws)) fun x hx => by
      obtain ⟨c, hc, rfl⟩ := List.mem_map.mp hx
      have := wm c hc
      exact wok_sz (ok.ww _ (hN_mem (by omega)))
    rw [List.length_map] at hb
    exact sz_lit (M := 60000000000000000000000000000000) (by omega)
  have sground : Sz 210 (W.map (fun c => hN ws c * hN hs c)).sum := by
    have hb := sum_bound (M := 1000000000000000000000000000000000000000000000000000000000000) (l := W.map (fun c => hN ws c * hN hs c)) fun x hx => by
      obtain ⟨c, hc, rfl⟩ := List.mem_map.mp hx
      have := wm c hc
      rw [Int.natAbs_mul]
      exact Nat.le_trans (Nat.mul_le_mul (wok_sz (ok.ww _ (hN_mem (by omega)))) (hok_sz (ok.hh _ (hN_mem this)))) (by decide)
    rw [List.length_map] at hb
    exact sz_lit (M := 60000000000000000000000000000000000000000000000000000000000000) (by omega)
  have hdue := wet_due (hN hs) (hN ws) t b f (l + 1 - f)
  rw [hW] at hdue
  generalize (W.map (hN ws)).sum = wide at *
  generalize (W.map (fun c => hN ws c * hN hs c)).sum = ground at *
  obtain ⟨lw, dq, hq'⟩ := hq.same e13
  refine w_binI hq' ?_
  refine ⟨q, _, t, b, wide, 1, rfl, R, ⟨lw, dq, hq'⟩, .inl ⟨rfl, rfl⟩, st.mono (by decide), sb.mono (by decide), swide.mono (by decide), sz_one (by decide), fun r H4 n1 d1 e4 hr red => ?_⟩
  walk_at "rv go"
  have sn1 : Sz 1110 n1 := red.szt (st.mul swide)
  have sd1 : Sz 1000 d1 := red.szb (by rw [Int.mul_one]; exact sb)
  obtain ⟨lr, dr, hr'⟩ := id hr
  refine w_binI hr' ?_
  refine ⟨r, _, n1, d1, ground, 1, rfl, R, hr, .inl ⟨rfl, rfl⟩, sn1.mono (by decide), sd1.mono (by decide), sground.mono (by decide), sz_one (by decide), fun r2 H5 n d e5 hr2 red2 => ?_⟩
  refine k r2 H5 n d ((e13.trans e4).trans e5) hr2 ?_ ?_ ?_
  · rw [← hdue]
    exact vol_two red.eq lr.1 red2.eq
  · have s1 : Sz 1210 (n1 * 1) := by rw [Int.mul_one]; exact sn1.mono (by decide)
    have s2 : Sz 1210 (ground * d1) := sground.mul sd1
    exact (red2.szt (s1.sub s2)).mono (by decide)
  · exact red2.szb (by rw [Int.mul_one]; exact sd1)
theorem p_volU {K : PySem.W.Frag} {CP CR : Addr} {vs : List V} {H : Hp} {Q : VK} {E : XK} (h : spVolU K CP CR vs H Q E) : t_volume_up_to K CP CR { nx := fun _ H' => Q .non H', rt := Q } (start ["profile", "first", "last", "level"] vs) H := by
  obtain ⟨p, hs, ws, f, l, v, t, b, rfl, P, R, hp, ok, hfl, hl, hv, st, sb, k⟩ := h
  unfold t_volume_up_to
  walk_at "rv go"
  refine ⟨p, hs, ws, f, l, rfl, P, hp, ok.le, hfl, hl, ?_⟩
  walk_at "rv go"
  refine ⟨v, t, b, rfl, R, hv, fun q H1 e hq => ?_⟩
  walk_at "rv go"
  exact ⟨p, hs, ws, f, l, q, t, b, rfl, P, R, hp.same e, ok, hfl, hl, hq, st, sb, fun r H2 n d e2 => k r H2 n d (e.trans e2)⟩
end Rv
namespace Rv
open PySem PySem.Spec PyProof.Rows L2
theorem mk_profR {K : PySem.W.Frag} {C : Addr} {H : Hp} {Q : Addr → Hp → Prop} {E : XK} {a : Addr} {wv : V} {us dvs : List V} {hs ws : List Int} (hu : us ++ dvs = [.ref a, wv]) (P : PCls K C) (ha : RowAt K H a (hs.map V.int)) (h1 : 1 ≤ hs.length) (h60 : hs.length ≤ 60) (hok : ∀ z ∈ hs, HOk1 z)
    (hw : (wv = .non ∧ ws = List.replicate hs.length 1) ∨ ∃ b, wv = .ref b ∧ RowAt K H b (ws.map V.int) ∧ ws.length = hs.length ∧ ∀ z ∈ ws, WOk1 z) (k : ∀ x H', H x = none → Same H H' → ProfAt K C H' x hs ws → Q x H') :
    ∀ x dx, H x = none → H dx = none → dx ≠ x → spInit K C (.ref x :: (us ++ dvs)) (upd (upd H dx (.own x)) x (.ins C dx [])) (fun v H2 => v = .non ∧ Q x H2) E := by
  intro x dx nx ndx hne
  rw [hu]
  have s0 : Same H (upd (upd H dx (.own x)) x (.ins C dx [])) := fun b o hb => by
    rw [upd_ne (ne_of_none hb nx), upd_ne (ne_of_none hb ndx)]
    exact hb
  refine ⟨x, dx, a, wv, hs, ws, rfl, P, upd_same, ha.same s0, h1, h60, hok, ?_, fun H' hp hf => ⟨rfl, k x H' nx (fun b o hb => hf b o (ne_of_none hb nx) (s0 b o hb)) hp⟩⟩
  rcases hw with h | ⟨b, h1, h2, h3⟩
  · exact .inl h
  · exact .inr ⟨b, h1, h2.same s0, h3⟩
theorem mk_prof21 {K : PySem.W.Frag} {C : Addr} {H : Hp} {Q : Addr → Hp → Prop} {E : XK} {a : Addr} {wv : V} {us dvs : List V} {hs ws : List Int} (hu : us ++ dvs = [.ref a, wv]) (P : PCls K C) (ha : H a = some (.lst (hs.map V.int))) (h1 : 1 ≤ hs.length) (h60 : hs.length ≤ 60) (hok : ∀ z ∈ hs, HOk1 z)
    (hw : (wv = .non ∧ ws = List.replicate hs.length 1) ∨ ∃ b, wv = .ref b ∧ H b = some (.lst (ws.map V.int)) ∧ ws.length = hs.length ∧ ∀ z ∈ ws, WOk1 z) (k : ∀ x H', H x = none → Same H H' → ProfAt K C H' x hs ws → Q x H') :
    ∀ x dx, H x = none → H dx = none → dx ≠ x → spInit K C (.ref x :: (us ++ dvs)) (upd (upd H dx (.own x)) x (.ins C dx [])) (fun v H2 => v = .non ∧ Q x H2) E :=
  mk_profR hu P (.inl ha) h1 h60 hok (hw.elim .inl fun ⟨b, z1, z2, z3⟩ => .inr ⟨b, z1, .inl z2, z3⟩) k
def spLIs (K : PySem.W.Frag) (C : Addr) : Sp := fun vs H Q _ => ∃ q n d p b, vs = [.ref q, .int p, .int b] ∧ RCls K C ∧ RatAt C H q n d ∧ Sz 4000 n ∧ Sz 4000 d ∧ Sz 4000 p ∧ Sz 4000 b ∧ Q (.bl (decide (n * b = p * d))) H
def spLBelow (K : PySem.W.Frag) : Sp := fun vs H Q _ => ∃ a c hs ws, ∃ f l : Nat, ∃ p q, vs = [.ref a, .ref c, .int (f : Int), .int (l : Int), .int p, .int q] ∧ SqL K H a (hs.map V.int) ∧ SqL K H c (ws.map V.int) ∧ PrOk hs ws ∧ f ≤ l ∧ l < hs.length ∧ Sz 1000 p ∧ Sz 1000 q ∧ Q (.int (dueF (hN hs) (hN ws) p q f (l + 1 - f))) H
def spLRun (K : PySem.W.Frag) : Sp := fun vs H Q _ => ∃ d c, ∃ n : Int, vs = [.ref d, .int n] ∧ DrawsAt H d c ∧ 0 < n ∧ n ≤ 60 ∧ ∀ r H' (f l : Nat), f ≤ l → (l : Int) < n → But d H H' → DrawsAt H' d c → H' r = some (.tup [.int (f : Int), .int (l : Int)]) → Q (.ref r) H'
def spLNum2 (K : PySem.W.Frag) (C : Addr) : Sp := fun vs H Q _ => ∃ p q b, vs = [.int p, .int q, .bl b] ∧ RCls K C ∧ 0 < q ∧ q < 2 ^ 200 ∧ ∀ v H' t e, Same H H' → Num C H' v t e → t * q = p * e → t.natAbs ≤ p.natAbs → e ≤ q → Q v H'
def t__law_is (K : PySem.W.Frag) (C_Ratio : Addr) : TS :=
  (tSeq (tIfS (tNot (tB (tCB (rIsi K) (tCons (tVar 0) (tCons (tC (.ref C_Ratio)) tNil))))) (tRet (tC (.bl false))) tNext)
    (tRet (tOp rEq (tOp oMulW (tProp C_Ratio (getSp C_Ratio "reduced_top") [] E0 (tVar 0)) (tVar 2)) (tOp oMulW (tVar 1) (tProp C_Ratio (getSp C_Ratio "reduced_bottom") [] E0 (tVar 0))))))
def t__law_below (K : PySem.W.Frag) : TS :=
  (tSeq (tAsg (tC (.int 0)) (gName 6))
    (tSeq (tFor (iRng2 (tCons (tVar 2) (tCons (tOp oAdd (tVar 3) (tC (.int 1))) tNil))) (gName 7) (tIfS (tTest (tOp oGt (tVar 4) (tOp oMulW (tOp (rIxL K) (tVar 0) (tVar 7)) (tVar 5)))) (tAsg (tOp oAdd (tVar 6) (tOp oMulW (tOp (rIxL K) (tVar 1) (tVar 7)) (tOp oSub (tVar 4) (tOp oMulW (tOp (rIxL K) (tVar 0) (tVar 7)) (tVar 5))))) (gName 6)) tNext))
    (tRet (tVar 6))))
def t__law_run (K : PySem.W.Frag) : TS :=
  (tSeq (tAsg (tCall (spDraw K) [] E0 (tCons (tVar 0) (tCons (tVar 1) tNil))) (gName 2))
    (tRet (tTup (tCons (tVar 2) (tCons (tOp oAdd (tVar 2) (tCall (spDraw K) [] E0 (tCons (tVar 0) (tCons (tOp oSub (tVar 1) (tVar 2)) tNil)))) tNil)))))
def t__law_number (K : PySem.W.Frag) (C_Ratio : Addr) : TS :=
  (tSeq (tIfS (tAnd (tB (tVar 2)) (tTest (tOp rEq (tOp oMod (tVar 0) (tVar 1)) (tC (.int 0))))) (tRet (tOp oDiv (tVar 0) (tVar 1))) tNext)
    (tRet (tMake C_Ratio (spRInit K C_Ratio) [] E0 (tCons (tVar 0) (tCons (tVar 1) tNil)))))
local macro_rules | `(tactic| walk_at "rv st") => `(tactic| first
  | with_reducible refine iteT ?_ | with_reducible refine iteF ?_ | with_reducible refine w_nx ?_ | with_reducible refine w_yes ?_ | with_reducible refine w_rt ?_ | with_reducible refine iteNT ?_ | with_reducible refine iteNF ?_ | with_reducible refine iteNRf ?_ | with_reducible refine iteRf ?_ | with_reducible refine w_seqA ?_ | with_reducible refine w_seqD ?_ | with_reducible refine w_seqP ?_ | with_reducible refine w_asg ?_ | with_reducible refine w_ret ?_ | with_reducible refine w_drop ?_ | with_reducible refine w_ifs ?_ | with_reducible refine w_next ?_ | with_reducible refine w_par ?_
  | with_reducible refine w_op ?_ | with_reducible refine w_un ?_ | ((with_reducible show tVar _ _ _ _); refine' w_var ?hv ?_; (case hv => exact rfl)) | with_reducible refine w_c ?_ | with_reducible refine w_test ?_ | with_reducible refine w_tB ?_
  | with_reducible refine w_bl ?_ | with_reducible refine w_I0 ?_ | with_reducible refine w_U ?_ | with_reducible refine w_eqI ?_ | with_reducible refine w_neI ?_
  | with_reducible refine w_cons ?_ | with_reducible refine w_nil ?_ | with_reducible refine w_gn ?_ | with_reducible refine w_gsub ?_ | with_reducible refine w_and ?_ | with_reducible refine w_or ?_ | with_reducible refine w_not ?_
  | with_reducible refine w_andV ?_ | with_reducible refine w_orV ?_ | with_reducible refine w_notV ?_ | with_reducible refine w_if ?_ | with_reducible refine w_cb ?_ | with_reducible refine w_call ?_ | with_reducible refine w_lst ?_ | with_reducible refine w_tup ?_
  | with_reducible refine w_sl ?_ | with_reducible refine w_noPart ?_ | with_reducible refine w_part ?_ | with_reducible refine w_ex1 ?_ | with_reducible refine w_exb ?_ | with_reducible refine w_intB ?_ | with_reducible refine w_intI ?_ | with_reducible refine w_abs ?_)
local macro_rules | `(tactic| walk_at "rv ix") => `(tactic| ((with_reducible show rIxL _ _ _ _ _); refine' w_ixL (sq_lst ?ha) ?hb ?_; (case ha => first | exact upd_same | assumption); (case hb => first | exact rfl | assumption)))
local macro_rules | `(tactic| walk_at "rv ar") => `(tactic| first
  | (refine' w_I ?hc ?_; (case hc => first | (show (0 : Int) < _; first | assumption | decide | omega) | exact pow_c (by decide) (by decide) (by first | decide | omega) (by first | decide | omega) | exact mul_r (by first | decide | omega) (by first | decide | omega) | exact mul_l (by first | decide | omega) (by first | decide | omega) | exact divw (by first | assumption | decide | omega) (by first | assumption | decide | omega))))
local macro_rules | `(tactic| walk_at "rv go") => `(tactic| repeat first | walk_at "rv st" | walk_at "rv ix" | ((with_reducible show rI _ _ _ _ _ _); walk_at "rv ar"))
theorem p_lis {K : PySem.W.Frag} {C : Addr} {vs : List V} {H : Hp} {Q : VK} {E : XK} (h : spLIs K C vs H Q E) : t__law_is K C { nx := fun _ H' => Q .non H', rt := Q } (start ["_law_value", "_law_top", "_law_bottom"] vs) H := by
  obtain ⟨q, n, d, p, b, rfl, R, ⟨lw, dx, hq⟩, s1, s2, s3, s4, k⟩ := h
  unfold t__law_is
  refine w_seq ?_
  walk_at "rv go"
  refine isi_of (.own C) (.base (.ins hq R.cl R.cA R.cG R.cT R.cM)) kit_self ?_
  walk_at "rv go"
  refine w_prop rfl hq ?_
  refine ⟨q, dx, _, _, rfl, hq, rfl2_t _ _, ?_⟩
  walk_at "rv go"
  refine w_I (mulw s1 s4 (by decide) (by decide) (by decide)) ?_
  walk_at "rv go"
  refine w_prop rfl hq ?_
  refine ⟨q, dx, _, _, rfl, hq, rfl2_b _ _, ?_⟩
  refine w_I (mulw s3 s2 (by decide) (by decide) (by decide)) ?_
  walk_at "rv go"
  exact k
theorem p_lbelow {K : PySem.W.Frag} {vs : List V} {H : Hp} {Q : VK} {E : XK} (h : spLBelow K vs H Q E) : t__law_below K { nx := fun _ H' => Q .non H', rt := Q } (start ["_law_heights_here", "_law_widths_here", "_law_first", "_law_last", "_law_top", "_law_bottom", "_law_found", "_law_at"] vs) H := by
  obtain ⟨a, c, hs, ws, f, l, p, q, rfl, hH, hW, ok, hfl, hl, sp, sq, k⟩ := h
  have h60 := ok.le
  have hwl := ok.eq
  unfold t__law_below
  walk_at "rv go"
  refine w_seq ?_
  refine w_forT2 (lo := f) (m := l + 1 - f) (hi := (l : Int) + 1) (by omega) (by omega) ⟨by omega, by omega⟩ (fun AQ q => by walk_at "rv go"; exact q)
    (fun j σ' H' => H' = H ∧ f ≤ j ∧ ∃ o7, σ' = [some (.ref a), some (.ref c), some (.int (f : Int)), some (.int (l : Int)), some (.int p), some (.int q), some (.int (dueF (hN hs) (hN ws) p q f (j - f))), o7]) ⟨rfl, Nat.le_refl _, none, by rw [Nat.sub_self]; rfl⟩ ?_ ?_
  · rintro j σ' H' hj1 hj2 ⟨rfl, hj3, o7, rfl⟩
    have hjl : j < hs.length := by omega
    have sh : Sz 100 (hN hs j) := sz_lit (hok_sz (ok.hh _ (hN_mem hjl)))
    have sw : Sz 100 (hN ws j) := sz_lit (wok_sz (ok.ww _ (hN_mem (by omega))))
    have ed : dueF (hN hs) (hN ws) p q f (j + 1 - f) = dueF (hN hs) (hN ws) p q f (j - f) + if hN hs j * q < p then hN ws j * (p - hN hs j * q) else 0 := by
      rw [show j + 1 - f = (j - f) + 1 by omega]
      show dueF (hN hs) (hN ws) p q f (j - f) + _ = _
      rw [show f + (j - f) = j by omega]
    refine w_ifs ?_
    walk_at "rv go"
    refine w_ixL hH (at_hN hjl) ?_
    walk_at "rv go"
    refine w_I (mulw sh sq (by decide) (by decide) (by decide)) ?_
    walk_at "rv go"
    refine w_both (fun z => ?_) (fun z => ?_)
    · rw [if_pos z] at ed
      walk_at "rv go"
      refine w_ixL hW (at_hN (by omega)) ?_
      walk_at "rv go"
      refine w_ixL hH (at_hN hjl) ?_
      walk_at "rv go"
      refine w_I (mulw sh sq (by decide) (by decide) (by decide)) ?_
      walk_at "rv go"
      refine w_I (mulw (k := 1101) sw ((sp.mono (by decide)).sub (sh.mul sq)) (by decide) (by decide) (by decide)) ?_
      walk_at "rv go"
      exact ⟨rfl, by omega, _, by rw [ed]; rfl⟩
    · rw [if_neg z, Int.add_zero] at ed
      walk_at "rv go"
      exact ⟨rfl, by omega, _, by rw [ed]; rfl⟩
  · rintro σ' H' ⟨rfl, hj3, o7, rfl⟩
    walk_at "rv go"
    rw [show f + (l + 1 - f) - f = l + 1 - f by omega]
    exact k
theorem p_lrun {K : PySem.W.Frag} {vs : List V} {H : Hp} {Q : VK} {E : XK} (h : spLRun K vs H Q E) : t__law_run K { nx := fun _ H' => Q .non H', rt := Q } (start ["_law_draws_here", "_law_many", "_law_first"] vs) H := by
  obtain ⟨d, c, n, rfl, hD, n0, n60, k⟩ := h
  unfold t__law_run
  walk_at "rv go"
  refine draw_call hD n0 (Int.lt_of_le_of_lt n60 (by decide)) fun r1 H1 r1a r1b e1 D1 => ?_
  walk_at "rv go"
  refine draw_call D1 (by omega) (Int.lt_of_le_of_lt (b := 60) (by omega) (by decide)) fun r2 H2 r2a r2b e2 D2 => ?_
  walk_at "rv go"
  refine ⟨szl (by show 2 ≤ 100000; decide), fun r nr => ?_⟩
  obtain ⟨f, rfl⟩ : ∃ f : Nat, r1 = (f : Int) := ⟨r1.toNat, by omega⟩
  obtain ⟨g, rfl⟩ : ∃ g : Nat, r2 = (g : Int) := ⟨r2.toNat, by omega⟩
  refine k r _ f (f + g) (by omega) (by omega) ((e1.trans e2).new nr) (D2.new (same_new (Same.refl H2) nr)) ?_
  rw [upd_same, Int.natCast_add]
theorem abs_div {p q t : Int} (hq : 0 < q) (e : t * q = p) : t.natAbs ≤ p.natAbs := by
  rw [← e, Int.natAbs_mul]
  have : t.natAbs * 1 ≤ t.natAbs * q.natAbs := Nat.mul_le_mul_left _ (by omega)
  omega
theorem p_lnum2 {K : PySem.W.Frag} {C : Addr} {vs : List V} {H : Hp} {Q : VK} {E : XK} (h : spLNum2 K C vs H Q E) : t__law_number K C { nx := fun _ H' => Q .non H', rt := Q } (start ["_law_top", "_law_bottom", "_law_plain"] vs) H := by
  obtain ⟨p, q, b, rfl, R, hq, hq2, k⟩ := h
  have sq : Sz 201 q := by
    have e : (2 : Int) ^ 200 = ((2 ^ 200 : Nat) : Int) := rfl
    have e2 : (2 ^ 200 : Nat) < 2 ^ 201 := by decide
    unfold Sz
    omega
  have fin : ∀ N : L2.St → Hp → Prop, (tRet (tMake C (spRInit K C) [] E0 (tCons (tVar 0) (tCons (tVar 1) tNil)))) { nx := fun _ H' => Q .non H', rt := Q } [some (.int p), some (.int q), some (.bl b)] H := fun N => by
    walk_at "rv go"
    refine w_make ?_
    walk_at "rv go"
    exact mk_rat (Q := fun x H' => Q (.ref x) H') rfl R hq (sq.mono (by decide)) fun x H' t e s r hr => k _ H' t e s (.inr ⟨x, rfl, hr⟩) r.eq r.lt r.le
  unfold t__law_number
  refine w_seq ?_
  walk_at "rv go"
  refine w_bool (fun z => ?_) (fun z => ?_)
  · walk_at "rv go"
    refine w_both (fun z2 => ?_) (fun z2 => ?_)
    · walk_at "rv go"
      have e : p / q * q = p := Int.ediv_mul_cancel_of_emod_eq_zero z2
      exact k _ H (p / q) 1 (Same.refl H) (.inl ⟨rfl, rfl⟩) (by rw [Int.mul_one]; exact e) (abs_div hq e) (by omega)
    · walk_at "rv go"
      exact fin fun _ _ => True
  · walk_at "rv go"
    exact fin fun _ _ => True
end Rv
/-! Calls by keywords alone. -/
namespace Rv
open PySem PySem.Spec PyProof.Rows L2
/-- a def of the module, called with the keywords ks alone (gV: their values in the parameters' order) -/
structure CalK (P : Program) (w : World) (K : PySem.W.Frag) (mg : Str → Option Value) (base : Heap) (CX : CXT) (k : Nat) (x : Str) (ps : List Str) (sp : Sp) (ks : List Str) (gV : List V → List V → List V) : Prop where
  ex : ∃ f fd g, FnOk P w K mg base CX k f fd ps sp ∧ mg x = some (.ref f) ∧ PySem.W.keepIn K (.ref f) = true ∧ KBn K fd ps 0 ks g gV
/-- a class made so -/
structure CalMK (P : Program) (w : World) (K : PySem.W.Frag) (mg : Str → Option Value) (base : Heap) (CX : CXT) (k : Nat) (x : Str) (C : Addr) (ps : List Str) (sp : Sp) (ks : List Str) (gV : List V → List V → List V) : Prop where
  ex : ∃ f fd g, FnOk P w K mg base CX k f fd ps sp ∧ Mk K C f ∧ mg x = some (.ref C) ∧ KBn K fd ps 1 ks g gV
section
variable {X : Cx} {CX : CXT} {k : Nat} {x : Str} {ps ks : List Str} {sp : Sp} {E : XK} {p pos : Pos} {kws : List Keyword} {tk : TA} {C : Addr} {gV : List V → List V → List V}
theorem pe_calk (c : CalK X.prog X.w X.K X.mg X.base CX k x ps sp ks gV) (hr : Room k X.A) (hg : Gl X x) (hx : Passes CX X E) (hkw : PK X kws tk)
    (hall : (backToKw pos (keywordEach kws X.env)).all (·.1.isSome) = true := by rfl) (hks : (backToKw pos (keywordEach kws X.env)).filterMap (·.1) = ks := by rfl) (hdb : (x == ("__debug__" : Str)) = false := by decide)
    (hpl : ((backTo pos (starEach [] X.env)).any (·.1) || (backToKw pos (keywordEach kws X.env)).any (·.1.isNone)) = false := by rfl)
    {n : Nat} (hn : ks.length = n := by rfl) : PE X (.Call (.Name x p) [] kws pos) (tCallN 0 n sp gV E tNil tk) := by
  subst hn
  obtain ⟨f, fd, g, F, hm, hk, hb⟩ := c.ex
  refine ⟨fun pins s σ H Q I h => ?_⟩
  refine wpAny_Call_Name_kw (ld_glob I hg hm ?_ hdb)
  refine PySem.W.callWith_KW0 (h₀ := X.base) I.ok.mod.kin hk hall ?_ hpl
  refine thn (hkw.run pos pins s σ H _ I h) fun ws s2 ⟨zs, H2, I2, rz, l1, l2, q2⟩ => ⟨I2.kIn, ?_⟩
  rw [hks]
  exact run_fnN (us := []) (vs := []) F hr hb hx I2 .nil rz rfl l2 q2
theorem pe_calmk (c : CalMK X.prog X.w X.K X.mg X.base CX k x C ps sp ks gV) (hr : Room (k + 1) X.A) (hg : Gl X x) (hx : Passes CX X E) (hkw : PK X kws tk)
    (hall : (backToKw pos (keywordEach kws X.env)).all (·.1.isSome) = true := by rfl) (hks : (backToKw pos (keywordEach kws X.env)).filterMap (·.1) = ks := by rfl) (hdb : (x == ("__debug__" : Str)) = false := by decide)
    (hpl : ((backTo pos (starEach [] X.env)).any (·.1) || (backToKw pos (keywordEach kws X.env)).any (·.1.isNone)) = false := by rfl)
    {n : Nat} (hn : ks.length = n := by rfl) : PE X (.Call (.Name x p) [] kws pos) (tMakeK C 0 n sp gV E tNil tk) := by
  subst hn
  obtain ⟨f, fd, g, F, M, hm, hb⟩ := c.ex
  exact pe_makeK0 M F hr hg hm hb hx hkw hall hks hdb hpl
end
/-- no defaults: what the keywords bind -/
theorem FunD.kb0 {K : PySem.W.Frag} {x qual : Str} {params : Arguments} {body : List Stmt} {scope : Scope} {kws : List (Str × V)} {f : Addr} {fd : FuncData} {ps : List Str} (F : FunD K x qual params body scope [] kws f fd) (ks : List Str) (g : {α : Type} → List α → List α → List α)
    (hrel : ∀ {vs zs : List V} {us ws : List Value}, Vals vs us → Vals zs ws → Vals (g vs zs) (g us ws))
    (h : ∀ (kV doc pm : Value) (an : Option Addr) (cdv ct : Value) (ws : List Value), ws.length = ks.length → bindArgs (PySem.W.fnOf x qual params body scope .none kV doc pm an cdv ct) ⟨[], ks.zip ws⟩ = pure (ps.zip (g [] ws))) :
    KBn K fd ps 0 ks (fun us ws => g us ws) (fun vs zs => g vs zs) := by
  obtain ⟨oc, od, dV, kV, doc, pm, an, cdv, ct, osl, rfl, lk, hcd, hD, hK⟩ := F.ex
  rcases hD with ⟨_, rfl⟩ | ⟨e, _⟩
  · refine ⟨fun s us ws X l1 l2 => ?_, fun r1 r2 => hrel r1 r2⟩
    have e : us = [] := List.eq_nil_of_length_eq_zero l1
    subst e
    exact .of_eq (h kV doc pm an cdv ct ws l2)
  · exact absurd rfl e
/-- keywords in the parameters' order, by places -/
def pick {α : Type} (is : List Nat) (zs : List α) : List α := is.filterMap fun i => zs[i]?
theorem pick_vals {is : List Nat} : ∀ {zs : List V} {ws : List Value}, Vals zs ws → Vals (pick is zs) (pick is ws) := by
  intro zs ws r
  unfold pick
  induction is with
  | nil => exact .nil
  | cons i t ih =>
    rw [List.filterMap_cons, List.filterMap_cons]
    by_cases h : i < zs.length
    · obtain ⟨u, hu, ru⟩ := r.get (List.getElem?_eq_getElem h)
      rw [List.getElem?_eq_getElem h, hu]
      exact .cons ru ih
    · have h2 : ¬ i < ws.length := by rw [← r.length]; exact h
      rw [List.getElem?_eq_none (by omega), List.getElem?_eq_none (by omega)]
      exact ih
end Rv
/-! Defs that are run where no guard is under way: what repr of lists and tuples asks. -/
namespace Rv
open PySem PySem.Spec PyProof.Rows L2
/-- a def's promise, told of callers without guards alone -/
structure FnOkG (P : Program) (w : World) (K : PySem.W.Frag) (mg : Str → Option Value) (base : Heap) (CX : CXT) (k : Nat) (f : Addr) (fd : FuncData) (ps : List Str) (sp : Sp) : Prop where
  len : ∀ vs H Q E, sp vs H Q E → vs.length = ps.length
  run : ∀ (A : Around) (outer : List Env) (s : Shared) (H : Hp) (args : Args) (us : List Value) (vs : List V) (Q : VK) (E : XK), A.guards = some [] → Room k A → Env0 P w K mg base A outer s H → BindsTo s fd args (ps.zip us) → Vals vs us → sp vs H Q E →
    codeAny (model P w) A (.call (.ref f) args) (CR CX outer P w H s Q E) s
section
variable {P : Program} {w : World} {K : PySem.W.Frag} {mg : Str → Option Value} {base : Heap} {CX : CXT} {k : Nat} {f : Addr} {fd : FuncData} {N ps : List Str} {sp : Sp} {x qual : Str} {params : Arguments} {body : List Stmt} {scope : Scope} {dvs : List V} {kws : List (Str × V)}
theorem FnOk.g (F : FnOk P w K mg base CX k f fd ps sp) : FnOkG P w K mg base CX k f fd ps sp := ⟨F.len, fun A outer s H args us vs Q E _ => F.run A outer s H args us vs Q E⟩
theorem guards_deeper {A : Around} {env : Env} (h : A.guards = some []) : (A.deeper env).guards = some [] := h
theorem FunD.okG (F : FunD K x qual params body scope dvs kws f fd) (S : FnScope N ps scope) (len : ∀ vs H Q E, sp vs H Q E → vs.length = ps.length)
    (hbody : ∀ (cdv : Value) (A : Around) (outer : List Env) (s : Shared) (H : Hp) (vs : List V) (Q : VK) (E : XK), (A.deeper (envOfC qual scope s.heap.objs.size f cdv)).guards = some [] → Room k (A.deeper (envOfC qual scope s.heap.objs.size f cdv)) → sp vs H Q E →
      ∃ t, PSs (cxOf CX P w K mg base N qual scope f cdv A outer s H E) body t ∧ t { nx := fun _ H' => Q .non H', rt := Q } (start N vs) H) : FnOkG P w K mg base CX (k + 1) f fd ps sp := by
  obtain ⟨oc, od, dV, kV, doc, pm, an, cdv, ct, osl, rfl, lk, hcd, _, _⟩ := F.ex
  refine ⟨len, fun A outer s H args us vs Q E hg hr e0 hb r hsp => ?_⟩
  have hl := len _ _ _ _ hsp
  have KX : K.In s.heap := e0.mod.kin.keeps fun b o e => (e0.bs b o e).1
  have lim : s.heap.NoLimit := e0.mod.nolimit.keeps fun b o e => (e0.bs b o e).1
  have hkind : ∀ y ∈ ps.zip us, scope.names.lookup y.1 = some .local ∨ (scope.names.lookup y.1 = some .cell ∧ ((cellsFrom (s.heap.objs.size + 1) scope.names []).lookup y.1).isSome = true) := by
    rintro ⟨n, v⟩ hy
    rcases S.par n (List.of_mem_zip hy).1 with q | q
    · exact .inl q
    · exact .inr ⟨q, PySem.W.cellsFrom_some _ _ _ (.inl q)⟩
  refine codeAny_call_function hr.depth (KX _ _ lk) rfl S.co S.gen rfl (PySem.W.codeRec_of KX hcd) (hb _ _ _ _ (wpAny_newFunctionEnv_cells S.kind hkind fun env he s1 x1 => ?_))
  subst he
  refine ⟨lim.keeps x1.toInCall.keep, codeAny_func ?_⟩
  obtain ⟨t, ht, hq⟩ := hbody cdv A outer s H vs Q E (guards_deeper hg) (hr.deeper _) hsp
  have I : Inv (cxOf CX P w K mg base N qual scope f cdv A outer s H E) [] (start N vs) H s1 := inv_start S hr.hd e0 hl r x1
  refine wpAny_mono (ht.run [] s1 (start N vs) H _ I hq) (fun fl s' hs => ?_) fun e s' hs => hs
  cases fl with
  | ret u =>
    obtain ⟨v, σ', H', J, rv, q⟩ := hs
    exact ⟨v, H', J.os, J.bare, J.base, J.hok, rv, q⟩
  | next =>
    obtain ⟨σ', H', J, q⟩ := hs
    exact ⟨.non, H', J.os, J.bare, J.base, J.hok, rfl, q⟩
  | brk =>
    obtain ⟨_, _, _, q⟩ := hs
    exact q.elim
  | cont =>
    obtain ⟨_, _, _, q⟩ := hs
    exact q.elim
end
section
variable {X : Cx} {CX : CXT} {k : Nat} {f : Addr} {fd : FuncData} {ps : List Str} {sp : Sp} {dvs : List V} {ds : List Value} {E : XK} {x : Str} {p pos : Pos} {e : Expr} {es : List Expr} {t : TA}
theorem run_fnG {pins : List (Addr × Obj)} {σ : L2.St} {H : Hp} {s : Shared} {Q : VK} {us : List Value} {vs : List V} (F : FnOkG X.prog X.w X.K X.mg X.base CX k f fd ps sp) (hg : X.A.guards = some []) (hr : Room k X.A) (hb : Binds X.K fd ps ds) (hd : Vals dvs ds) (hx : Passes CX X E)
    (I : Inv X pins σ H s) (r : Vals vs us) (h : sp (vs ++ dvs) H Q E) : wpAny (model X.prog X.w) X.A (call (.ref f) us) (EP X pins σ Q) X.xe s := by
  have r2 : Vals (vs ++ dvs) (us ++ ds) := r.append hd
  have hl : (us ++ ds).length = ps.length := by rw [← r2.length]; exact F.len _ _ _ _ h
  refine wpAny_call (codeAny_mono (F.run X.A X.stack s H ⟨us, []⟩ (us ++ ds) (vs ++ dvs) Q E hg hr I.env0 (hb s us I.kIn hl) r2 h) fun r s' hq => ?_)
  cases r with
  | error e => exact hx pins σ H s e s' I hq
  | ok fl =>
    cases fl with
    | ret u => exact I.after hq
    | next => exact hq.elim
    | brk => exact hq.elim
    | cont => exact hq.elim
end
/-- a def of the module whose promise is told of callers without guards -/
structure CalG (P : Program) (w : World) (K : PySem.W.Frag) (mg : Str → Option Value) (base : Heap) (CX : CXT) (k : Nat) (x : Str) (ps : List Str) (sp : Sp) : Prop where
  ex : ∃ f fd, FnOkG P w K mg base CX k f fd ps sp ∧ mg x = some (.ref f) ∧ PySem.W.keepIn K (.ref f) = true ∧ Binds K fd ps []
section
variable {X : Cx} {CX : CXT} {k : Nat} {x : Str} {ps : List Str} {sp : Sp} {E : XK} {p pos : Pos} {e : Expr} {es : List Expr} {t : TA}
theorem pe_calG (c : CalG X.prog X.w X.K X.mg X.base CX k x ps sp) (hgd : X.A.guards = some []) (hr : Room k X.A) (hg : Gl X x) (hx : Passes CX X E) (ha : PA X (e :: es) t) (hdb : (x == ("__debug__" : Str)) = false := by decide)
    (he : starEach (e :: es) X.env = (false, eval e X.env) :: starEach es X.env := by rfl) (hpl : (backTo pos (starEach es X.env)).any (·.1) = false := by rfl) :
    PE X (.Call (.Name x p) (e :: es) [] pos) (tCall sp [] E t) := by
  obtain ⟨f, fd, F, hm, hk, hb⟩ := c.ex
  refine ⟨fun pins s σ H Q I h => ?_⟩
  refine wpAny_Call_Name_kw (ld_glob I hg hm ?_ hdb)
  refine PySem.W.callWith_K (h₀ := X.base) I.ok.mod.kin hk (thn (ha.run pos pins s σ H _ I h) fun us s1 ⟨vs, H1, I1, r, q⟩ => ⟨I1.kIn, ?_⟩) he hpl
  exact run_fnG F hgd hr hb .nil hx I1 r q
end
/-- the law is called where nothing is under way -/
theorem law_callG {P : Program} {w : World} {K : PySem.W.Frag} {mg mb : Str → Option Value} {CX : CXT} {k : Nat} {fa a : Addr} {fd : FuncData} {x : Str} {sp : Sp} {s₁ : Shared} {vs : List Value} {ns : List Int}
    (KX : K.In s₁.heap) (hns : s₁.heap.Ns mainGlobals mg) (hb : s₁.heap.Ns builtinsNs mb) (hbb : ∀ x : Str, x ≠ "__name__" → mb x = bootBuiltins x) (hlim : s₁.heap.NoLimit) (hg : s₁.gens = #[])
    (ha : s₁.heap.get? a = some { cls := .type "list", data := .seq vs.toArray }) (hi : IntsAre vs ns) (hl : ns.length ≤ sizeLine) (hr : Room k callerA)
    (F : ∀ base : Heap, K.In base → base.Ns mainGlobals mg → FnOkG P w K mg base CX k fa fd [x] sp) (hbind : ∀ (s : Shared) (u : Value), BindsTo s fd ⟨[u], []⟩ [(x, u)])
    (hsp : ∀ H : Hp, Only H → SqL K H a (ns.map V.int) → sp [.ref a] H (fun v _ => v = .bl true) fun _ _ _ => False)
    (hCX : ∀ H e s', CX [] H s₁ (fun _ _ _ => False) e s' → False) :
    codeAny (model P w) callerA (.call (.ref fa) ⟨[.ref a], []⟩) (fun r s' => r = .ok (.ret (.bool true)) ∧ OldK s₁.heap s'.heap ∧ s'.os = s₁.os ∧ AllBare s'.gens) s₁ := by
  have rv := vals_ints hi
  have lenV := hi.length
  have core : ∀ H : Hp, Only H → SqL K H a (ns.map V.int) → HOk P w H s₁.heap → (∀ b, H b ≠ none → b = a) → (H a ≠ none → K.lookup a = none) →
      codeAny (model P w) callerA (.call (.ref fa) ⟨[.ref a], []⟩) (fun r s' => r = .ok (.ret (.bool true)) ∧ OldK s₁.heap s'.heap ∧ s'.os = s₁.os ∧ AllBare s'.gens) s₁ := by
    intro H hO hS hok hA hK
    have base_of : ∀ {b : Addr} {o : Obj}, s₁.heap.get? b = some o → H b = none → (hidT s₁.heap H).get? b = some o := fun e n => hidT_get e n
    have noA : ∀ {b : Addr} {o : Obj} {es : Array DictEntry} {ep : Nat}, s₁.heap.get? b = some o → o.data = .dict es ep → H b = none := by
      intro b o es ep e d
      cases q : H b with
      | none => rfl
      | some u =>
        have e' : b = a := hA b (by rw [q]; simp)
        subst e'
        rw [ha] at e
        cases e
        have d' : Data.seq vs.toArray _ = Data.dict es ep := d
        cases d'
    have nsK : ∀ {b : Addr} {m : Str → Option Value}, s₁.heap.Ns b m → (hidT s₁.heap H).Ns b m := fun {b m} ⟨o, es, ep, e, d, r⟩ => ⟨o, es, ep, base_of e (noA e d), d, r⟩
    have hKb : K.In (hidT s₁.heap H) := fun b o e => base_of (KX b o e) (by
      cases q : H b with
      | none => rfl
      | some u =>
        have e' : b = a := hA b (by rw [q]; simp)
        subst e'
        rw [hK (by rw [q]; simp)] at e
        cases e)
    obtain ⟨mc, l1, l2⟩ := hlim
    have hM : Mod K mg (hidT s₁.heap H) := ⟨hKb, nsK hns, ⟨mb, nsK hb, hbb⟩, ⟨mc, nsK l1, l2⟩⟩
    have e0 : Env0 P w K mg (hidT s₁.heap H) callerA [] s₁ H := ⟨rfl, hM, fun b o e => of_hidT e, Nat.le_of_eq (hidT_size _ _), trivial, fun b hb => absurd (show b ∈ ([] : List Addr) from hb) (by simp), hok, .of_eq hg⟩
    refine codeAny_mono ((F _ hKb (nsK hns)).run callerA [] s₁ H ⟨[.ref a], []⟩ [.ref a] [.ref a] _ _ rfl hr e0 (hbind s₁ (.ref a)) (.cons rfl .nil) (hsp H hO hS)) fun r s' h => ?_
    cases r with
    | error e => exact (hCX H e s' h).elim
    | ok fl =>
      cases fl with
      | next => exact h.elim
      | brk => exact h.elim
      | cont => exact h.elim
      | ret u =>
        obtain ⟨v, H', os, bare, un, hok', r', q⟩ := h
        have q' : v = .bl true := q
        subst q'
        obtain rfl : u = Value.bool true := r'
        refine ⟨rfl, OldK.of_keep fun b o e => ?_, os, bare⟩
        cases q : H b with
        | none => exact un.keep b o e q (by intro z; exact absurd (show b ∈ ([] : List Addr) from z) (by simp)) (by simp)
        | some u =>
          rcases hO b with z | ⟨ob, xs, z⟩
          · rw [q] at z
            cases z
          · have z2 := un.frzs b ob _ z
            obtain ⟨e1, _⟩ := hok b _ z
            obtain ⟨e2, _⟩ := hok' b _ z2
            rw [e] at e1
            cases e1
            exact e2
  cases hk : K.lookup a with
  | some o =>
    have e := KX a o hk
    rw [ha] at e
    cases e
    refine core (fun _ => none) (fun _ => .inl rfl) (.inr ⟨_, vs.toArray, _, hk, rfl, rfl, rfl, by rw [List.size_toArray, lenV]; exact hl, by simpa using rv⟩) (fun b u z => by
      have z' : (none : Option HO) = some u := z
      cases z') (fun b z => absurd rfl z) fun z => absurd rfl z
  | none =>
    refine core (fun b => if b = a then some (.frz { cls := .type "list", data := .seq vs.toArray } (.lst (ns.map V.int))) else none) (fun b => ?_) (.inl (.inr ⟨{ cls := .type "list", data := .seq vs.toArray }, if_pos rfl⟩)) (fun b u z => ?_) (fun b z => ?_) fun _ => hk
    · by_cases hb : b = a
      · exact .inr ⟨_, _, if_pos hb⟩
      · exact .inl (if_neg hb)
    · by_cases hb : b = a
      · have z' := (if_pos hb).symm.trans z
        cases z'
        subst hb
        exact ⟨ha, by rw [List.length_map]; exact hl, vs, _, rv, ha⟩
      · have z' := (if_neg hb).symm.trans z
        cases z'
    · by_cases hb : b = a
      · exact hb
      · exact absurd (if_neg hb) z
theorem walk_ofG {l : PySem.W.OpenLaw} {n k : Nat} {q : Program} {loose : List Str} {XP : (Str → Option Value) → Heap → Prop} {YP : World → Heap → Prop} {d : DefRec} {CX : CXT} {x : Str}
    (hn : l.most = some n) (hn2 : n ≤ sizeLine) (hdf : d.params.defaults = []) (hr : Room k callerA)
    (F : ∀ (w : World) (mg : Str → Option Value) (fa : Addr) (h : Heap), YP w h → h.Ns mainGlobals mg → mg d.name = some (.ref fa) →
      ∃ (K : PySem.W.Frag) (fd : FuncData) (sp : Sp), K.In h ∧ (∀ (s : Shared) (u : Value), BindsTo s fd ⟨[u], []⟩ [(x, u)]) ∧
        (∀ (H : Hp) (a : Addr) (ns : List Int), ns.length ≤ n → Only H → SqL K H a (ns.map V.int) → sp [.ref a] H (fun v _ => v = .bl true) fun _ _ _ => False) ∧
        ∀ base : Heap, K.In base → base.Ns mainGlobals mg → FnOkG l.prog w K mg base CX k fa fd [x] sp)
    (hCX : ∀ (H : Hp) (s : Shared) (e : Value) (s' : Shared), CX [] H s (fun _ _ _ => False) e s' → False) :
    PySem.W.WalkO q loose XP YP l.row.toRowW d [] (fun f vs => PySem.call f vs) := by
  refine Att.attach_call hn hdf fun w s₀ s₁ mg mb fa o pm cd doc a vs ns G Y ho hd hcd hmg hobj hints hlen hg => ?_
  obtain ⟨K, fd, sp, KX, hb, hsp, hF⟩ := F w mg fa _ Y G.T.g hmg
  exact law_callG KX G.T.g G.T.b G.T.builtins G.T.nolimit hg hobj hints (Nat.le_trans hlen hn2) hr hF hb (fun H hO hS => hsp H a ns hlen hO hS) fun H e s' => hCX H s₁ e s'
end Rv
/-! Texts of lists of ints, and of own instances whose def makes a text. -/
namespace Rv
open PySem PySem.Spec PyProof.Rows L2
/-- what stands for a list of ints -/
def ltext (zs : List Int) : Str := (PyData.list (zs.map PyData.int)).shown
/-- ints that are not too many nor too long -/
def Small (zs : List Int) : Prop := zs.length ≤ 60 ∧ ∀ z ∈ zs, z.natAbs < 10 ^ 32
theorem ints_short : ∀ {zs : List Int}, (∀ z ∈ zs, z.natAbs < 10 ^ 32) → PyData.leavesShortAll 33 (zs.map PyData.int) = true
  | [], _ => by simp [PyData.leavesShortAll]
  | z :: r, h => by
    have h1 : (Str.ofString (toString z)).length ≤ 33 := by
      have := int_text_length_le10 (k := 32) (by decide) (h z List.mem_cons_self)
      rw [PySem.ofString_length]; exact this
    have h2 := ints_short fun y hy => h y (List.mem_cons_of_mem _ hy)
    simp only [List.map_cons, PyData.leavesShortAll, PyData.leavesShort, Bool.and_eq_true, decide_eq_true_eq]
    exact ⟨h1, h2⟩
theorem ints_bulk : ∀ zs : List Int, PyData.bulkAll (zs.map PyData.int) ≤ 3 * zs.length
  | [] => by simp [PyData.bulkAll]
  | z :: r => by
    have := ints_bulk r
    simp only [List.map_cons, PyData.bulkAll, PyData.bulk, List.length_cons]
    omega
theorem ltext_le {zs : List Int} (h : Small zs) : (ltext zs).length ≤ 10000 := by
  have e := PyData.shown_le_bulk 33 (by decide) (.list (zs.map PyData.int)) (by simpa only [PyData.leavesShort] using ints_short h.2)
  have w := ints_bulk zs
  have hl := h.1
  simp only [PyData.bulk] at e
  unfold ltext
  omega
theorem sizeLine_big : 200000 ≤ sizeLine := by decide
theorem small_log {z : Int} (h : z.natAbs < 10 ^ 32) : z.natAbs.log2 < 1920 := by
  by_cases h0 : z.natAbs = 0
  · rw [h0]; decide
  · exact (Nat.log2_lt h0).mpr (Nat.lt_of_lt_of_le h (by decide))
theorem ints_showable : ∀ {zs : List Int}, (∀ z ∈ zs, z.natAbs < 10 ^ 32) → PyData.showableAll (zs.map PyData.int) = true
  | [], _ => by simp [PyData.showableAll]
  | z :: r, h => by
    simp only [List.map_cons, PyData.showableAll, PyData.showable, Bool.and_eq_true, decide_eq_true_eq]
    exact ⟨small_log (h z List.mem_cons_self), ints_showable fun y hy => h y (List.mem_cons_of_mem _ hy)⟩
theorem ints_dict : ∀ zs : List Int, PyData.hasDictAll (zs.map PyData.int) = false
  | [] => by simp [PyData.hasDictAll]
  | z :: r => by simp only [List.map_cons, PyData.hasDictAll, PyData.hasDict, ints_dict r, Bool.or_false]
/-- str of a list of ints; {..} of one in an f-string -/
def TxL (x : V) (H : Hp) (Q : VK) : Prop := ∃ a, ∃ zs : List Int, x = .ref a ∧ H a = some (.lst (zs.map V.int)) ∧ Small zs ∧ Q (.str (ltext zs)) H
def cStrL : List V → Hp → VK → Prop := fun xs H Q => ∃ x, xs = [x] ∧ TxL x H Q
def tFmtL (te : TE) : TE := fun σ H Q => te σ H fun x H1 => TxL x H1 Q
section
variable {X : Cx}
theorem call_strL (hg : X.A.guards = some []) (hr : Room 1 X.A) : CallR X (.type "str") cStrL := by
  intro pins s σ H xs us Q I r h
  obtain ⟨x, rfl, a, zs, rfl, hl, hs, q⟩ := h
  obtain ⟨u, rfl, ru⟩ := vals1 r
  cases (show u = Value.ref a from ru)
  obtain ⟨as, rd⟩ := Dp.reads I (.list (zs.map PyData.int)) (.ref a) (.ref a) (.lst (sq_lst hl) (dp_ints zs)) rfl
  have hz := ltext_le hs
  have sb := sizeLine_big
  have d0 := (lay_ints zs).2
  have hu := hr.un
  refine PySem.str_of_reads rd (by simpa [PyData.showable] using ints_showable hs.2) (fun e => ?_) hg ?_ (fun b o e => e) (fun h' u tk hk => ⟨.str (ltext zs), H, I.kept hk, ⟨_, rfl⟩, q⟩) (by unfold ltext at hz; omega)
  · simp [PyData.hasDict, ints_dict] at e
  · simp only [PyData.depth, d0]; omega
theorem pe_fmtL (hg : X.A.guards = some []) (hr : Room 1 X.A) {e : Expr} {te : TE} {pos : Pos} (he : PE X e te) : PE X (.FormattedValue e (-1) none pos) (tFmtL te) := by
  refine ⟨fun pins s σ H Q I h => ?_⟩
  refine wpAny_FormattedValue_plain (thn (he.run pins s σ H _ I h) fun v s1 hv => ?_)
  obtain ⟨x, H1, I1, r1, a, zs, rfl, hl, hs, q⟩ := hv
  cases (show v = Value.ref a from r1)
  obtain ⟨as, rd⟩ := Dp.reads I1 (.list (zs.map PyData.int)) (.ref a) (.ref a) (.lst (sq_lst hl) (dp_ints zs)) rfl
  have hz := ltext_le hs
  have sb := sizeLine_big
  have d0 := (lay_ints zs).2
  have hu := hr.un
  refine PySem.formatField_of_reads rd (by simpa [PyData.showable] using ints_showable hs.2) (fun e => ?_) hg ?_ (fun b o e => e) (fun h' u tk hk => ⟨.str (ltext zs), H1, I1.kept hk, ⟨_, rfl⟩, q⟩) (by unfold ltext at hz; omega)
  · simp [PyData.hasDict, ints_dict] at e
  · simp only [PyData.depth, d0]; omega
end
/-- f'..' of two parts or more -/
def tJoin (ts : List TE) : TE := fun σ H Q => tJs ts Str.empty σ H fun out H1 => Q (.str out) H1
theorem pe_join {X : Cx} {v1 v2 : Expr} {rest : List Expr} {ts : List TE} {pos : Pos} (h : PJ X (v1 :: v2 :: rest) ts) : PE X (.JoinedStr (v1 :: v2 :: rest) pos) (tJoin ts) := pe_joined h
section
variable {σ : L2.St} {H : Hp} {Q : VK} {t te : TE} {ts : List TE} {acc : Str} {R : Str → Hp → Prop}
theorem w_join (q : tJs ts Str.empty σ H fun out H1 => Q (.str out) H1) : tJoin ts σ H Q := q
theorem w_js (q : t σ H fun x H1 => ∃ y : Str, x = .str y ∧ (acc ++ y).length ≤ sizeLine ∧ tJs ts (acc ++ y) σ H1 R) : tJs (t :: ts) acc σ H R := q
theorem w_js0 (q : R acc H) : tJs [] acc σ H R := q
theorem w_fmtL (q : te σ H fun x H1 => TxL x H1 Q) : tFmtL te σ H Q := q
end
/-- the class at C has a def of one parameter under the name nm, told of callers without guards -/
structure CalUG (P : Program) (w : World) (K : PySem.W.Frag) (mg : Str → Option Value) (base : Heap) (CX : CXT) (k : Nat) (C : Addr) (nm : Str) (sp : Sp) : Prop where
  ex : ∃ f fd, FnOkG P w K mg base CX k f fd ["self"] sp ∧ PySem.W.findIn K (.ref C) nm = some (some (.ref f)) ∧ PySem.W.isFn K (.ref f) = true ∧ Binds K fd ["self"] []
/-- repr of an own instance -/
def cReprO (C : Addr) (sp : Sp) (E : XK) : List V → Hp → VK → Prop := fun xs H Q => ∃ a dx fs, xs = [.ref a] ∧ H a = some (.ins C dx fs) ∧ sp [.ref a] H (fun z H' => ∃ y, z = .str y ∧ Q (.str y) H') E
section
variable {X : Cx} {CX : CXT} {k : Nat} {sp : Sp} {E : XK} {C : Addr}
theorem call_reprO (c : CalUG X.prog X.w X.K X.mg X.base CX k C "__repr__" sp) (hg : X.A.guards = some []) (hr : Room (k + 1) X.A) (hx : Passes CX X E) : CallR X (.builtin "repr") (cReprO C sp E) := by
  intro pins s σ H xs us Q I r h
  obtain ⟨a, dx, fs, rfl, ha, q⟩ := h
  obtain ⟨u, rfl, ru⟩ := vals1 r
  cases (show u = Value.ref a from ru)
  obtain ⟨f, fd, F, hs, hf, hb⟩ := c.ex
  obtain ⟨mA, J, _⟩ := ins_get I.hok ha
  obtain ⟨od, J, _⟩ := J.look
  obtain ⟨m, hF⟩ := I.fr
  have hl := F.len _ _ _ _ q
  have r2 : Vals [V.ref a] [Value.ref a] := .cons rfl .nil
  refine PySem.W.repr_K hr.in1.units0 hF I.ok.mod.kin J hs hf ?_
  refine wpAny_call (codeAny_mono (F.run X.A.in1 X.stack s H ⟨[.ref a], []⟩ [.ref a] [.ref a] _ E hg hr.in1 I.env0.in1 (by
    have := hb s [.ref a] I.kIn (by simpa using hl)
    simpa using this) r2 q) fun r s' hq => ?_)
  cases r with
  | error e => exact hx pins σ H s e s' I hq
  | ok fl =>
    cases fl with
    | ret w =>
      obtain ⟨z, H', I', rz, y, rfl, qz⟩ := I.after hq
      obtain ⟨t, rfl⟩ := (show ∃ t, w = Value.str y t from rz)
      exact ⟨.str y, H', I', ⟨t, rfl⟩, qz⟩
    | next => exact False.elim hq
    | brk => exact False.elim hq
    | cont => exact False.elim hq
end
end Rv
/-! t[::-1] of a tuple. -/
namespace HT
open PySem PySem.Spec PyProof.Rows L2
section
variable {prog : Program} {w : World} {A : Around} {E : Value → Shared → Prop} {s : Shared}
theorem rv_adjust (n : Nat) : Builtin.Slice.sliceAdjust none none (-1) (n : Int) = ((n : Int) - 1, -1) := by
  unfold Builtin.Slice.sliceAdjust
  simp
theorem rv_places (n : Nat) : Builtin.Slice.slicePlaces ((n : Int) - 1) (-1) (-1) = n := by
  unfold Builtin.Slice.slicePlaces
  have h1 : ¬ ((-1 : Int) > 0) := by omega
  rw [if_neg h1]
  by_cases h : n = 0
  · subst h
    rfl
  · have h2 : (n : Int) - 1 > -1 := by omega
    rw [if_pos h2]
    have e : (n : Int) - 1 - -1 - 1 = (n : Int) - 1 := by omega
    rw [e]
    show (((n : Int) - 1) / 1 + 1).toNat = n
    rw [Int.ediv_one]
    omega
theorem rv_sliceRev {sl : Addr} {vl vu vs : Value} {n : Nat} {Q : Int × Int × Nat → Shared → Prop} (hs : s.heap.IsSliceOf sl vl vu vs) (pl : IsPart vl none) (pu : IsPart vu none) (ps : IsPart vs (some (-1)))
    (h : Q ((n : Int) - 1, -1, n) s) : wpAny (model prog w) A (Builtin.Slice.sliceApplied (.ref sl) (pure (n : Int))) Q E s := by
  obtain ⟨os, hos, hcs, hds⟩ := id hs
  unfold Builtin.Slice.sliceApplied Builtin.Slice.sliceFields
  refine wpAny_bind (wpAny_bind (wpAny_field hos hds (x := vl) rfl (wpAny_bind (wpAny_field hos hds (x := vu) rfl (wpAny_bind (wpAny_field hos hds (x := vs) rfl (wpAny_pure ?_)))))))
  refine wpAny_bind (slicePart_ ps ?_)
  show wpAny _ _ (if ((-1 : Int) == 0) = true then _ else _) _ _ s
  rw [if_neg (by decide)]
  refine wpAny_bind (slicePart_ pl (wpAny_bind (slicePart_ pu (wpAny_bind (wpAny_pure ?_)))))
  show wpAny _ _ (match Builtin.Slice.sliceAdjust none none (-1) (n : Int) with | (lo, hi) => pure (lo, (-1 : Int), Builtin.Slice.slicePlaces lo hi (-1))) _ _ s
  rw [rv_adjust n]
  show wpAny _ _ (pure ((n : Int) - 1, (-1 : Int), Builtin.Slice.slicePlaces ((n : Int) - 1) (-1) (-1))) _ _ s
  rw [rv_places]
  exact wpAny_pure h
theorem rv_pick (xs : Array Value) : ∀ k : Nat, k ≤ xs.size → (List.range k).filterMap (fun (m : Nat) => xs[((xs.size : Int) - 1 + (m : Int) * (-1)).toNat]?) = xs.toList.reverse.take k
  | 0, _ => by simp
  | k + 1, hk => by
    rw [List.range_succ, List.filterMap_append, rv_pick xs k (by omega), List.take_add_one]
    congr 1
    have e : ((xs.size : Int) - 1 + (k : Int) * (-1)).toNat = xs.size - 1 - k := by omega
    have e2 : xs.toList.reverse[k]? = xs[xs.size - 1 - k]? := by
      rw [List.getElem?_reverse (by simp; omega)]
      simp
    rw [e2]
    have e3 : xs[xs.size - 1 - k]? = some xs[xs.size - 1 - k] := Array.getElem?_eq_getElem (by omega)
    simp only [List.filterMap_cons, List.filterMap_nil, e, e3]
    rfl
theorem rv_getRev {t sl : Addr} {items : Array Value} {vl vu vs : Value} {Q : Value → Shared → Prop} (ht : IsTup s.heap t items) (hs : s.heap.IsSliceOf sl vl vu vs) (pl : IsPart vl none) (pu : IsPart vu none) (ps : IsPart vs (some (-1)))
    (h : Q (.ref s.heap.objs.size) { s with heap := s.heap.push { cls := .type "tuple", data := .seq items.toList.reverse.toArray } })
    (hsz : items.size ≤ sizeLine) : wpAny (model prog w) A (getItem (.ref t) (.ref sl)) Q E s := by
  have htake : sizeOk (.seq items.toList.reverse.toArray) := by
    show items.toList.reverse.toArray.size ≤ sizeLine
    rw [List.size_toArray, List.length_reverse, Array.length_toList]
    exact hsz
  obtain ⟨os, hos, hcs, hds⟩ := id hs
  have hTs : s.TypeIs (.ref sl) "slice" := ⟨os, hos, hcs⟩
  unfold getItem
  try with_reducible refine wpAny_holding ?_
  first | refine wpAny_bind (wpAny_pure ?_) | skip
  refine wpAny_bind (wpAny_sequenceKey ht.typeIs (by decide) ?_)
  refine wpAny_bind (wpAny_callSpecial?_slot (name := Str.ofString "__getitem__") ht.typeIs PyProof.Rows.slot_tuple_getitem
    (wpAny_call_entry PyProof.Rows.slot_tuple_getitem ht.typeIs entry_tuple_getitem ?_ (args_tuple_getitem _ _)))
  show wpAny _ _ (Builtin.Tuple.tupleItemsOf (.ref t) >>= _) _ _ s
  refine wpAny_bind (tupleItemsOf_ ht ?_)
  refine wpAny_bind (wpAny_typeOf hTs ?_)
  rw [if_pos (by decide)]
  refine wpAny_bind (rv_sliceRev hs pl pu ps ?_)
  have hno : ¬ (((items.size : Int) - 1 == 0 && (-1 : Int) == 1 && items.size == items.size) = true) := by
    intro q
    rw [Bool.and_eq_true, Bool.and_eq_true] at q
    have q1 := q.1.2
    revert q1
    decide
  show wpAny _ _ (if ((items.size : Int) - 1 == 0 && (-1 : Int) == 1 && items.size == items.size) = true then _ else _) _ _ s
  have ep : ((List.range items.size).filterMap (fun (m : Nat) => items[((items.size : Int) - 1 + (m : Int) * (-1)).toNat]?)).toArray = items.toList.reverse.toArray := by
    rw [rv_pick items items.size (Nat.le_refl _), List.take_of_length_le (by simp)]
  rw [if_neg hno, ep]
  first
    | exact wpAny_bind (m := Builtin.Tuple.tupleExact _) (wpAny_newObj_type (wpAny_pure ⟨_, rfl, wpAny_pure h⟩) htake)
    | exact wpAny_bind (m := Builtin.Tuple.tupleExact _) (wpAny_newObj_type (wpAny_bind (wpAny_pure (wpAny_pure ⟨_, rfl, wpAny_pure h⟩))) htake)
    | exact wpAny_bind (wpAny_bind (m := Builtin.Tuple.tupleExact _) (wpAny_newObj_type (wpAny_pure (wpAny_pure ⟨_, rfl, wpAny_pure h⟩)) htake))
    | exact wpAny_bind (wpAny_bind (m := Builtin.Tuple.tupleExact _) (wpAny_newObj_type (wpAny_pure ⟨_, rfl, wpAny_pure h⟩) htake))
end
end HT
namespace Rv
open PySem PySem.Spec PyProof.Rows L2
section
variable {X : Cx}
def tRevT (K : PySem.W.Frag) (te : TE) : TE := fun σ H Q => te σ H fun x H1 => ∃ a xs, x = .ref a ∧ SqT K H1 a xs ∧ ∀ p, H1 p = none → Q (.ref p) (upd H1 p (.tup xs.reverse))
theorem pe_revT {e : Expr} {te : TE} {k : Nat} {p1 p2 p3 pos : Pos} (he : PE X e te) : PE X (.Subscript e (.Slice none none (some (.UnaryOp .USub (.Constant (.int 1) k p1) p2)) p3) pos) (tRevT X.K te) := by
  refine ⟨fun pins s σ H Q I h => ?_⟩
  refine Subscript_ (thn (he.run pins s σ H _ I h) fun v s1 ⟨x, H1, I1, r1, q1⟩ => ?_)
  obtain ⟨a, xs, ex, hx, q⟩ := q1
  subst ex
  cases r1
  have hst : PO X (some (.UnaryOp .USub (.Constant (.int 1) k p1) p2)) (tPart (tUn (rU fun i => .int (-i)) (tC (.int 1)))) := po_some (pe_un un_neg pe_int)
  refine wpAny_Slice (thn (po_none.run pins s1 σ H1 (fun o H2 => o = none ∧ H2 = H1) I1 ⟨rfl, rfl⟩) fun vl s2 ⟨l, H2, I2, pl, el, e2⟩ => ?_)
  subst el e2
  refine thn (po_none.run pins s2 σ H2 (fun o H3 => o = none ∧ H3 = H2) I2 ⟨rfl, rfl⟩) fun vu s3 ⟨u, H3, I3, pu, eu, e3⟩ => ?_
  subst eu e3
  refine thn (hst.run pins s3 σ H3 (fun o H4 => o = some (-1) ∧ H4 = H3) I3 ⟨1, rfl, -1, rfl, rfl, rfl⟩) fun vs s4 ⟨o, H4, I4, ps, eo, e4⟩ => ?_
  subst eo e4
  have I5 : Inv X pins σ H4 { s4 with heap := s4.heap.push { cls := .type "slice", data := .fields #[vl, vu, vs] } } := I4.kept (t' := s4.toks) fun b ob q => Heap.get?_push_of_some _ q
  obtain ⟨its, r, ht, hz⟩ := I5.tuple hx
  have hlen := r.length
  show wpAny (model X.prog X.w) X.A (subscriptTail e (.Slice none none (some (.UnaryOp .USub (.Constant (.int 1) k p1) p2)) p3) (.ref a) (.ref s4.heap.objs.size)) (EP X pins σ Q) X.xe { s4 with heap := s4.heap.push { cls := .type "slice", data := .fields #[vl, vu, vs] } }
  refine tail_any (ops := [.ref a, .ref s4.heap.objs.size]) ht.typeIs (PyProof.Rows.slot_tuple_getitem.lookup) ?_ (by with_unfolding_all rfl)
  refine HT.rv_getRev ht (Heap.IsSliceOf.new _ vl vu vs) pl pu ps ?_ (by rw [List.size_toArray]; omega)
  refine ⟨.ref _, _, I5.laid (t' := s4.toks) (o := .tup xs.reverse) (fun b ob q => Heap.get?_push_of_some _ q) (Nat.le_refl _) ?_, rfl, q _ (I5.hok.fresh (Nat.le_refl _))⟩
  exact ⟨by rw [List.length_reverse]; exact hz, _, r.reverse, IsTup.new _ _⟩
end
end Rv
/-! Comparisons of an int with an instance of an own class: the int declines, the class's own def answers; own comparisons with values of any kind. -/
namespace Rv
open PySem PySem.Spec PyProof.Rows L2
/-- the int's own comparison under the name id does not answer to an instance -/
structure IntDec (op : CmpOp) (id : String) (B : Builtin) : Prop where
  hop : ∀ a b, compareOp op a b = richCompare op a b
  slot : Slot "int" (cmpInfo op).2.1 id
  entry : entryFor table id = some B
  args : ∀ a b : Value, argsOk id ⟨[a, b], []⟩
  no : ∀ (i : Int) (t : Tok) (x C dx : Addr), Meets (B ⟨[.int i t, .ref x], []⟩) (fun _ R s => s.heap.get? x = some (PySem.W.instObj C dx) ∧ R (.ok (.ret .notImplemented)) s)
theorem dec_lt : IntDec .Lt "int.__lt__" Builtin.«int.__lt__» := by
  refine ⟨fun _ _ => rfl, PySem.F.slot_int_lt, PySem.F.entry_int_lt, fun a b => PySem.F.args_int_lt_2 a b, fun i t x C dx => .of_wp fun prog w A R s h => ?_⟩
  obtain ⟨hp, g, d, tk, os⟩ := s
  obtain ⟨hl, h⟩ := h
  wp_walk using AutoSeq1.wpAny_loadPart' hl
  exact ⟨_, rfl, h⟩
theorem dec_le : IntDec .LtE "int.__le__" Builtin.«int.__le__» := by
  refine ⟨fun _ _ => rfl, PySem.F.slot_int_le, PySem.F.entry_int_le, fun a b => PySem.F.args_int_le_2 a b, fun i t x C dx => .of_wp fun prog w A R s h => ?_⟩
  obtain ⟨hp, g, d, tk, os⟩ := s
  obtain ⟨hl, h⟩ := h
  wp_walk using AutoSeq1.wpAny_loadPart' hl
  exact ⟨_, rfl, h⟩
theorem dec_gt : IntDec .Gt "int.__gt__" Builtin.«int.__gt__» := by
  refine ⟨fun _ _ => rfl, PySem.F.slot_int_gt, PySem.F.entry_int_gt, fun a b => PySem.F.args_int_gt_2 a b, fun i t x C dx => .of_wp fun prog w A R s h => ?_⟩
  obtain ⟨hp, g, d, tk, os⟩ := s
  obtain ⟨hl, h⟩ := h
  wp_walk using AutoSeq1.wpAny_loadPart' hl
  exact ⟨_, rfl, h⟩
theorem dec_ge : IntDec .GtE "int.__ge__" Builtin.«int.__ge__» := by
  refine ⟨fun _ _ => rfl, PySem.F.slot_int_ge, PySem.F.entry_int_ge, fun a b => PySem.F.args_int_ge_2 a b, fun i t x C dx => .of_wp fun prog w A R s h => ?_⟩
  obtain ⟨hp, g, d, tk, os⟩ := s
  obtain ⟨hl, h⟩ := h
  wp_walk using AutoSeq1.wpAny_loadPart' hl
  exact ⟨_, rfl, h⟩
theorem dec_eq : IntDec .Eq "int.__eq__" Builtin.«int.__eq__» := by
  refine ⟨fun _ _ => rfl, PySem.F.slot_int_eq, PySem.F.entry_int_eq, fun a b => PySem.F.args_int_eq_2 a b, fun i t x C dx => .of_wp fun prog w A R s h => ?_⟩
  obtain ⟨hp, g, d, tk, os⟩ := s
  obtain ⟨hl, h⟩ := h
  wp_walk using AutoSeq1.wpAny_loadPart' hl
  exact ⟨_, rfl, h⟩
theorem dec_ne : IntDec .NotEq "int.__ne__" Builtin.«int.__ne__» := by
  refine ⟨fun _ _ => rfl, PySem.F.slot_int_ne, PySem.F.entry_int_ne, fun a b => PySem.F.args_int_ne_2 a b, fun i t x C dx => .of_wp fun prog w A R s h => ?_⟩
  obtain ⟨hp, g, d, tk, os⟩ := s
  obtain ⟨hl, h⟩ := h
  wp_walk using AutoSeq1.wpAny_loadPart' hl
  exact ⟨_, rfl, h⟩
/-- i op o: the reflected def of o's class answers -/
def rRefl (C : Addr) (sp : Sp) (E : XK) : R2 := fun x y H Q => ∃ i a dx fs, x = .int i ∧ y = .ref a ∧ H a = some (.ins C dx fs) ∧ sp [.ref a, .int i] H Q E
section
variable {X : Cx} {CX : CXT} {k : Nat} {sp : Sp} {E : XK} {C : Addr}
theorem op_refl {op : CmpOp} {id : String} {B : Builtin} (D : IntDec op id B) (c : CalO X.prog X.w X.K X.mg X.base CX k C (cmpInfo op).2.2 sp) (hsub : PySem.W.subIn X.K (.ref C) (.type "int") = some false) (hr : Room k X.A) (hx : Passes CX X E) : OpR X (compareOp op) (rRefl C sp E) := by
  intro pins s σ H x y v u Q I rx ry h
  obtain ⟨i, a, dx, fs, rfl, rfl, ha, q⟩ := h
  cases (show u = Value.ref a from ry)
  obtain ⟨t, rfl⟩ := (show ∃ t, v = Value.int i t from rx)
  obtain ⟨f, fd, F, hs, hf, hb⟩ := c.ex
  have go := run2 (y := .int i) (u := .int i t) F hb hx hr I ⟨t, rfl⟩ q
  obtain ⟨mA, J, _⟩ := ins_get I.hok ha
  obtain ⟨od, J, _⟩ := J.look
  obtain ⟨m, hF⟩ := I.fr
  have hk := I.ok.mod.kin.keeps hF.keep
  obtain ⟨_, _, _, hget, _⟩ := (show ObjOk X.prog X.w H s.heap a (.ins C dx fs) from I.hok a _ ha)
  rw [D.hop]
  have one : wpAny (model X.prog X.w) X.A (tryCompare (.ref a) (cmpInfo op).2.2 (.int i t)) (fun r s' => ∃ v, r = some v ∧ EP X pins σ Q v s') X.xe s := by
    unfold tryCompare
    refine wpAny_bind (PySem.W.ifBound_K hk J hs hf (wpAny_mono go (fun v s' hv => ?_) fun _ _ e => e))
    cases v <;> first | exact hv.elim | exact wpAny_pure ⟨_, rfl, hv⟩
  unfold richCompare
  have h1 : oneThing? op (.int i t) (.ref a) = none := rfl
  simp only [h1]
  refine wpAny_holding (wpAny_bind (wpAny_cRoomFor hr.units0 ?_))
  refine wpAny_bind (wpAny_typeOf (typeIs_int s i t) (wpAny_bind (J.type.here ?_)))
  have hne : (Value.type "int" != Value.ref C) = true := rfl
  rw [if_pos hne]
  refine wpAny_bind ((PySem.W.looks_subIn hk hsub).here ?_)
  simp only [Bool.false_eq_true, if_false, Bool.not_false, if_true]
  refine wpAny_bind (m := tryCompare (.int i t) _ (.ref a)) (wpAny_tryCompare_declines (typeIs_int s i t) D.slot (call_meets D.slot (typeIs_int s i t) D.entry (D.args _ _) (D.no i t a C dx) ⟨hget, rfl, ?_⟩))
  refine wpAny_bind (m := tryCompare (.ref a) _ (.int i t)) (wpAny_mono one (fun r s' z => ?_) fun _ _ e => e)
  obtain ⟨v, rfl, hq⟩ := z
  exact wpAny_pure hq
end
end Rv
/-! Own comparisons with values of any kind, in both orders. -/
namespace Rv
open PySem PySem.Spec PyProof.Rows L2
/-- a value of another kind: its type is no subclass of C's -/
structure OddV (K : PySem.W.Frag) (C : Addr) (H : Hp) (v : V) (T : String) : Prop where
  tb : TyB K H v T
  tx : TyX K H v (.type T)
  ki : PySem.W.kitOne K (.type T) (.ref C) = some false
  nf : PySem.W.notFirst K C (.type T) = true
  wh : Whole K H v
  ni : isI v = false
def rOwnX (K : PySem.W.Frag) (C : Addr) (sp : Sp) (E : XK) : R2 := fun x y H Q => ∃ a dx fs, x = .ref a ∧ H a = some (.ins C dx fs) ∧ (Snd C H y ∨ ∃ T, OddV K C H y T) ∧ sp [x, y] H Q E
def rCmpB (K : PySem.W.Frag) (C : Addr) (sp sp' : Sp) (E : XK) : R2 := fun x y H Q => rOwnX K C sp E x y H Q ∨ rRefl C sp' E x y H Q
section
variable {X : Cx} {CX : CXT} {k : Nat} {sp sp' : Sp} {E : XK} {C : Addr} {pins : List (Addr × Obj)} {σ : L2.St} {H : Hp} {s : Shared}
theorem looks_tyB {x : V} {u : Value} {T : String} (I : Inv X pins σ H s) (rx : RelV x u) (t : TyB X.K H x T) : PySem.W.Looks (model X.prog X.w) s.heap (typeOf u) (.type T) := by
  have ty := TyB.is I rx t
  cases t with
  | non => cases (show u = Value.none from rx); exact PySem.W.Looks.of_pure rfl
  | bl b => cases (show u = Value.bool b from rx); exact PySem.W.Looks.of_pure rfl
  | int i => obtain ⟨t, rfl⟩ := (show ∃ t, u = Value.int i t from rx); exact PySem.W.Looks.of_pure rfl
  | str y => obtain ⟨t, rfl⟩ := (show ∃ t, u = Value.str y t from rx); exact PySem.W.Looks.of_pure rfl
  | byt b => exact fun A Q E s' kp q => wpAny_typeOf (T := "bytes") (by
      cases u with
      | ref a =>
        obtain ⟨o, ho, hc⟩ := ty
        exact ⟨o, kp _ _ ho, hc⟩
      | _ => exact ty) q
  | lst h =>
    cases (show u = Value.ref _ from rx)
    obtain ⟨o, ho, hc⟩ := ty
    exact fun A Q E s' kp q => wpAny_typeOf (T := "list") ⟨o, kp _ _ ho, hc⟩ q
  | tup h =>
    cases (show u = Value.ref _ from rx)
    obtain ⟨o, ho, hc⟩ := ty
    exact fun A Q E s' kp q => wpAny_typeOf (T := "tuple") ⟨o, kp _ _ ho, hc⟩ q
  | dK h =>
    cases (show u = Value.ref _ from rx)
    obtain ⟨o, ho, hc⟩ := ty
    exact fun A Q E s' kp q => wpAny_typeOf (T := "dict") ⟨o, kp _ _ ho, hc⟩ q
theorem op_ownX {op : CmpOp} (hop : ∀ a b, compareOp op a b = richCompare op a b) (c : CalO X.prog X.w X.K X.mg X.base CX k C (cmpInfo op).2.1 sp) (oc : OpC X.K C) (hr : Room k X.A) (hx : Passes CX X E) : OpR X (compareOp op) (rOwnX X.K C sp E) := by
  intro pins s σ H x y v u Q I rx ry h
  obtain ⟨a, dx, fs, rfl, ha, sy, q⟩ := h
  rcases sy with sy | ⟨T, o⟩
  · exact op_ownC hop c oc hr hx pins s σ H _ _ v u Q I rx ry ⟨a, dx, fs, rfl, ha, sy, q⟩
  · cases (show v = Value.ref a from rx)
    obtain ⟨f, fd, F, hs, hf, hb⟩ := c.ex
    obtain ⟨mA, J, _⟩ := ins_get I.hok ha
    obtain ⟨od, J, _⟩ := J.look
    obtain ⟨m, hF⟩ := I.fr
    rw [hop]
    have go := run2 (y := y) (u := u) F hb hx hr I ry q
    exact PySem.W.cmp_K (op := op) (tb := .type T) hr.units0 hF I.ok.mod.kin J (looks_tyB I ry o.tb) o.nf hs hf go
theorem op_both {op : CmpOp} {id : String} {B : Builtin} (D : IntDec op id B) (c : CalO X.prog X.w X.K X.mg X.base CX k C (cmpInfo op).2.1 sp) (c' : CalO X.prog X.w X.K X.mg X.base CX k C (cmpInfo op).2.2 sp') (oc : OpC X.K C)
    (hsub : PySem.W.subIn X.K (.ref C) (.type "int") = some false) (hr : Room k X.A) (hx : Passes CX X E) : OpR X (compareOp op) (rCmpB X.K C sp sp' E) := by
  intro pins s σ H x y v u Q I rx ry h
  rcases h with h | h
  · exact op_ownX D.hop c oc hr hx pins s σ H x y v u Q I rx ry h
  · exact op_refl D c' hsub hr hx pins s σ H x y v u Q I rx ry h
end
section
variable {K : PySem.W.Frag} {H : Hp} {Q : VK} {C a dx : Addr} {fs : List (Str × V)} {sp sp' : Sp} {E : XK} {y : V} {i : Int}
theorem w_cbN {n d t b : Int} (ha : RatAt C H a t b) (hy : Num C H y n d) (q : sp [.ref a, y] H Q E) : rCmpB K C sp sp' E (.ref a) y H Q := by
  obtain ⟨_, dx, ha⟩ := ha
  rcases hy with ⟨rfl, _⟩ | ⟨p, rfl, _, dy, hp⟩
  · exact .inl ⟨a, dx, _, rfl, ha, .inl (.int n), q⟩
  · exact .inl ⟨a, dx, _, rfl, ha, .inl (.own hp), q⟩
theorem w_cbO {t b : Int} {T : String} (ha : RatAt C H a t b) (o : OddV K C H y T) (q : sp [.ref a, y] H Q E) : rCmpB K C sp sp' E (.ref a) y H Q := by
  obtain ⟨_, dx, ha⟩ := ha
  exact .inl ⟨a, dx, _, rfl, ha, .inr ⟨T, o⟩, q⟩
/-- the same with the number first -/
theorem w_cbR {n d t b : Int} (ha : RatAt C H a t b) (hy : Num C H y n d) (q1 : y = .int n → d = 1 → sp' [.ref a, y] H Q E) (q2 : ∀ p, y = .ref p → RatAt C H p n d → sp [y, .ref a] H Q E) : rCmpB K C sp sp' E y (.ref a) H Q := by
  obtain ⟨_, dx, ha⟩ := ha
  rcases hy with ⟨rfl, hd⟩ | ⟨p, rfl, hp⟩
  · exact .inr ⟨n, a, dx, _, rfl, rfl, ha, q1 rfl hd⟩
  · obtain ⟨_, dy, hp'⟩ := id hp
    exact .inl ⟨p, dy, _, rfl, hp', .inl (.own ha), q2 p rfl hp⟩
end
/-! lowest terms -/
theorem red_uniq {t b n d : Int} (g1 : Int.gcd t b = 1) (g2 : Int.gcd n d = 1) (pb : 0 < b) (pd : 0 < d) (e : t * d = n * b) : t = n ∧ b = d := by
  have e1 : t.natAbs * d.natAbs = n.natAbs * b.natAbs := by rw [← Int.natAbs_mul, ← Int.natAbs_mul, e]
  have c1 : Nat.Coprime b.natAbs t.natAbs := by
    have : Nat.gcd t.natAbs b.natAbs = 1 := g1
    exact (Nat.gcd_comm _ _).trans this
  have c2 : Nat.Coprime d.natAbs n.natAbs := by
    have : Nat.gcd n.natAbs d.natAbs = 1 := g2
    exact (Nat.gcd_comm _ _).trans this
  have d1 : b.natAbs ∣ d.natAbs := Nat.Coprime.dvd_of_dvd_mul_left c1 ⟨n.natAbs, by rw [e1, Nat.mul_comm]⟩
  have d2 : d.natAbs ∣ b.natAbs := Nat.Coprime.dvd_of_dvd_mul_left c2 ⟨t.natAbs, by rw [← e1, Nat.mul_comm]⟩
  have eq := Nat.dvd_antisymm d1 d2
  have ebd : b = d := by omega
  subst ebd
  exact ⟨Int.eq_of_mul_eq_mul_right (by omega) e, rfl⟩
/-- the sign of the gap of two fractions in lowest terms is that of the cross products -/
theorem gap_sign {t b n e a q c d : Int} (h1 : t * q = a * b) (h2 : n * d = c * e) (pb : 0 < b) (pe : 0 < e) (pq : 0 < q) (pd : 0 < d) : (t * e < n * b ↔ a * d < c * q) ∧ (t * e = n * b ↔ a * d = c * q) := by
  have k1 : (t * e) * (q * d) = (a * d) * (b * e) := by
    calc (t * e) * (q * d) = (t * q) * (e * d) := by ac_rfl
      _ = (a * d) * (b * e) := by rw [h1]; ac_rfl
  have k2 : (n * b) * (q * d) = (c * q) * (b * e) := by
    calc (n * b) * (q * d) = (n * d) * (b * q) := by ac_rfl
      _ = (c * q) * (b * e) := by rw [h2]; ac_rfl
  have p1 := Int.mul_pos pq pd
  have p2 := Int.mul_pos pb pe
  generalize q * d = m1 at k1 k2 p1
  generalize b * e = m2 at k1 k2 p2
  constructor
  · constructor
    · intro h
      have := Int.mul_lt_mul_of_pos_right h p1
      rw [k1, k2] at this
      exact Int.lt_of_mul_lt_mul_right this (by omega)
    · intro h
      have := Int.mul_lt_mul_of_pos_right h p2
      rw [← k1, ← k2] at this
      exact Int.lt_of_mul_lt_mul_right this (by omega)
  · constructor
    · intro h
      rw [h] at k1
      exact Int.eq_of_mul_eq_mul_right (by omega) (k1.symm.trans k2)
    · intro h
      rw [h] at k1
      exact Int.eq_of_mul_eq_mul_right (by omega) (k1.trans k2.symm)
end Rv
/-! != of instances with an own == and no own !=; + of two own instances. -/
namespace PySem.W
open PySem PySem.Spec PyProof.Rows
section
variable {prog : Program} {w : World} {A : Around} {E : Value → Shared → Prop} {s : Shared} {K : Frag} {x C L f : Addr} {h₀ : Heap} {m : Str → Option Value} {ox : Obj} {od : Option Obj} {b tb : Value}
theorem rvn_entry {Q : Fin → Shared → Prop} (hu : A.units < cLine) (X : K.In s.heap) (I : InstAt s.heap x ox C od) (hs : findIn K (.ref C) "__eq__" = some (some (.ref f))) (hf : isFn K (.ref f) = true)
    (h : wpAny (model prog w) A (call (.ref f) [.ref x, b]) (fun v s' => ∃ c, v = .bool c ∧ Q (.done (.ret (.bool (!c)))) s') E s) : wpAny (model prog w) A (Builtin.«object.__ne__» ⟨[.ref x, b], []⟩) Q E s := by
  unfold Builtin.«object.__ne__»
  repeat (first | with_reducible refine wpAny_cRoomFor hu ?_ | with_reducible refine wpAny_bind (ifBound_K X I hs hf (wpAny_mono h (fun v s' hv => ?_) fun _ _ e => e)) | wp_step)
  obtain ⟨c, rfl, q⟩ := hv
  repeat (first | with_reducible refine wpAny_bind (wpAny_truthy_bool ?_) | wp_step)
  exact q
theorem rvn_call {Q : Value → Shared → Prop} (hu : A.in1.units < cLine) (X : K.In s.heap) (I : InstAt s.heap x ox C od) (hm : mroIn K C (.type "object") = some true) (hs : findIn K (.ref C) "__eq__" = some (some (.ref f))) (hf : isFn K (.ref f) = true)
    (h : wpAny (model prog w) A.in1 (call (.ref f) [.ref x, b]) (fun v s' => ∃ c, v = .bool c ∧ Q (.bool (!c)) s') E s) : wpAny (model prog w) A (call (.builtin "object.__ne__") [.ref x, b]) Q E s :=
  wpAny_call (codeAny_call_builtin F.cmp_object.ne.plain F.cmpEntry_ne (check_slot F.cmpKind_ne F.cmpSplit_ne (I.type.andThen (looks_mroIn X hm)) (F.cmpArgs_ne _ _) (rvn_entry hu X I hs hf h)))
theorem rvn_bound {M : Model} {args : List Value} {Q : Option Value → Shared → Prop} (X : K.In s.heap) (I : InstAt s.heap x ox C od) (hs : findIn K (.ref C) "__ne__" = some (some (.builtin "object.__ne__")))
    (h : wpAny M A (call (.builtin "object.__ne__") (.ref x :: args)) (fun v => Q (some v)) E s) : wpAny M A (callSpecialIfBound? (.ref x) "__ne__" args) Q E s := by
  simp only [callSpecialIfBound?, bindSpecialIfBound?]
  refine wpAny_holding (wpAny_bind (wpAny_bind (wpAny_bind (I.type.here ((looks_findIn X hs).here ?_)))))
  refine wpAny_bind (wpAny_askSetting (wpAny_ite ?_))
  have fin : wpAny M A (call (.builtin "object.__ne__") ([.ref x] ++ args) >>= fun v => pure (some v)) Q E s := wpAny_bind (wpAny_mono h (fun v s' h' => wpAny_pure h') fun _ _ h' => h')
  split
  · exact wpAny_bind (wpAny_of_eq (F.cmp_object.ne.bind _) (wpAny_pure (by exact fin)))
  · exact wpAny_tryCatch (wpAny_bind (wpAny_of_eq (F.cmp_object.ne.bind _) (wpAny_pure (by exact fin))))
theorem rvn_ne {Q : Value → Shared → Prop} (hu : A.in1.units < cLine) (hu0 : A.units < cLine) (F : Fr h₀ L s.heap m) (X₀ : K.In h₀) (I : InstAt s.heap x ox C od) (hb : Looks (model prog w) s.heap (typeOf b) tb) (hn : notFirst K C tb = true)
    (hs : findIn K (.ref C) "__eq__" = some (some (.ref f))) (hf : isFn K (.ref f) = true) (hne : findIn K (.ref C) "__ne__" = some (some (.builtin "object.__ne__"))) (hm : mroIn K C (.type "object") = some true)
    (h : wpAny (model prog w) A.in1 (call (.ref f) [.ref x, b]) (fun v s' => ∃ c, v = .bool c ∧ Q (.bool (!c)) s') E s) : wpAny (model prog w) A (richCompare .NotEq (.ref x) b) Q E s := by
  have X := X₀.keeps F.keep
  have one : wpAny (model prog w) A (tryCompare (.ref x) (cmpInfo .NotEq).2.1 b) (fun r s' => ∃ v, r = some v ∧ Q v s') E s := by
    unfold tryCompare
    refine wpAny_bind (rvn_bound X I hne (rvn_call hu X I hm hs hf (wpAny_mono h (fun v s' hv => ?_) fun _ _ e => e)))
    obtain ⟨c, rfl, q⟩ := hv
    exact ⟨c, rfl, wpAny_pure ⟨_, rfl, q⟩⟩
  unfold richCompare
  simp only [oneThing_ref]
  refine wpAny_holding (wpAny_bind (wpAny_cRoomFor hu0 ?_))
  refine wpAny_bind (I.type.here (wpAny_bind (hb.here ?_)))
  split
  · rename_i q
    have e : subIn K tb (.ref C) = some false := by
      rcases Bool.or_eq_true_iff.mp hn with e | e
      · rw [beq_iff_eq.mp e] at q; simp at q
      · exact beq_iff_eq.mp e
    refine wpAny_bind ((looks_subIn X e).here ?_)
    simp only [Bool.false_eq_true, if_false]
    refine wpAny_bind (wpAny_mono one (fun r s' z => ?_) fun _ _ e => e)
    obtain ⟨v, rfl, hq⟩ := z
    exact wpAny_pure hq
  · refine wpAny_bind (wpAny_pure ?_)
    simp only [Bool.false_eq_true, if_false]
    refine wpAny_bind (wpAny_mono one (fun r s' z => ?_) fun _ _ e => e)
    obtain ⟨v, rfl, hq⟩ := z
    exact wpAny_pure hq
end
end PySem.W
namespace Rv
open PySem PySem.Spec PyProof.Rows L2
/-- what != of the class at C asks -/
structure NeC (K : PySem.W.Frag) (C : Addr) : Prop where
  ne : PySem.W.findIn K (.ref C) "__ne__" = some (some (.builtin "object.__ne__"))
  mo : PySem.W.mroIn K C (.type "object") = some true
def rNeO (K : PySem.W.Frag) (C : Addr) (sp : Sp) (E : XK) : R2 := fun x y H Q => ∃ a dx fs, x = .ref a ∧ H a = some (.ins C dx fs) ∧ (Snd C H y ∨ ∃ T, OddV K C H y T) ∧ sp [x, y] H (fun z H' => ∃ c, z = .bl c ∧ Q (.bl (!c)) H') E
def rAddO (C : Addr) (sp : Sp) (E : XK) : R2 := fun x y H Q => ∃ a dx fs b dy gs, x = .ref a ∧ H a = some (.ins C dx fs) ∧ y = .ref b ∧ H b = some (.ins C dy gs) ∧ sp [x, y] H Q E
section
variable {X : Cx} {CX : CXT} {k : Nat} {sp : Sp} {E : XK} {C : Addr} {f : Addr} {fd : FuncData} {pins : List (Addr × Obj)} {σ : L2.St} {H : Hp} {s : Shared} {a : Addr} {y : V} {u : Value} {Q : VK}
theorem run2b (F : FnOk X.prog X.w X.K X.mg X.base CX k f fd ["self", "other"] sp) (hb : Binds X.K fd ["self", "other"] []) (hx : Passes CX X E) (hr : Room (k + 1) X.A) (I : Inv X pins σ H s) (ry : RelV y u)
    (q : sp [.ref a, y] H (fun z H' => ∃ c, z = .bl c ∧ Q (.bl (!c)) H') E) :
    wpAny (model X.prog X.w) X.A.in1 (call (.ref f) [.ref a, u]) (fun v s' => ∃ c, v = .bool c ∧ EP X pins σ Q (.bool (!c)) s') X.xe s := by
  have r2 : Vals [V.ref a, y] [Value.ref a, u] := .cons rfl (.cons ry .nil)
  have hl := F.len _ _ _ _ q
  refine wpAny_call (codeAny_mono (F.run X.A.in1 X.stack s H ⟨[.ref a, u], []⟩ [.ref a, u] [.ref a, y] _ E hr.in1 I.env0.in1 (by
    have := hb s [.ref a, u] I.kIn (by simpa using hl)
    simpa using this) r2 q) fun r s' hq => ?_)
  cases r with
  | error e => exact hx pins σ H s e s' I hq
  | ok fl =>
    cases fl with
    | ret w =>
      obtain ⟨z, H', I', rz, c, rfl, qz⟩ := I.after hq
      cases (show w = Value.bool c from rz)
      exact ⟨c, rfl, .bl (!c), H', I', rfl, qz⟩
    | next => exact False.elim hq
    | brk => exact False.elim hq
    | cont => exact False.elim hq
theorem op_neO (c : CalO X.prog X.w X.K X.mg X.base CX k C "__eq__" sp) (oc : OpC X.K C) (nc : NeC X.K C) (hr : Room (k + 1) X.A) (hx : Passes CX X E) : OpR X (compareOp .NotEq) (rNeO X.K C sp E) := by
  intro pins s σ H x y v u Q I rx ry h
  obtain ⟨a, dx, fs, rfl, ha, sy, q⟩ := h
  cases (show v = Value.ref a from rx)
  obtain ⟨f, fd, F, hs, hf, hb⟩ := c.ex
  obtain ⟨mA, J, _⟩ := ins_get I.hok ha
  obtain ⟨od, J, _⟩ := J.look
  obtain ⟨m, hF⟩ := I.fr
  show wpAny _ _ (richCompare .NotEq (.ref a) u) _ _ _
  have go := run2b (Q := Q) (y := y) (u := u) F hb hx hr I ry q
  rcases sy with sy | ⟨T, o⟩
  · cases sy with
    | int i =>
      obtain ⟨t, rfl⟩ := (show ∃ t, u = Value.int i t from ry)
      exact PySem.W.rvn_ne hr.in1.units0 hr.units0 hF I.ok.mod.kin J (PySem.W.Looks.of_pure rfl) oc.nf hs hf nc.ne nc.mo go
    | own hb' =>
      cases (show u = Value.ref _ from ry)
      obtain ⟨mB, J', _⟩ := ins_get I.hok hb'
      obtain ⟨od', J', _⟩ := J'.look
      exact PySem.W.rvn_ne (tb := .ref C) hr.in1.units0 hr.units0 hF I.ok.mod.kin J J'.type (by simp [PySem.W.notFirst]) hs hf nc.ne nc.mo go
  · exact PySem.W.rvn_ne (tb := .type T) hr.in1.units0 hr.units0 hF I.ok.mod.kin J (looks_tyB I ry o.tb) o.nf hs hf nc.ne nc.mo go
theorem op_addO (c : CalO X.prog X.w X.K X.mg X.base CX k C "__add__" sp) (oc : OpC X.K C) (hr : Room k X.A) (hx : Passes CX X E) : OpR X (binaryOp .Add) (rAddO C sp E) := by
  intro pins s σ H x y v u Q I rx ry h
  obtain ⟨a, dx, fs, b, dy, gs, rfl, ha, rfl, hb', q⟩ := h
  cases (show v = Value.ref a from rx)
  cases (show u = Value.ref b from ry)
  obtain ⟨f, fd, F, hs, hf, hb⟩ := c.ex
  obtain ⟨mA, J, _⟩ := ins_get I.hok ha
  obtain ⟨od, J, _⟩ := J.look
  obtain ⟨mB, J', _⟩ := ins_get I.hok hb'
  obtain ⟨od', J', _⟩ := J'.look
  obtain ⟨m, hF⟩ := I.fr
  have go := run2 (y := .ref b) (u := .ref b) F hb hx hr I rfl q
  exact PySem.W.binop_K (op := .Add) hF I.ok.mod.kin J J'.type oc.sf (by rw [show PySem.dunder (Operator.info .Add).2 = ("__add__" : Str) from by decide +kernel]; exact hs) hf go
end
end Rv
/-! Base.__init__(self, ..) where Base is an own class under ValueError that has no __init__ of its own. -/
namespace Rv
open PySem PySem.Spec PyProof.Rows L2
/-- what the top has made of such a Base -/
structure BaseI (K : PySem.W.Frag) (B : Addr) : Prop where
  rd : PySem.W.readsIn K B (.type "type") = true
  ga : PySem.W.specialIn K (.ref B) "__getattribute__" = some (some (.builtin "type.__getattribute__"))
  vi : PySem.W.findCls K (.ref B) (.type "type") "__init__" = some (.val (.builtin "ValueError.__init__"))
theorem pe_ownbase {X : Cx} {e : Expr} {es : List Expr} {ta : TA} {B : Addr} {bx : Str} {p1 p2 pos : Pos} {pl : Sem Bool} (T : BaseI X.K B) (hg : Gl X bx) (hm : X.mg bx = some (.ref B)) (ha : PA X (e :: es) ta) (hdb : (bx == ("__debug__" : Str)) = false := by decide)
    (hc : eval (.Call (.Attribute (.Name bx p1) "__init__" p2) (e :: es) [] pos) X.env = (do let ov ← eval (.Name bx p1) X.env; standAt p2.atName; let (f, first) ← holding [ov] (getMethod ov "__init__" pl); callWith pos f first (backTo pos (starEach (e :: es) X.env)) (backToKw pos (keywordEach [] X.env))) := by rfl)
    (he : starEach (e :: es) X.env = (false, eval e X.env) :: starEach es X.env := by rfl) (hpl : (backTo pos (starEach es X.env)).any (·.1) = false := by rfl) :
    PE X (.Call (.Attribute (.Name bx p1) "__init__" p2) (e :: es) [] pos) (tVeI X.K ta) := by
  refine ⟨fun pins s σ H Q I h => PySem.W.methodCall_KW (ld_glob I hg hm ?_ hdb) hc⟩
  refine PySem.W.method_cls I.kIn T.ga (PySem.W.cls_value I.kIn T.rd T.vi (by decide +kernel) ?_)
  show wpAny _ _ (callWith pos (Value.builtin "ValueError.__init__") [] (backTo pos (starEach (e :: es) X.env)) []) _ _ _
  refine callWith_method1 (thn (ha.run pos pins _ σ H _ (I.tok _) h) fun us s1 z => ?_) he hpl
  obtain ⟨vs, H1, I1, r1, a, C, ws, ev, hl, O, ea, q⟩ := z
  subst ev
  cases r1 with
  | @cons _ u0 _ ur ra rw' =>
    have e0 : u0 = Value.ref a := ra
    subst e0
    have le : ur.length ≤ sizeLine := by
      have := Paired.length rw'
      rw [sizeLine_eq]
      omega
    exact oinit_ok O I1 ea le fun s' J => ⟨.non, H1, J, rfl, q⟩
end Rv
/-! Own exceptions under any base of the standard ones: fields set in __init__. -/
namespace Rv
open PySem PySem.W PySem.Calls PyProof.Rows PySem.HandSPX Builtin Builtin.ObjectAttr
section
variable {prog : Program} {w : World} {A : Around} {R : Result → Shared → Prop} {hp : Heap} {g : Array GenState} {dr : Drawn} {t : Nat} {os : OsState}
variable {K : W.Frag} {nm : Str} {tk : Tok} {v : Value} {x C : Addr} {fv : Array Value} {cd : ClassData}
/-- an mro by which a store passes -/
structure Mok (m : List Value) : Prop where
  ps : ∀ self, refuseLoop self "__setattr__" m = pure ()
  ne : m.isEmpty = false
  ob : m.contains (.type "object") = true
theorem set_first (X : K.In hp) (gx : hp.get? x = some { cls := .ref C, data := .fields fv }) (gc : W.clsIn K C = some cd) (m : Mok cd.mro) (gd : cd.hasDict = true) (ga : W.findIn K (.ref C) nm = some none)
    (q : ∀ h2 u dx, (∀ b o, b ≠ x → hp.get? b = some o → h2.get? b = some o) → hp.objs.size ≤ dx → dx ≠ x → h2.get? x = some { cls := .ref C, dict := some dx, data := .fields fv } →
      h2.Ns1 dx (fun y => if y = nm then some v else none) → R (.ok (.ret .none)) ⟨h2, g, dr, u, os⟩) :
    codeAny (model prog w) A (.call (.builtin "object.__setattr__") ⟨[.ref x, .str nm tk, v], []⟩) R ⟨hp, g, dr, t, os⟩ := by
  have J : W.InstAt hp x { cls := .ref C, data := .fields fv } C none := ⟨gx, rfl, rfl, trivial⟩
  have S := F.store_object
  have n0 : x ≠ hp.objs.size := Nat.ne_of_lt (Heap.lt_size gx)
  have inO : W.Looks (model prog w) hp (isInstance (.ref x) (.type "object")) true := J.type.andThen (W.looks_mroIn X (by
    unfold W.mroIn
    rw [gc, Option.bind_some, if_neg (by rw [m.ne]; decide), m.ob]))
  refine codeAny_call_builtin S.slot.plain S.entry (@W.check_slot (model prog w) _ _ ⟨hp, g, dr, t, os⟩ "object.__setattr__" "object" "__setattr__" (.ref x) [.str nm tk, v] [] _ S.kind S.split inO (S.args (.ref x) (.str nm tk) v) ?_)
  have mr : W.Looks (model prog w) hp (mroOf (.ref C)) cd.mro := (W.looks_clsIn X gc).andThen .now
  have tn : W.Looks (model prog w) hp (storeTaker? none) none := .now
  have ck : W.Looks (model prog w) hp (classData C) cd := W.looks_clsIn X gc
  rw [W.osa_eq, refuse_eq]
  refine wpAny_bind (wpAny_bind (J.type.at (wpAny_bind (mr.at ?_))))
  rw [m.ps]
  refine wpAny_pure (wpAny_bind (J.type.at (wpAny_bind ((W.looks_findIn X ga).at (wpAny_bind (tn.at ?_))))))
  show wpAny _ _ (storeInOwnDict (.ref x) (.ref C) (.str nm tk) nm v false) _ _ _
  obtain ⟨z1, z2, z3, z4, z5, z6, z7, z8, z9, z10, z11⟩ := cd
  dsimp only at gd
  subst gd
  unfold storeInOwnDict ownDictForStores
  repeat (first | with_reducible refine HandSPX.store_in_new ?_ ?_ | with_reducible refine wpAny_loadPart_at gx ?_ | with_reducible refine ck.at ?_ | wp_step)
  · exact ⟨_, #[], _, (Heap.get?_update_ne _ _ _ _ n0.symm).trans (Heap.get?_push_at rfl rfl), rfl, fun e he => absurd he (by simp), fun _ => rfl⟩
  · intro h2 u hn hs
    have gx1 : (hp.push { cls := .type "dict", data := .dict #[] }).get? x = some { cls := .ref C, data := .fields fv } := Heap.get?_push_of_some _ gx
    refine q h2 u hp.objs.size (fun b o hb ho => ?_) (Nat.le_refl _) n0.symm ?_ hn
    · have w1 := Heap.get?_push_of_some { cls := .type "dict", data := .dict #[] } ho
      exact ((hs.2 b (Nat.ne_of_lt (Heap.lt_size ho))).trans (Heap.get?_update_ne _ _ _ _ hb)).trans w1
    · exact (hs.2 x n0).trans (Heap.get?_update_self _ gx1 rfl)
end
end Rv
namespace Rv
open PySem PySem.Spec PyProof.Rows L2
/-- an own exception class, directly or not under the standard class B -/
structure OexG (K : PySem.W.Frag) (C : Addr) (B newId initId : String) (bmB : List Value) : Prop where
  bf : ExcBaseFacts B newId initId bmB
  cls : ∃ nm q N bs bm sn sub ab col dd k0 k1 k2 k3 k5, K.lookup C = some (excClassObj nm q C N bs bm true sn sub ab col dd k0 k1 k2 k3 k5 newId) ∧ (∀ Y : String, bm.contains (.type Y) = bmB.contains (.type Y)) ∧ Mok (.ref C :: bm)
  sa : PySem.W.findIn K (.ref C) "__setattr__" = some (some (.builtin "object.__setattr__"))
  exC : PySem.W.subIn K (.ref C) (.type "BaseException") = some true
  tyC : PySem.W.typeIn K (.ref C) = some (.type "type")
  kC : PySem.W.keepIn K (.ref C) = true
/-- B.__init__(self, ..) in such a class: nothing of it is told -/
theorem base_init {X : Cx} {pins : List (Addr × Obj)} {σ : L2.St} {H : Hp} {s : Shared} {a C : Addr} {A : Around} {E : Value → Shared → Prop} {B newId initId : String} {bmB : List Value} {us : List Value} {Q : Value → Shared → Prop} (T : OexG X.K C B newId initId bmB) (I : Inv X pins σ H s)
    (e : H a = some (exo a C none)) (hl : us.length ≤ sizeLine) (h : ∀ s2, Inv X pins σ H s2 → Q .none s2) : wpAny (model X.prog X.w) A (call (.builtin initId) (.ref a :: us)) Q E s := by
  obtain ⟨nm, q, N, bs, bm, sn, sub, ab, col, dd, k0, k1, k2, k3, k5, lk, hT, _⟩ := T.cls
  obtain ⟨ta0, ho⟩ := exo_at I.hok e
  obtain ⟨hp, g, d, t, os⟩ := s
  refine wpAny_call (PySem.HandSPX.init_base T.bf hT (I.kIn _ _ lk) ho hl fun h2 t2 kk hx => ?_)
  have J := I.write (t' := t) (x := a) (e := a) (o := exo a C none) (by rw [e]; exact True.intro) (.inl rfl) kk ⟨_, hx⟩ (exo_ok hx)
  have same : upd H a (exo a C none) = H := by
    funext b
    by_cases z : b = a
    · rw [z, upd_same, e]
    · rw [upd_ne z]
  rw [same] at J
  exact h _ J
theorem mok_ref {C : Addr} {m : List Value} (h : Mok m) : Mok (.ref C :: m) := ⟨fun self => by rw [refuseLoop_ref]; exact h.ps self, rfl, by rw [List.contains_cons, h.ob, Bool.or_true]⟩
theorem mok_ve : Mok [.type "ValueError", .type "Exception", .type "BaseException", .type "object"] := ⟨fun self => F.store_ValueError.passes self, rfl, by decide +kernel⟩
theorem mok_oe : Mok [.type "OverflowError", .type "ArithmeticError", .type "Exception", .type "BaseException", .type "object"] := ⟨fun self => F.store_OverflowError.passes self, rfl, by decide +kernel⟩
theorem mok_ie : Mok [.type "IndexError", .type "LookupError", .type "Exception", .type "BaseException", .type "object"] := ⟨fun self => F.store_IndexError.passes self, rfl, by decide +kernel⟩
section
variable {X : Cx} {pins : List (Addr × Obj)} {σ : L2.St} {H : Hp} {s : Shared} {a C : Addr} {f : Str} {y : V} {u : Value} {Q : Unit → Shared → Prop} {E : Value → Shared → Prop} {A : Around} {B newId initId : String} {bmB : List Value}
/-- self.f = y, the first field -/
theorem first_field (T : OexG X.K C B newId initId bmB) (I : Inv X pins σ H s) (e : H a = some (exo a C none)) (no : PySem.W.findIn X.K (.ref C) f = some none) (ry : RelV y u)
    (h : ∀ dx s2, H dx = none → dx ≠ a → Inv X pins σ (upd (upd H dx (exd dx [(f, y)])) a (exo a C (some dx))) s2 → Q () s2) : wpAny (model X.prog X.w) A (setAttr (.ref a) f u) Q E s := by
  obtain ⟨nm, q, N, bs, bm, sn, sub, ab, col, dd, k0, k1, k2, k3, k5, lk, _, mk⟩ := T.cls
  have ci : PySem.W.clsIn X.K C = some { name := nm, bases := bs, mro := .ref C :: bm, ns := N, qualname := q, hasDict := true, slotNames := sn, subclasses := sub, abstract := ab, collection := col, hasDel := false } := by
    unfold PySem.W.clsIn
    rw [lk] <;> rfl
  obtain ⟨ta0, ho⟩ := exo_at I.hok e
  obtain ⟨hp, g, d, t, os⟩ := s
  refine PySem.W.set_plain I.kIn (ox := { cls := .ref C, dict := none, data := .fields #[.ref ta0, .none, .none, .none, .bool false, .none] }) (od := none) ⟨ho, rfl, rfl, trivial⟩ T.sa ?_
  refine set_first I.kIn ho ci mk rfl no fun h2 tk2 dx kk dn dne hx hn => ?_
  have fr : H dx = none := I.hok.fresh dn
  have nd : ∀ {b : Addr} {o : Obj}, hp.get? b = some o → b ≠ dx := fun {b o} z => Nat.ne_of_lt (Nat.lt_of_lt_of_le (Heap.lt_size z) dn)
  have na : ∀ {b : Addr}, H b = none → b ≠ a := fun {b} n z => by
    rw [z, e] at n
    cases n
  have U : Un X.fs [] H (upd (upd H dx (exd dx [(f, y)])) a (exo a C (some dx))) hp h2 := {
    keep := fun b o z n _ _ => kk b o (na n) z
    slot := fun b o z n _ _ => ⟨o.slots, kk b o (na n) z⟩
    free := fun b o z n _ => by
      rw [upd_ne (na n), upd_ne (nd z)]
      exact n
    there := fun b o z _ => by
      by_cases w : b = a
      · exact ⟨_, by rw [w]; exact hx⟩
      · exact ⟨o, kk b o w z⟩
    tups := fun b xs z => by
      rw [upd_ne (at_ne e z exo_tup), upd_ne (ne_of_none z fr)]
      exact z
    frzs := fun b o v z => by
      rw [upd_ne (at_ne e z exo_frz), upd_ne (ne_of_none z fr)]
      exact z
    tbls := fun b ps z => ⟨#[], by rw [upd_ne (at_ne e z exo_tbl), upd_ne (ne_of_none z fr), z]; simp⟩ }
  refine h dx _ fr dne (I.un (t' := tk2) U fun b o z => ?_)
  by_cases w : b = a
  · subst w
    rw [upd_same] at z
    cases z
    exact exo_ok hx
  · rw [upd_ne w] at z
    by_cases w2 : b = dx
    · subst w2
      rw [upd_same] at z
      cases z
      exact exd_ok hn (relO_put (fs := []) ry fun _ => True.intro)
    · rw [upd_ne w2] at z
      refine (I.hok b o z).stay (fun c v c0 zz => kk c v ?_ zz) (fun c c0 => ?_) (fun c xs c0 => ?_)
      · rcases c0 with c0 | c0
        · rw [c0]
          exact w
        · exact at_ne e c0 exo_own
      · rw [upd_ne (at_ne e c0 exo_own), upd_ne (ne_of_none c0 fr)]
        exact c0
      · rw [upd_ne (at_ne e c0 exo_tup), upd_ne (ne_of_none c0 fr)]
        exact c0
end
/-! readings and rules -/
/-- Base.__init__(self, ..) by the standard initId -/
def tBaseI (K : PySem.W.Frag) (C : Addr) (B newId initId : String) (bmB : List Value) (ta : TA) : TE := fun σ H Q => ta σ H fun vs H1 => ∃ (a : Addr) (ws : List V), vs = .ref a :: ws ∧ ws.length ≤ 1000 ∧ OexG K C B newId initId bmB ∧ H1 a = some (exo a C none) ∧ Q .non H1
/-- self.f = e, the first field of it -/
def tFst (K : PySem.W.Frag) (C : Addr) (B newId initId : String) (bmB : List Value) (f : Str) (to te : TE) : TS := fun D σ H => te σ H fun y H1 => to σ H1 fun x H2 => ∃ a : Addr, x = .ref a ∧ OexG K C B newId initId bmB ∧ PySem.W.findIn K (.ref C) f = some none ∧
  H2 a = some (exo a C none) ∧ ∀ dx, H2 dx = none → dx ≠ a → D.nx σ (upd (upd H2 dx (exd dx [(f, y)])) a (exo a C (some dx)))
theorem ps_fst {X : Cx} {o e : Expr} {to te : TE} {f : Str} {p2 pos : Pos} {C : Addr} {B newId initId : String} {bmB : List Value} (ho : PE X o to) (he : PE X e te) (hs : swapsWith e (some (.Attribute o f p2)) pos.line X.env = pure false := by rfl) : PS X (.Assign [.Attribute o f p2] e pos) (tFst X.K C B newId initId bmB f to te) := by
  refine ⟨fun pins s σ H D I h => plainObj_wpAny_Assign_Attribute (thn (he.run pins s σ H _ I h) fun v s1 z1 => ?_) hs⟩
  obtain ⟨y, H1, I1, r1, q1⟩ := z1
  refine thn (ho.run pins s1 σ H1 _ I1 q1) fun u s2 z2 => ?_
  obtain ⟨x, H2, I2, r2, a, ex, T, no, ea, q⟩ := z2
  subst ex
  have e0 : u = Value.ref a := r2
  subst e0
  exact first_field T I2 ea no r1 fun dx s3 n ne J => ⟨σ, _, J, q dx n ne⟩
/-- what the top has made of an own Base without an __init__ -/
structure BaseG (K : PySem.W.Frag) (D : Addr) (initId : String) : Prop where
  rd : PySem.W.readsIn K D (.type "type") = true
  ga : PySem.W.specialIn K (.ref D) "__getattribute__" = some (some (.builtin "type.__getattribute__"))
  vi : PySem.W.findCls K (.ref D) (.type "type") "__init__" = some (.val (.builtin initId))
  hi : PySem.W.handedIn (.builtin initId) = true
theorem pe_ownbaseG {X : Cx} {e : Expr} {es : List Expr} {ta : TA} {D C : Addr} {bx : Str} {p1 p2 pos : Pos} {pl : Sem Bool} {B newId initId : String} {bmB : List Value} (T : BaseG X.K D initId) (hg : Gl X bx) (hm : X.mg bx = some (.ref D)) (ha : PA X (e :: es) ta) (hdb : (bx == ("__debug__" : Str)) = false := by decide)
    (hc : eval (.Call (.Attribute (.Name bx p1) "__init__" p2) (e :: es) [] pos) X.env = (do let ov ← eval (.Name bx p1) X.env; standAt p2.atName; let (f, first) ← holding [ov] (getMethod ov "__init__" pl); callWith pos f first (backTo pos (starEach (e :: es) X.env)) (backToKw pos (keywordEach [] X.env))) := by rfl)
    (he : starEach (e :: es) X.env = (false, eval e X.env) :: starEach es X.env := by rfl) (hpl : (backTo pos (starEach es X.env)).any (·.1) = false := by rfl) :
    PE X (.Call (.Attribute (.Name bx p1) "__init__" p2) (e :: es) [] pos) (tBaseI X.K C B newId initId bmB ta) := by
  refine ⟨fun pins s σ H Q I h => PySem.W.methodCall_KW (ld_glob I hg hm ?_ hdb) hc⟩
  refine PySem.W.method_cls I.kIn T.ga (PySem.W.cls_value I.kIn T.rd T.vi T.hi ?_)
  show wpAny _ _ (callWith pos (Value.builtin initId) [] (backTo pos (starEach (e :: es) X.env)) []) _ _ _
  refine callWith_method1 (thn (ha.run pos pins _ σ H _ (I.tok _) h) fun us s1 z => ?_) he hpl
  obtain ⟨vs, H1, I1, r1, a, ws, ev, hl, O, ea, q⟩ := z
  subst ev
  cases r1 with
  | @cons _ u0 _ ur ra rw' =>
    have e0 : u0 = Value.ref a := ra
    subst e0
    have le : ur.length ≤ sizeLine := by
      have := Paired.length rw'
      rw [sizeLine_eq]
      omega
    exact base_init O I1 ea le fun s2 J => ⟨.non, H1, J, rfl, q⟩
/-- B.__init__(self, ..), B a standard class by its name -/
theorem pe_stdbase {X : Cx} {e : Expr} {es : List Expr} {ta : TA} {C : Addr} {n : String} {bx : Str} {p1 p2 pos : Pos} {pl : Sem Bool} {B newId initId : String} {bmB : List Value} (hg : Gl X bx) (hm : X.mg bx = none) (hb : bootBuiltins bx = some (.type n))
    (ht : typeOf (.type n) = pure (.type "type")) (hst : Manifest.isStub n = false) (vi : PySem.W.findCls X.K (.type n) (.type "type") "__init__" = some (.val (.builtin initId))) (hi : PySem.W.handedIn (.builtin initId) = true) (ha : PA X (e :: es) ta)
    (hc : eval (.Call (.Attribute (.Name bx p1) "__init__" p2) (e :: es) [] pos) X.env = (do let ov ← eval (.Name bx p1) X.env; standAt p2.atName; let (f, first) ← holding [ov] (getMethod ov "__init__" pl); callWith pos f first (backTo pos (starEach (e :: es) X.env)) (backToKw pos (keywordEach [] X.env))) := by rfl)
    (h1 : bx ≠ "__name__" := by decide) (h2 : (bx == ("__debug__" : Str)) = false := by decide)
    (he : starEach (e :: es) X.env = (false, eval e X.env) :: starEach es X.env := by rfl) (hpl : (backTo pos (starEach es X.env)).any (·.1) = false := by rfl) :
    PE X (.Call (.Attribute (.Name bx p1) "__init__" p2) (e :: es) [] pos) (tBaseI X.K C B newId initId bmB ta) := by
  refine ⟨fun pins s σ H Q I h => PySem.W.methodCall_KW (ld_blt I hg hm hb ?_ h1 h2) hc⟩
  obtain ⟨m, fr⟩ := I.fr
  refine PySem.W.method_type fr I.ok.mod.kin ht hst vi hi ?_
  show wpAny _ _ (callWith pos (Value.builtin initId) [] (backTo pos (starEach (e :: es) X.env)) []) _ _ _
  refine callWith_method1 (thn (ha.run pos pins _ σ H _ (I.tok _) h) fun us s1 z => ?_) he hpl
  obtain ⟨vs, H1, I1, r1, a, ws, ev, hl, O, ea, q⟩ := z
  subst ev
  cases r1 with
  | @cons _ u0 _ ur ra rw' =>
    have e0 : u0 = Value.ref a := ra
    subst e0
    have le : ur.length ≤ sizeLine := by
      have := Paired.length rw'
      rw [sizeLine_eq]
      omega
    exact base_init O I1 ea le fun s2 J => ⟨.non, H1, J, rfl, q⟩
/-- the heap with a new exception of the class at C, its args behind it -/
abbrev hNew (h : Heap) (us : List Value) (C : Addr) : Heap := (h.push (PySem.W.kdv_tup us)).push (PySem.HandSPX.excO C h.objs.size)
abbrev aNew (h : Heap) : Addr := h.objs.size + 1
theorem hNew_old {h : Heap} {us : List Value} {C : Addr} : ∀ b o, h.get? b = some o → (hNew h us C).get? b = some o := fun _ _ e => (Heap.get?_push_of_some _ e |> Heap.get?_push_of_some _)
theorem hNew_at {h : Heap} {us : List Value} {C : Addr} : (hNew h us C).get? (aNew h) = some (PySem.HandSPX.excO C h.objs.size) := by heap_get
/-- C(e, ..): such an exception is made, its own __init__ keeping sp -/
theorem pmk_any {X : Cx} {e : Expr} {es : List Expr} {ta : TA} {p pos : Pos} {CX : CXT} {x : Str} {C fI : Addr} {k : Nat} {fd : FuncData} {ps : List Str} {sp : Sp} {ds : List Value} {dvs : List V} {B newId initId : String} {bmB : List Value} (T : OexG X.K C B newId initId bmB)
    (iC : PySem.W.findIn X.K (.ref C) "__init__" = some (some (.ref fI))) (tI : PySem.W.typeIn X.K (.ref fI) = some (.type "function")) (F1 : FnOk X.prog X.w X.K X.mg X.base CX k fI fd ps sp) (hr : Room (k + 1) X.A) (hb : Binds X.K fd ps ds) (hd : Vals dvs ds)
    (hx : Passes CX X (fun _ _ _ => False)) (hg : Gl X x) (hm : X.mg x = some (.ref C)) (ha : PA X (e :: es) ta) (hdb : (x == ("__debug__" : Str)) = false := by decide)
    (he : starEach (e :: es) X.env = (false, eval e X.env) :: starEach es X.env := by rfl) (hpl : (backTo pos (starEach es X.env)).any (·.1) = false := by rfl) : PMk X (.Call (.Name x p) (e :: es) [] pos) (tMkO C sp dvs ta) := by
  intro pins s σ H Q I h
  obtain ⟨nm, q, N, bs, bm, sn, sub, ab, col, dd, k0, k1, k2, k3, k5, lk, hT, _⟩ := T.cls
  refine wpAny_Call_Name_kw (ld_glob I hg hm ?_ hdb) |> id
  refine PySem.W.callWith_K (h₀ := X.base) I.ok.mod.kin T.kC (thn (ha.run pos pins s σ H _ I h) fun us s1 z => ?_) he hpl
  obtain ⟨vs, H1, I1, rv0, hz, q1⟩ := z
  refine ⟨I1.kIn, (?_ : wpAny _ _ (call (.ref C) us) _ _ _)⟩
  obtain ⟨hp, g0, d0, u0, o0⟩ := s1
  have up1 : hp.objs.size ≤ aNew hp := Nat.le_succ _
  have free1 : H1 (aNew hp) = none := I1.hok.fresh up1
  have want := q1 (aNew hp) free1
  have I2 : Inv X pins σ (upd H1 (aNew hp) (exo (aNew hp) C none)) ⟨hNew hp us C, g0, d0, u0, o0⟩ := I1.laid (t' := u0) (o := exo (aNew hp) C none) hNew_old up1 (exo_ok hNew_at)
  have rel2 : Vals (.ref (aNew hp) :: (vs ++ dvs)) (.ref (aNew hp) :: (us ++ ds)) := .cons rfl (rv0.append hd)
  have len2 : (Value.ref (aNew hp) :: us ++ ds).length = ps.length := (rel2.length.symm).trans (F1.len _ _ _ _ want)
  have lu : us.length ≤ sizeLine := by
    have := Paired.length rv0
    rw [sizeLine_eq]
    omega
  refine wpAny_call (PySem.HandSPX.call_own T.bf hT (I1.kIn _ _ lk) (PySem.W.looks_findIn I1.kIn iC) (fun self => PySem.W.bind_fn I1.kIn self tI) lu (codeAny_mono (F1.run _ X.stack _ _ ⟨.ref (aNew hp) :: us, []⟩ (.ref (aNew hp) :: (us ++ ds)) _ _ (fun _ _ _ => False)
    (hr.make C us []) (I2.env0.make C us []) (hb _ (.ref (aNew hp) :: us) I2.kIn len2) rel2 want) fun r s2 back => ?_))
  match r, back with
  | .error er, back => exact hx pins σ _ _ er s2 I2 back
  | .ok (.ret _), ⟨v, H2, os2, bare2, un2, hok2, rv, ev, d, fs, ea, ed, hd1, q2⟩ =>
    subst ev
    obtain ⟨h2, g2, d2, t2, os'⟩ := s2
    exact ⟨rv, mk_end (raises_own T.exC T.tyC) I1 up1 hNew_old un2 hok2 os2 bare2 ea ed hd1 q2⟩
  | .ok .next, back => exact back.elim
  | .ok .brk, back => exact back.elim
  | .ok .cont, back => exact back.elim
end Rv
/-! A test of the written part: is the class at C such an exception class. -/
namespace Rv
open PySem PySem.Spec PyProof.Rows L2
/-- own classes, then the standard class's mro -/
def tlB (bmB : List Value) : List Value → Bool
  | .ref _ :: r => tlB bmB r
  | l => decide (l = bmB)
theorem tl_ok {bmB : List Value} (h0 : Mok bmB) : ∀ l : List Value, tlB bmB l = true → Mok l ∧ ∀ Y : String, l.contains (.type Y) = bmB.contains (.type Y)
  | .ref c :: r, e => by
    obtain ⟨z1, z2⟩ := tl_ok h0 r (show tlB bmB r = true from e)
    refine ⟨mok_ref z1, fun Y => ?_⟩
    rw [List.contains_cons, z2]
    rfl
  | [], e => by
    have z : [] = bmB := of_decide_eq_true e
    subst z
    exact ⟨h0, fun _ => rfl⟩
  | .none :: r, e => by have z := of_decide_eq_true (show decide (_ = bmB) = true from e); subst z; exact ⟨h0, fun _ => rfl⟩
  | .ellipsis :: r, e => by have z := of_decide_eq_true (show decide (_ = bmB) = true from e); subst z; exact ⟨h0, fun _ => rfl⟩
  | .notImplemented :: r, e => by have z := of_decide_eq_true (show decide (_ = bmB) = true from e); subst z; exact ⟨h0, fun _ => rfl⟩
  | .bool _ :: r, e => by have z := of_decide_eq_true (show decide (_ = bmB) = true from e); subst z; exact ⟨h0, fun _ => rfl⟩
  | .int _ _ :: r, e => by have z := of_decide_eq_true (show decide (_ = bmB) = true from e); subst z; exact ⟨h0, fun _ => rfl⟩
  | .float _ _ :: r, e => by have z := of_decide_eq_true (show decide (_ = bmB) = true from e); subst z; exact ⟨h0, fun _ => rfl⟩
  | .str _ _ :: r, e => by have z := of_decide_eq_true (show decide (_ = bmB) = true from e); subst z; exact ⟨h0, fun _ => rfl⟩
  | .bytes _ _ :: r, e => by have z := of_decide_eq_true (show decide (_ = bmB) = true from e); subst z; exact ⟨h0, fun _ => rfl⟩
  | .type _ :: r, e => by have z := of_decide_eq_true (show decide (_ = bmB) = true from e); subst z; exact ⟨h0, fun _ => rfl⟩
  | .builtin _ :: r, e => by have z := of_decide_eq_true (show decide (_ = bmB) = true from e); subst z; exact ⟨h0, fun _ => rfl⟩
def cxB (K : PySem.W.Frag) (C : Addr) (newId : String) (bmB : List Value) : Bool := match K.lookup C with
  | some ⟨.type m, _, .cls z, sl⟩ => decide (m = "type") && (match z.mro, sl.toList with
    | .ref D :: r, [_, _, _, _, some (.builtin n), _] => decide (D = C) && (decide (n = newId) && (!z.hasDel && (z.hasDict && tlB bmB r)))
    | _, _ => false)
  | _ => false
theorem cx_ok {K : PySem.W.Frag} {C : Addr} {newId : String} {bmB : List Value} (h0 : Mok bmB) (h : cxB K C newId bmB = true) :
    ∃ nm q N bs bm sn sub ab col dd k0 k1 k2 k3 k5, K.lookup C = some (excClassObj nm q C N bs bm true sn sub ab col dd k0 k1 k2 k3 k5 newId) ∧ (∀ Y : String, bm.contains (.type Y) = bmB.contains (.type Y)) ∧ Mok (.ref C :: bm) := by
  unfold cxB at h
  split at h
  · rename_i m dd z sl lk
    obtain ⟨e1, h⟩ := He.ba h
    have e1 := of_decide_eq_true e1
    subst e1
    split at h
    · rename_i D r j0 j1 j2 j3 n j5 hm hs
      obtain ⟨_, h⟩ := He.ba h
      obtain ⟨e2, h⟩ := He.ba h
      obtain ⟨e3, h⟩ := He.ba h
      obtain ⟨e4, h⟩ := He.ba h
      obtain ⟨e5, e6⟩ := He.ba h
      have e2 := of_decide_eq_true e2
      have e3 := of_decide_eq_true e3
      subst e2 e3
      obtain ⟨w1, w2, w3, w4, w5, w6, w7, w8, w9, w10, w11⟩ := z
      dsimp only at hm e4 e5
      have e4 : w11 = false := by
        cases w11 with
        | false => rfl
        | true => cases e4
      subst hm e4 e5
      have e7 : sl = #[j0, j1, j2, j3, some (.builtin n), j5] := by
        obtain ⟨l⟩ := sl
        simp only at hs
        rw [hs]
      subst e7
      obtain ⟨y1, y2⟩ := tl_ok h0 r e6
      exact ⟨_, _, _, _, r, _, _, _, _, _, _, _, _, _, _, lk, y2, mok_ref y1⟩
    · cases h
  · cases h
/-- all of it by one test -/
def oxB (K : PySem.W.Frag) (x : Str) (newId : String) (bmB : List Value) : Bool := cxB K (He.ga K x) newId bmB && (He.eqO (PySem.W.findIn K (.ref (He.ga K x)) "__setattr__") (some (some (.builtin "object.__setattr__"))) &&
  (decide (PySem.W.subIn K (.ref (He.ga K x)) (.type "BaseException") = some true) && (decide (PySem.W.typeIn K (.ref (He.ga K x)) = some (.type "type")) && PySem.W.keepIn K (.ref (He.ga K x)))))
theorem ox_ok {K : PySem.W.Frag} {x : Str} {B newId initId : String} {bmB : List Value} (bf : ExcBaseFacts B newId initId bmB) (h0 : Mok bmB) (h : oxB K x newId bmB = true) : OexG K (He.ga K x) B newId initId bmB := by
  obtain ⟨h1, h⟩ := He.ba h
  obtain ⟨h2, h⟩ := He.ba h
  obtain ⟨h3, h⟩ := He.ba h
  obtain ⟨h4, h5⟩ := He.ba h
  exact ⟨bf, cx_ok h0 h1, He.eqO_ok h2, of_decide_eq_true h3, of_decide_eq_true h4, h5⟩
/-- an own Base without an __init__ -/
def bgB (K : PySem.W.Frag) (x : Str) (i : String) : Bool := PySem.W.readsIn K (He.ga K x) (.type "type") && (He.eqO (PySem.W.specialIn K (.ref (He.ga K x)) "__getattribute__") (some (some (.builtin "type.__getattribute__"))) &&
  (PySem.W.handedIn (.builtin i) && (match PySem.W.findCls K (.ref (He.ga K x)) (.type "type") "__init__" with
    | some (.val (.builtin n)) => decide (n = i)
    | _ => false)))
theorem bg_ok {K : PySem.W.Frag} {x : Str} {i : String} (h : bgB K x i = true) : BaseG K (He.ga K x) i := by
  obtain ⟨h1, h⟩ := He.ba h
  obtain ⟨h2, h⟩ := He.ba h
  obtain ⟨h3, h4⟩ := He.ba h
  refine ⟨h1, He.eqO_ok h2, ?_, h3⟩
  cases e : PySem.W.findCls K (.ref (He.ga K x)) (.type "type") "__init__" with
  | none =>
    rw [e] at h4
    cases h4
  | some f =>
    rw [e] at h4
    cases f with
    | val v =>
      cases v with
      | builtin n =>
        have z : n = i := of_decide_eq_true h4
        rw [z]
      | _ => cases h4
    | _ => cases h4
end Rv
namespace Rv
open PySem PySem.Spec PyProof.Rows L2
/-! exceptions of own classes: raised in defs, caught in the law -/
theorem passE0 {X : Cx} : Passes (L2.CX X.prog X.w) X E0 := fun _ _ _ _ _ _ _ c => by
  obtain ⟨_, _, _, _, _, _, _, _, _, _, _, _, z⟩ := c
  exact z.elim
theorem takesF {X : Cx} : Takes X fun _ _ _ _ => False := fun u s' x => by
  obtain ⟨_, _, _, _, _, _, _, _, _, _, _, _, _, _, _, _, w⟩ := x
  exact w.elim
/-- raise e -/
def tRaise (t : L2.St → Hp → XK → Prop) (E : XK) : TS := fun _ σ H => t σ H fun cls d H' => E cls d H'
theorem ps_raiseE {X : Cx} {E : XK} {e : Expr} {t : L2.St → Hp → XK → Prop} {pos : Pos} (he : PMk X e t) (tk : Takes X fun cls d _ H => E cls d H) (hc : X.calm = true := by rfl) : PS X (.Raise (some e) none pos) (tRaise t E) := ps_raise hc tk he
/-- an own exception class with its __init__ -/
structure CalX (P : Program) (w : World) (K : PySem.W.Frag) (mg : Str → Option Value) (base : Heap) (CX : CXT) (k : Nat) (x : Str) (C : Addr) (ps : List Str) (sp : Sp) (dvs : List V) (B newId initId : String) (bmB : List Value) : Prop where
  ex : ∃ f fd ds, FnOk P w K mg base CX k f fd ps sp ∧ OexG K C B newId initId bmB ∧ PySem.W.findIn K (.ref C) "__init__" = some (some (.ref f)) ∧ PySem.W.typeIn K (.ref f) = some (.type "function") ∧ mg x = some (.ref C) ∧ Binds K fd ps ds ∧ Vals dvs ds
theorem pmk_cal {X : Cx} {CX : CXT} {k : Nat} {x : Str} {C : Addr} {ps : List Str} {sp : Sp} {dvs : List V} {B newId initId : String} {bmB : List Value} {e : Expr} {es : List Expr} {ta : TA} {p pos : Pos} (c : CalX X.prog X.w X.K X.mg X.base CX k x C ps sp dvs B newId initId bmB) (hr : Room (k + 1) X.A) (hx : Passes CX X (fun _ _ _ => False)) (hg : Gl X x) (ha : PA X (e :: es) ta)
    (hdb : (x == ("__debug__" : Str)) = false := by decide) (he : starEach (e :: es) X.env = (false, eval e X.env) :: starEach es X.env := by rfl) (hpl : (backTo pos (starEach es X.env)).any (·.1) = false := by rfl) : PMk X (.Call (.Name x p) (e :: es) [] pos) (tMkO C sp dvs ta) := by
  obtain ⟨f, fd, ds, F, T, iC, tI, hm, hb, hd⟩ := c.ex
  exact pmk_any T iC tI F hr hb hd hx hg hm ha hdb he hpl
/-! .. at the state in which the call stands -/
section
variable {X : Cx} {CX : CXT} {k : Nat} {f C : Addr} {fd : FuncData} {ps : List Str} {sp : Sp} {E : L2.St → XK} {x m : Str} {p pos apos : Pos} {e o : Expr} {es : List Expr} {ta tb : TE} {t : TA} {dvs : List V} {ds : List Value}
theorem run_fnD {pins : List (Addr × Obj)} {σ : L2.St} {H : Hp} {s : Shared} {Q : VK} {us : List Value} {vs : List V} (F : FnOk X.prog X.w X.K X.mg X.base CX k f fd ps sp) (hr : Room k X.A) (hb : Binds X.K fd ps ds) (hd : Vals dvs ds) (hx : PassesAt CX X σ (E σ))
    (I : Inv X pins σ H s) (r : Vals vs us) (h : sp (vs ++ dvs) H Q (E σ)) : wpAny (model X.prog X.w) X.A (call (.ref f) us) (EP X pins σ Q) X.xe s := by
  have r2 : Vals (vs ++ dvs) (us ++ ds) := r.append hd
  have hl : (us ++ ds).length = ps.length := by rw [← r2.length]; exact F.len _ _ _ _ h
  refine wpAny_call (codeAny_mono (F.run X.A X.stack s H ⟨us, []⟩ (us ++ ds) (vs ++ dvs) Q (E σ) hr I.env0 (hb s us I.kIn hl) r2 h) fun r s' hq => ?_)
  cases r with
  | error e => exact hx pins H s e s' I hq
  | ok fl =>
    cases fl with
    | ret u => exact I.after hq
    | next => exact False.elim hq
    | brk => exact False.elim hq
    | cont => exact False.elim hq
def tCallD (sp : Sp) (dvs : List V) (E : L2.St → XK) (t : TA) : TE := fun σ H Q => t σ H fun vs H1 => sp (vs ++ dvs) H1 Q (E σ)
theorem pe_calD (c : Cal X.prog X.w X.K X.mg X.base CX k x ps sp) (hr : Room k X.A) (hg : Gl X x) (hx : ∀ σ, PassesAt CX X σ (E σ)) (ha : PA X (e :: es) t) (hdb : (x == ("__debug__" : Str)) = false := by decide)
    (he : starEach (e :: es) X.env = (false, eval e X.env) :: starEach es X.env := by rfl) (hpl : (backTo pos (starEach es X.env)).any (·.1) = false := by rfl) : PE X (.Call (.Name x p) (e :: es) [] pos) (tCallD sp [] E t) := by
  obtain ⟨f, fd, F, hm, hk, hb⟩ := c.ex
  refine ⟨fun pins s σ H Q I h => ?_⟩
  refine wpAny_Call_Name_kw (ld_glob I hg hm ?_ hdb)
  refine PySem.W.callWith_K (h₀ := X.base) I.ok.mod.kin hk (thn (ha.run pos pins s σ H _ I h) fun us s1 ⟨vs, H1, I1, r, q⟩ => ⟨I1.kIn, ?_⟩) he hpl
  exact run_fnD F hr hb .nil (hx σ) I1 r q
def tMethD (C : Addr) (m : Str) (sp : Sp) (dvs : List V) (E : L2.St → XK) (ta : TE) (t : TA) : TE := fun σ H Q => ta σ H fun x H1 => ∃ a dx fs, x = .ref a ∧ H1 a = some (.ins C dx fs) ∧ fs.lookup m = none ∧ t σ H1 fun vs H2 => sp (x :: (vs ++ dvs)) H2 Q (E σ)
theorem pe_caltD {pl : Sem Bool} (c : CalT X.prog X.w X.K X.mg X.base CX k C m ps sp) (hr : Room k X.A) (hx : ∀ σ, PassesAt CX X σ (E σ)) (ho : PE X o ta) (ha : PA X (e :: es) t)
    (he : starEach (e :: es) X.env = (false, eval e X.env) :: starEach es X.env := by rfl) (hpl : (backTo pos (starEach es X.env)).any (·.1) = false := by rfl)
    (ht : eval (.Call (.Attribute o m apos) (e :: es) [] pos) X.env = (do let ov ← eval o X.env; standAt apos.atName; let (f, first) ← holding [ov] (getMethod ov m pl); callWith pos f first (backTo pos (starEach (e :: es) X.env)) (backToKw pos (keywordEach [] X.env))) := by rfl) :
    PE X (.Call (.Attribute o m apos) (e :: es) [] pos) (tMethD C m sp [] E ta t) := by
  obtain ⟨f, fd, F, cl, hm, hb⟩ := c.ex
  refine ⟨fun pins s σ H Q I h => ?_⟩
  refine PySem.W.methodCall_KW (pl := pl) (thn (ho.run pins s σ H _ I h) fun u s1 ⟨x, H1, I1, rx, a, dx, fs, ex, ea, l, q⟩ => ?_) ht
  subst ex
  obtain rfl : u = Value.ref a := rx
  refine getmeth_ok I1 ea cl hm l ?_
  refine PySem.W.callWith_K (first := [.ref a]) (h₀ := X.base) I.ok.mod.kin hm.kp (thn (ha.run pos pins s1 σ H1 _ I1 q) fun us s2 ⟨vs, H2, I2, r, q2⟩ => ⟨I2.kIn, ?_⟩) he hpl
  exact run_fnD (us := .ref a :: us) (vs := .ref a :: vs) F hr hb .nil (hx σ) I2 (.cons rfl r) q2
/-- a two-place operator that may raise -/
def OpRS (X : Cx) (f : Value → Value → Sem Value) (r : L2.St → R2) : Prop :=
  ∀ (pins : List (Addr × Obj)) (s : Shared) (σ : L2.St) (H : Hp) (x y : V) (v u : Value) (Q : VK), Inv X pins σ H s → RelV x v → RelV y u → r σ x y H Q → wpAny (model X.prog X.w) X.A (f v u) (EP X pins σ Q) X.xe s
def tOpS (r : L2.St → R2) (ta tb : TE) : TE := fun σ H Q => ta σ H fun x H1 => tb σ H1 fun y H2 => r σ x y H2 Q
theorem pe_opS {a b : Expr} {op : Operator} {r : L2.St → R2} (ho : OpRS X (binaryOp op) r) (ha : PE X a ta) (hb : PE X b tb) : PE X (.BinOp a op b pos) (tOpS r ta tb) := by
  refine ⟨fun pins s σ H Q I h => ?_⟩
  exact wpAny_BinOp (binT ha hb I h fun v u s2 x y H2 I2 rx ry q => ho pins s2 σ H2 x y v u Q I2 rx ry q)
theorem run2S {pins : List (Addr × Obj)} {σ : L2.St} {H : Hp} {s : Shared} {a : Addr} {y : V} {u : Value} {Q : VK} (F : FnOk X.prog X.w X.K X.mg X.base CX k f fd ["self", "other"] sp) (hb : Binds X.K fd ["self", "other"] []) (hx : PassesAt CX X σ (E σ)) (hr : Room k X.A) (I : Inv X pins σ H s) (ry : RelV y u) (q : sp [.ref a, y] H Q (E σ)) :
    wpAny (model X.prog X.w) X.A (call (.ref f) [.ref a, u]) (PySem.W.CmpBack (EP X pins σ Q)) X.xe s := by
  have r2 : Vals [V.ref a, y] [Value.ref a, u] := .cons rfl (.cons ry .nil)
  have hl := F.len _ _ _ _ q
  refine wpAny_call (codeAny_mono (F.run X.A X.stack s H ⟨[.ref a, u], []⟩ [.ref a, u] [.ref a, y] _ (E σ) hr I.env0 (by
    have := hb s [.ref a, u] I.kIn (by simpa using hl)
    simpa using this) r2 q) fun r s' hq => ?_)
  cases r with
  | error e => exact hx pins H s e s' I hq
  | ok fl =>
    cases fl with
    | ret w =>
      obtain ⟨z, H', I', rz, qz⟩ := I.after hq
      exact back_of rz ⟨z, H', I', rz, qz⟩
    | next => exact False.elim hq
    | brk => exact False.elim hq
    | cont => exact False.elim hq
theorem op_addS (c : CalO X.prog X.w X.K X.mg X.base CX k C "__add__" sp) (oc : OpC X.K C) (hr : Room k X.A) (hx : ∀ σ, PassesAt CX X σ (E σ)) : OpRS X (binaryOp .Add) fun σ => rAddO C sp (E σ) := by
  intro pins s σ H x y v u Q I rx ry h
  obtain ⟨a, dx, fs, b, dy, gs, rfl, ha, rfl, hb', q⟩ := h
  cases (show v = Value.ref a from rx)
  cases (show u = Value.ref b from ry)
  obtain ⟨f, fd, F, hs, hf, hb⟩ := c.ex
  obtain ⟨mA, J, _⟩ := ins_get I.hok ha
  obtain ⟨od, J, _⟩ := J.look
  obtain ⟨mB, J', _⟩ := ins_get I.hok hb'
  obtain ⟨od', J', _⟩ := J'.look
  obtain ⟨m, hF⟩ := I.fr
  have go := run2S (E := E) (y := .ref b) (u := .ref b) F hb (hx σ) hr I rfl q
  exact PySem.W.binop_K (op := .Add) hF I.ok.mod.kin J J'.type oc.sf (by rw [show PySem.dunder (Operator.info .Add).2 = ("__add__" : Str) from by decide +kernel]; exact hs) hf go
end
/-- try .. except c as n -/
def tTryAs (K : PySem.W.Frag) (c : Value) (i : Nat) (tb : WX → TS) (ts : Addr → Value → Option Addr → TS) (Wout : WX) : TS := fun D σ H => tb (wAs K c i ts Wout D) D σ H
/-- what is asked of a class by isinstance(e, ..), e with a dict -/
def rIsD (K : PySem.W.Frag) (D a : Addr) (cls : Value) (d : Option Addr) : List V → Hp → VK → Prop := fun xs H Q => cls = .ref D ∧ ∃ (c : V) (cv : Value) (b : Bool) (dd : Addr) (fs : List (Str × V)), xs = [.ref a, c] ∧ (∀ u, RelV c u → u = cv) ∧ d = some dd ∧ H dd = some (.xd fs) ∧ PySem.W.kitOne K (.ref D) cv = some b ∧ Q (.bl b) H
theorem call_isD {X : Cx} {a D : Addr} {oe : Obj} {cls : Value} {d : Option Addr} {pn : List (Addr × Obj)} (C : ExcC X.K D) (hz : Zc cls d oe) (hf : ∃ vs, oe.data = .fields vs) : CallR (X.suite a ((a, oe) :: pn)) (.builtin "isinstance") (rIsD X.K D a cls d) := by
  intro pins s σ H xs us Q I r h
  obtain ⟨ec, c, cv, b, dd, fs, rfl, hcv, ed, ea, e, q⟩ := h
  subst ec
  cases r with
  | cons rx rr =>
    cases rr with
    | cons rt rr =>
      cases rr
      cases rx
      have ec := hcv _ rt
      subst ec
      obtain ⟨hget, _⟩ := I.pin (a, oe) (List.mem_append.mpr (.inl List.mem_cons_self))
      obtain ⟨vs, hv⟩ := hf
      have hx : ObjOk X.prog X.w H s.heap dd (.xd fs) := I.hok dd _ ea
      obtain ⟨mA, hns, hr⟩ := hx
      obtain ⟨od, ho, hl⟩ := lookIn_ns hns
      have J : PySem.W.InstAt s.heap a oe D (some od) := ⟨hget, hz.1, by unfold PySem.W.notCls; rw [hv] <;> rfl, by rw [hz.2, ed]; exact ho⟩
      exact PySem.W.kia_one (PySem.W.kitx_exc (by obtain ⟨cd, hc, _⟩ := PySem.W.any_some C.hd; rw [hc]; rfl) C.hg C.hk C.hs C.ha C.hn C.ht C.hm) I.kIn J e (fun z => nomatch z) fun tk => ⟨.bl b, H, I.kept (t' := tk) fun _ _ z => z, rfl, q⟩
abbrev bm_OverflowError : List Value := [.type "OverflowError", .type "ArithmeticError", .type "Exception", .type "BaseException", .type "object"]
abbrev bm_ValueError : List Value := [.type "ValueError", .type "Exception", .type "BaseException", .type "object"]
abbrev bm_IndexError : List Value := [.type "IndexError", .type "LookupError", .type "Exception", .type "BaseException", .type "object"]
/-- an own exception's __init__(self, v): its one field is set -/
def spExc (K : PySem.W.Frag) (C : Addr) (B newId initId : String) (bmB : List Value) (f : Str) : Sp := fun vs H Q _ => ∃ p v, vs = [.ref p, v] ∧ OexG K C B newId initId bmB ∧ PySem.W.findIn K (.ref C) f = some none ∧ H p = some (exo p C none) ∧
  ∀ dx, H dx = none → dx ≠ p → Q .non (upd (upd H dx (exd dx [(f, v)])) p (exo p C (some dx)))
/-- what a new exception brings -/
theorem exc_new {K : PySem.W.Frag} {C : Addr} {B newId initId : String} {bmB : List Value} {f : Str} {H : Hp} {XQ : XK} {v : V} (T : OexG K C B newId initId bmB) (no : PySem.W.findIn K (.ref C) f = some none)
    (k : ∀ d H', H d = none → Same H H' → H' d = some (.xd [(f, v)]) → XQ (.ref C) (some d) H') :
    [v].length ≤ 1000 ∧ ∀ a, H a = none → spExc K C B newId initId bmB f (.ref a :: ([v] ++ [])) (upd H a (exo a C none))
      (fun v H2 => v = .non ∧ ∃ (d : Addr) (fs : List (Str × V)), H2 a = some (exo a C (some d)) ∧ H2 d = some (exd d fs) ∧ H d = none ∧ XQ (.ref C) (some d) (upd (del H2 a) d (.xd fs))) (fun _ _ _ => False) := by
  refine ⟨by show 1 ≤ 1000; decide, fun a na => ⟨a, v, rfl, T, no, upd_same, fun dx nd ne => ⟨rfl, dx, [(f, v)], upd_same, ?_, ?_, ?_⟩⟩⟩
  · rw [upd_ne ne, upd_same]
  · rw [upd_ne ne] at nd
    exact nd
  · rw [upd_ne ne] at nd
    refine k dx _ nd (fun b o hb => ?_) upd_same
    have n1 : b ≠ dx := ne_of_none hb nd
    have n2 : b ≠ a := ne_of_none hb na
    rw [upd_ne n1]
    show del (upd (upd (upd H a _) dx _) a _) a b = some o
    unfold del
    rw [if_neg n2, upd_ne n2, upd_ne n1, upd_ne n2]
    exact hb
def ecB (K : PySem.W.Frag) (x : Str) : Bool := He.eqO (PySem.W.findIn K (.ref (He.ga K x)) "__getattribute__") (some (some (.builtin "BaseException.__getattribute__"))) && (He.eqO (PySem.W.findIn K (.ref (He.ga K x)) "__getattr__") (some none) &&
  (decide (PySem.W.subIn K (.ref (He.ga K x)) (.type "BaseException") = some true) && (PySem.W.hasDictIn K (He.ga K x) && (He.eqO (PySem.W.findIn K (.ref (He.ga K x)) "__class__") (some (some (.builtin "object.__class__"))) &&
  (He.eqO (PySem.W.specialIn K (.builtin "object.__class__") "__get__") (some (some (.builtin "getset_descriptor.__get__"))) && (decide (PySem.W.takesIn K (.builtin "object.__class__") = some true) && decide (PySem.W.mroIn K (He.ga K x) (.type "object") = some true)))))))
theorem ec_of {K : PySem.W.Frag} {x : Str} (h : ecB K x = true) : ExcC K (He.ga K x) := by
  obtain ⟨h1, h⟩ := He.ba h
  obtain ⟨h2, h⟩ := He.ba h
  obtain ⟨h3, h⟩ := He.ba h
  obtain ⟨h4, h⟩ := He.ba h
  obtain ⟨h5, h⟩ := He.ba h
  obtain ⟨h6, h⟩ := He.ba h
  obtain ⟨h7, h8⟩ := He.ba h
  exact ⟨He.eqO_ok h1, He.eqO_ok h2, of_decide_eq_true h3, h4, He.eqO_ok h5, He.eqO_ok h6, of_decide_eq_true h7, of_decide_eq_true h8⟩
def viB (K : PySem.W.Frag) (b : String) : Bool := match PySem.W.findCls K (.type b) (.type "type") "__init__" with
  | some (.val (.builtin n)) => decide (n = b ++ ".__init__")
  | _ => false
theorem vi_ok {K : PySem.W.Frag} {b : String} (h : viB K b = true) : PySem.W.findCls K (.type b) (.type "type") "__init__" = some (.val (.builtin (b ++ ".__init__"))) := by
  unfold viB at h
  split at h
  · rename_i n e
    rw [e, of_decide_eq_true h]
  · cases h
theorem p_exc {K : PySem.W.Frag} {C : Addr} {B newId initId : String} {bmB : List Value} {f : Str} {vs : List V} {H : Hp} {Q : VK} {E : XK} (m : Str) (h : spExc K C B newId initId bmB f vs H Q E) {N : List Str} (hN : ∀ p v, start N [.ref p, v] = [some (V.ref p), some v]) :
    tSeq (tDrop (tBaseI K C B newId initId bmB (tCons (tVar 0) (tCons (tC (.str m)) tNil)))) (tFst K C B newId initId bmB f (tVar 0) (tVar 1)) { nx := fun _ H' => Q .non H', rt := Q } (start N vs) H := by
  obtain ⟨p, v, rfl, T, no, hp, k⟩ := h
  rw [hN]
  refine w_seqD ?_
  refine ⟨_, rfl, ?_⟩
  refine ⟨p, [.str m], rfl, by show 1 ≤ 1000; decide, T, hp, ?_⟩
  refine ⟨_, rfl, ?_⟩
  refine ⟨_, rfl, ?_⟩
  exact ⟨p, rfl, T, no, hp, fun dx nd ne => k dx nd ne⟩
theorem w_raise {t : L2.St → Hp → XK → Prop} {E : XK} {D : Ends} {σ : L2.St} {H : Hp} (q : t σ H fun cls d H' => E cls d H') : tRaise t E D σ H := q
theorem w_mkO {C : Addr} {sp : Sp} {dvs : List V} {ta : TA} {σ : L2.St} {H : Hp} {Q : XK} (q : ta σ H fun vs H1 => vs.length ≤ 1000 ∧ ∀ a, H1 a = none → sp (.ref a :: (vs ++ dvs)) (upd H1 a (exo a C none))
  (fun v H2 => v = .non ∧ ∃ (d : Addr) (fs : List (Str × V)), H2 a = some (exo a C (some d)) ∧ H2 d = some (exd d fs) ∧ H1 d = none ∧ Q (.ref C) (some d) (upd (del H2 a) d (.xd fs))) (fun _ _ _ => False)) : tMkO C sp dvs ta σ H Q := q
end Rv
namespace Rv
open PySem PySem.Spec PyProof.Rows L2
theorem map_rangeS {g : Nat → Int} {i : Nat} : ((List.range (i + 1)).map g).map V.int = ((List.range i).map g).map V.int ++ [.int (g i)] := by
  rw [List.range_succ, List.map_append, List.map_append]
  rfl
/-- [e for k in range(n)] -/
theorem w_lcG {σ : L2.St} {H : Hp} {Q : VK} {slot n : Nat} {tr : TA} {te : TE} {g : Nat → Int} (hn : n ≤ 1000) (ha : ∀ AQ : List V → Hp → Prop, AQ [.int (n : Int)] H → tr σ H AQ)
    (hs : ∀ j, j < n → ∀ H1 (Q : VK), Same H H1 → (∀ H2, Same H1 H2 → Q (.int (g j)) H2) → te ((σ.set slot none).set slot (some (.int (j : Int)))) H1 Q)
    (k : ∀ D H1, H D = none → Same H H1 → H1 D = some (.lst (((List.range n).map g).map V.int)) → Q (.ref D) H1) : tLc (iRng1 tr) (gName slot) tYes te [slot] σ H Q := by
  refine w_lcR (n := n) (by omega) ha (fun D acc H' => Same H H' ∧ H D = none ∧ acc.length ≤ n ∧ acc = ((List.range acc.length).map g).map V.int ∧ H' D = some (.lst acc)) (fun D nD => ?_) ?_ ?_
  · exact ⟨same_new (Same.refl H) nD, nD, Nat.zero_le _, rfl, upd_same⟩
  · rintro D acc H1 hl ⟨e, nD, _, hacc, hD⟩
    refine hs acc.length hl H1 _ e fun H2 e2 => ?_
    refine w_app (J := fun D acc H' => Same H H' ∧ H D = none ∧ acc.length ≤ n ∧ acc = ((List.range acc.length).map g).map V.int ∧ H' D = some (.lst acc)) (e2 _ _ hD) (by omega) ?_
    refine ⟨fun c o hc => ?_, nD, by rw [List.length_append]; show acc.length + 1 ≤ n; omega, ?_, upd_same⟩
    · rw [upd_ne (ne_of_none hc nD)]
      exact e2 _ _ (e _ _ hc)
    · rw [List.length_append]
      show acc ++ [V.int (g acc.length)] = ((List.range (acc.length + 1)).map g).map V.int
      rw [map_rangeS, ← hacc]
  · rintro D acc H1 hl ⟨e, nD, _, hacc, hD⟩
    rw [hl] at hacc
    exact k D H1 nD e (by rw [hD, hacc])
/-- a for over what is walked by J -/
def tForJ (J : It) (g : TG) (tb : TS) (D : Ends) (σ : L2.St) (H : Hp) : Prop := ∃ W : Nat → Nat → L2.St → Hp → Prop, (∃ m, W 0 m σ H) ∧ ∀ i m σ H, W i m σ H →
  (J.stop i H ∧ D.nx σ H) ∨ (J.go i H ∧ ∃ N : L2.St → Hp → Prop, (∀ σ' H', N σ' H' → ∃ m', m' < m ∧ W (i + 1) m' σ' H') ∧ ∀ x H', J.yld i H x H' → g x σ H' fun σ2 H2 => tb { D with nx := N, ct := N, bk := D.nx } σ2 H2)
theorem w_forJn {tr : TA} {g : TG} {s1 : TS} {D : Ends} {σ : L2.St} {H : Hp} (q : tr σ H fun vs H1 => ∃ j : Int, vs = [.int j] ∧ -(2 ^ 62) ≤ j ∧ j < 2 ^ 62 ∧ tForJ (Itr 0 j.toNat) g s1 D σ H1) : tFor (iRng1 tr) g s1 D σ H := q
theorem w_forJi {slot n : Nat} {s1 : TS} {D : Ends} {σ : L2.St} {H : Hp} (Pv : Nat → L2.St → Hp → Prop) (h0 : Pv 0 σ H)
    (hs : ∀ i σ' H', i < n → Pv i σ' H' → s1 { D with nx := Pv (i + 1), ct := Pv (i + 1), bk := D.nx } (σ'.set slot (some (.int (i : Int)))) H') (hd : ∀ σ' H', Pv n σ' H' → D.nx σ' H') : tForJ (Itr 0 n) (gName slot) s1 D σ H := by
  refine for_range Pv h0 (fun i σ' H' hi q => ?_) hd
  show s1 _ (σ'.set slot (some (.int (0 + (i : Int))))) H'
  rw [Int.zero_add]
  exact hs i σ' H' hi q
/-- range(n), n at hand -/
def iRi (n : Nat) : TI := fun _ H R => R (Itr 0 n) H
theorem w_lcRn {tr : TA} {g : TG} {tt : TT} {te : TE} {vs' : List Nat} {σ : L2.St} {H : Hp} {Q : VK} (q : tr σ H fun vs H1 => ∃ j : Int, vs = [.int j] ∧ -(2 ^ 62) ≤ j ∧ j < 2 ^ 62 ∧ tLc (iRi j.toNat) g tt te vs' σ H1 Q) : tLc (iRng1 tr) g tt te vs' σ H Q := q
theorem w_lcGi {σ : L2.St} {H : Hp} {Q : VK} {slot n : Nat} {te : TE} {g : Nat → Int} (hn : n ≤ 1000)
    (hs : ∀ j, j < n → ∀ H1 (Q : VK), Same H H1 → (∀ H2, Same H1 H2 → Q (.int (g j)) H2) → te ((σ.set slot none).set slot (some (.int (j : Int)))) H1 Q)
    (k : ∀ D H1, H D = none → Same H H1 → H1 D = some (.lst (((List.range n).map g).map V.int)) → Q (.ref D) H1) : tLc (iRi n) (gName slot) tYes te [slot] σ H Q := by
  obtain ⟨j, e, _, _, q⟩ := w_lcG (tr := tCons (tC (.int (n : Int))) tNil) hn (fun AQ q => q) hs k
  cases e
  rw [Int.toNat_natCast] at q
  exact q
end Rv
/-! try with several clauses 'except C as n' of one name n. -/
namespace Rv
open PySem PySem.Spec PyProof.Rows L2
abbrev Cl := Value × (Addr → Value → Option Addr → TS)
/-- the wish of the clauses, one behind the other -/
def wAsL (K : PySem.W.Frag) (i : Nat) (Wo : WX) (D : Ends) : List Cl → WX
  | [] => Wo
  | p :: r => wAs K p.1 i p.2 (wAsL K i Wo D r) D
inductive AsL (X : Cx) (n : Str) : List ExceptHandler → List Cl → Prop
  | nil : AsL X n [] []
  | cons {x : Str} {c : Value} {ts : Addr → Value → Option Addr → TS} {b : Stmt} {bs : List Stmt} {q1 q2 : Pos} {hs : List ExceptHandler} {l : List Cl} (hc : Names X x c)
      (su : ∀ (a : Addr) (oe : Obj) (cls : Value) (d : Option Addr) (pn : List (Addr × Obj)), Zc cls d oe → (∃ vs, oe.data = .fields vs) → PSs (X.suite a ((a, oe) :: pn)) (b :: bs) (ts a cls d)) (r : AsL X n hs l) :
      AsL X n (.ExceptHandler (some (.Name x q1)) (some n) (b :: bs) q2 :: hs) ((c, ts) :: l)
def tTryL (K : PySem.W.Frag) (i : Nat) (tb : WX → TS) (l : List Cl) (Wo : WX) : TS := fun D σ H => tb (wAsL K i Wo D l) D σ H
section
variable {X : Cx} {n : Str} {i : Nat} {pins : List (Addr × Obj)} {σ : L2.St} {H : Hp} {D : Ends} {a : Addr} {B hp : Heap} {cls : Value} {d : Option Addr} {Wo : WX} {sI s0 : Shared}
/-- an exception that has landed at this frame finds its clause -/
theorem land_in (hs : X.stack = X.env :: X.outer) (hf : X.env.frame = some X.env.locals) (hN : X.N.Nodup) (hi : X.N[i]? = some n) (hln : X.env.kindOf n = some .local) (tk : Takes X Wo) (J : Inv X pins σ H sI)
    (nb : ∀ b o, sI.heap.get? b = some o → b ∉ frs X.stack → B.get? b = some o) (up : sI.heap.UpToSlots hp) (na : H a = none) (os : s0.os = sI.os) (ag : AllBare s0.gens) (fl : HandSPX.FlyingZ B (X.env :: X.outer) a (Zc cls d) hp) :
    ∀ {hds : List ExceptHandler} {l : List Cl}, AsL X n hds l → wAsL X.K i Wo D l cls d σ H → wpAny (model X.prog X.w) X.A (handleBy (.ref a) X.env hds) (SP X pins D) X.xe { s0 with heap := hp } := by
  have ok := J.ok
  have land : ∀ {h1 : Heap}, HandSPX.FlyingZ B (X.env :: X.outer) a (Zc cls d) h1 → sI.heap.UpToSlots h1 → Inv X pins σ H { s0 with heap := h1 } := fun f1 u1 => J.landed nb f1.1 u1 os ag
  have I3 := land fl up
  obtain ⟨oe, vs, he, hz, hd⟩ := fl.there
  have out : a ∉ frs (X.env :: X.outer) := fun hm => by
    obtain ⟨_, o1, e1, nf⟩ := fl.2.2.1.mem hm
    cases he.symm.trans e1
    exact nf _ hd
  have nL : a ≠ X.env.locals := fun z => out (List.mem_filterMap.mpr ⟨X.env, List.mem_cons_self, by rw [hf, z]⟩)
  have nF : a ∉ X.fs := fun hm => by
    obtain ⟨e1, m1, q1⟩ := List.mem_filterMap.mp hm
    exact out (List.mem_filterMap.mpr ⟨e1, List.mem_cons_of_mem _ m1, q1⟩)
  have S3 := I3.suite he hd na nL nF
  intro hds l hl
  induction hl with
  | nil =>
    intro w
    refine wpAny_handleBy_nil ?_
    obtain ⟨_, _, _, o1, v1, T, oT, t1, g1, g2, g3, g4, _⟩ := id fl
    unfold PySem.passOn
    refine wpAny_bind (wpAny_field g1 g3 g4 ?_)
    rw [if_neg (by simp)]
    have last : wpAny (model X.prog X.w) X.A (setFlight (.ref a) X.env.frame) (fun _ s4 => wpAny (model X.prog X.w) X.A (throw (.ref a) : Sem Flow) (SP X pins D) X.xe s4) X.xe { s0 with heap := hp } := by
      rw [hf]
      refine HandSPX.setFlight_upZ fl fun h4 hh u4 => wpAny_throw (tk _ _ ?_)
      exact ⟨a, B, sI, pins, σ, H, cls, d, rfl, J, nb, up.trans u4, .inr (.inr (by rw [hs]; exact hh)), na, os, ag, w⟩
    first
      | exact wpAny_bind (wpAny_pure (wpAny_bind last))
      | exact wpAny_bind last
  | @cons x c0 ts b bs q1 q2 hds2 l2 hc su r ih =>
    rintro ⟨c, hb1, yes, no⟩
    refine wpAny_handleBy_cons (codeAny_handlers_test ?_) (fun q => nomatch q)
    have LT : PySem.W.Looks (model X.prog X.w) hp (typeOf (.ref a)) cls := fun A Q E s k q => wpAny_typeOf_ref (k _ _ he) (by rw [hz.1]; exact q)
    have LM := PySem.W.exm_one (M := model X.prog X.w) I3.kIn LT hb1
    have name : ∀ {Q E : Value → Shared → Prop}, Q c0 { s0 with heap := hp } → wpAny (model X.prog X.w) (X.A.mark (some (.ref a))) (eval (.Name x q1) X.env) Q E { s0 with heap := hp } := fun {Q E} q => by
      rcases hc with ⟨k1, k2, k3 | ⟨k3, k4, k5⟩⟩
      · exact ld_glob (X := X.suite a ((a, oe) :: (X.pn ++ pins))) S3 k1 k3 q k2
      · exact ld_blt (X := X.suite a ((a, oe) :: (X.pn ++ pins))) S3 k1 k3 k4 q k5 k2
    refine name (LM.here ?_)
    cases c with
    | false =>
      show wpAny _ X.A (handleBy (.ref a) X.env hds2) _ _ _
      exact ih (no rfl)
    | true =>
      refine codeAny_handlers_suite_as ?_
      refine HandSPX.lands_againZ fl fun h4 fl4 u4 => ?_
      obtain ⟨o4, v4, he4, hz4, hd4⟩ := fl4.there
      have S4 := (land fl4 (up.trans u4)).suite he4 hd4 na nL nF
      refine store_ok (X := X.suite a ((a, o4) :: (X.pn ++ pins))) (v := .ref a) S4 hN hi (.inl hln) rfl (fun s5 S5 => ?_) (.inr hln)
      have fin : ∀ {σ6 : L2.St} {H6 : Hp} {s6 : Shared} {R : Shared → Prop}, Inv (X.suite a ((a, o4) :: (X.pn ++ pins))) [] σ6 H6 s6 → (∀ s7, Inv X pins (σ6.set i none) H6 s7 → R s7) →
          wpAny (model X.prog X.w) X.A (do bindName X.env n .none; unbindBehindTheSuite X.env n q2) (fun _ s7 => R s7) X.xe s6 := fun {σ6 H6 s6 R} S6 hq => gone_ok (S6.unsuite ok) hN hi hln hq
      refine wpAny_mono ((su a o4 cls d (X.pn ++ pins) hz4 ⟨_, hd4⟩).run [] s5 _ H _ S5 (yes rfl a na)) (fun f s6 q6 => ?_) (fun _ _ z => z.elim)
      cases f with
      | next =>
        obtain ⟨σ6, H6, S6, q⟩ := q6
        exact fin S6 fun s7 J7 => ⟨_, _, J7, q⟩
      | brk =>
        obtain ⟨σ6, H6, S6, q⟩ := q6
        exact fin S6 fun s7 J7 => ⟨_, _, J7, q⟩
      | cont =>
        obtain ⟨σ6, H6, S6, q⟩ := q6
        exact fin S6 fun s7 J7 => ⟨_, _, J7, q⟩
      | ret u =>
        obtain ⟨v6, σ6, H6, S6, r6, q⟩ := q6
        exact fin S6 fun s7 J7 => ⟨_, _, _, J7, r6, q⟩
end
section
variable {X : Cx} {n : Str} {i : Nat} {body : List Stmt} {h0 : ExceptHandler} {hds : List ExceptHandler} {l : List Cl} {pos : Pos} {tb : WX → TS} {Wo : WX}
theorem ps_tryL (hs : X.stack = X.env :: X.outer) (hf : X.env.frame = some X.env.locals) (hN : X.N.Nodup) (hi : X.N[i]? = some n) (hln : X.env.kindOf n = some .local) (tk : Takes X Wo)
    (hb : ∀ (W : WX) (pn : List (Addr × Obj)) (xe : Value → Shared → Prop), Takes (X.tr pn xe) W → PassesOwn (model X.prog X.w) X.A X.env xe → PSs (X.tr pn xe) body (tb W))
    (hh : AsL X n (h0 :: hds) l) : PS X (.Try body (h0 :: hds) [] [] pos) (tTryL X.K i tb l Wo) := by
  refine ⟨fun pins s σ H D I h => ?_⟩
  have ok := I.ok
  have fr : X.A.frames = some (X.env :: X.outer) := by rw [ok.frames, hs]
  refine wpAny_Try_except ?_
  refine wpAny_mono ((hb (wAsL X.K i Wo D l) (X.pn ++ pins) (fun e s1 => wpAny (model X.prog X.w) X.A (noteFrame e X.env) (fun _ s2 => wpAny (model X.prog X.w) X.A (setFlight e none) (fun _ s3 =>
    wpAny (model X.prog X.w) X.A (handleBy e X.env (h0 :: hds)) (SP X pins D) X.xe s3) X.xe s2) X.xe s1) (fun u s' xx => ?_) PassesOwn.looking).run [] s σ H D (I.toTry _) h) (fun f s1 q => ?_) (fun _ _ z => z)
  · obtain ⟨a, B, sI, pins', σ', H', cls, d, rfl, J, nb, up, sky, na, os, ag, w⟩ := xx
    refine Sky.land Zc.steady fr hf (by rw [← hs]; exact sky) fun h3 fl up3 => ?_
    exact land_in hs hf hN hi hln tk (J.ofTry ok) nb (up.trans up3) na os ag fl hh w
  · cases f with
    | next =>
      obtain ⟨σ', H', J, q⟩ := q
      exact wpAny_execs_nil ⟨σ', H', J.ofTry ok, q⟩
    | brk =>
      obtain ⟨σ', H', J, q⟩ := q
      exact ⟨σ', H', J.ofTry ok, q⟩
    | cont =>
      obtain ⟨σ', H', J, q⟩ := q
      exact ⟨σ', H', J.ofTry ok, q⟩
    | ret u =>
      obtain ⟨v, σ', H', J, r, q⟩ := q
      exact ⟨v, σ', H', J.ofTry ok, r, q⟩
end
end Rv
/-! Own defs that are called while an exception is handled (they raise nothing themselves), and repr there. -/
namespace Rv
open PySem PySem.Spec PyProof.Rows L2 L2H
/-- the context of such a def's body -/
def cxC (P : Program) (w : World) (K : PySem.W.Frag) (mg : Str → Option Value) (base : Heap) (N : List Str) (qual : Str) (scope : Scope) (f : Addr) (cd : Value) (A : Around) (outer : List Env) (s : Shared) (H : Hp) (E : XK) : Cx :=
  { cxOf CX0 P w K mg base N qual scope f cd A outer s H E with calm := false }
/-- what such a def promises -/
structure FnC (P : Program) (w : World) (K : PySem.W.Frag) (mg : Str → Option Value) (base : Heap) (k : Nat) (f : Addr) (fd : FuncData) (ps : List Str) (sp : Sp) : Prop where
  len : ∀ vs H Q E, sp vs H Q E → vs.length = ps.length
  run : ∀ (A : Around) (outer : List Env) (s : Shared) (H : Hp) (args : Args) (us : List Value) (vs : List V) (Q : VK) (E : XK), RoomH k A → Env0 P w K mg base A outer s H → BindsTo s fd args (ps.zip us) → Vals vs us → sp vs H Q E →
    codeAny (model P w) A (.call (.ref f) args) (CR CX0 outer P w H s Q E) s
theorem Env0.unmark {P : Program} {w : World} {K : PySem.W.Frag} {mg : Str → Option Value} {base : Heap} {A : Around} {outer : List Env} {s : Shared} {H : Hp} (e : Env0 P w K mg base A outer s H) : Env0 P w K mg base { A with handled := none } outer s H := by
  constructor
  · exact e.frames
  all_goals first
    | exact e.mod
    | exact e.bs
    | exact e.bsz
    | exact e.bare
    | exact e.hok
    | exact e.funs
    | exact e.frf
theorem FunD.okC {P : Program} {w : World} {K : PySem.W.Frag} {mg : Str → Option Value} {base : Heap} {k : Nat} {f : Addr} {fd : FuncData} {N ps : List Str} {sp : Sp} {x qual : Str} {params : Arguments} {body : List Stmt} {scope : Scope} {dvs : List V} {kws : List (Str × V)}
    (F : FunD K x qual params body scope dvs kws f fd) (S : FnScope N ps scope) (len : ∀ vs H Q E, sp vs H Q E → vs.length = ps.length)
    (hbody : ∀ (cdv : Value) (A : Around) (outer : List Env) (s : Shared) (H : Hp) (vs : List V) (Q : VK) (E : XK), sp vs H Q E →
      ∃ t, PSs (cxC P w K mg base N qual scope f cdv A outer s H E) body t ∧ t { nx := fun _ H' => Q .non H', rt := Q } (start N vs) H) : FnC P w K mg base (k + 1) f fd ps sp := by
  obtain ⟨oc, od, dV, kV, doc, pm, an, cdv, ct, osl, rfl, lk, hcd, _, _⟩ := F.ex
  refine ⟨len, fun A outer s H args us vs Q E hr e0 hb r hsp => ?_⟩
  have hl := len _ _ _ _ hsp
  have KX : K.In s.heap := e0.mod.kin.keeps fun b o e => (e0.bs b o e).1
  have lim : s.heap.NoLimit := e0.mod.nolimit.keeps fun b o e => (e0.bs b o e).1
  refine codeAny_call_function hr.depth (KX _ _ lk) rfl S.co S.gen rfl (PySem.W.codeRec_of KX hcd) (hb _ _ _ _ (wpAny_newFunctionEnv_cells S.kind ?_ fun env he s1 x1 => ?_))
  · rintro ⟨n, v⟩ hy
    rcases S.par n (List.of_mem_zip hy).1 with q | q
    · exact .inl q
    · exact .inr ⟨q, PySem.W.cellsFrom_some _ _ _ (.inl q)⟩
  subst he
  refine ⟨lim.keeps x1.toInCall.keep, codeAny_func ?_⟩
  obtain ⟨t, ht, hq⟩ := hbody cdv A outer s H vs Q E hsp
  have I0 := inv_start (CX := CX0) (E := E) (A := { A with handled := none }) S rfl (Env0.unmark e0) hl r x1
  have I : Inv (cxC P w K mg base N qual scope f cdv A outer s H E) [] (start N vs) H s1 :=
    ⟨⟨I0.ok.mod, I0.ok.kind, I0.ok.glob, I0.ok.blt, I0.ok.above, I0.ok.inj, I0.ok.has, I0.ok.cab, (fun z => Bool.noConfusion (show false = true from z)), Around.frames_deeper e0.frames, I0.ok.stk, I0.ok.exf, I0.ok.bs, I0.ok.bsz, I0.ok.noex, I0.ok.exfs, I0.ok.funs, I0.ok.frf⟩,
      I0.os, I0.bare, I0.base, I0.loc, I0.cell, I0.free, I0.freeC, I0.pin, I0.hok, I0.len⟩
  refine wpAny_mono (ht.run [] s1 (start N vs) H _ I hq) (fun fl s' hs => ?_) fun e s' hs => hs
  cases fl with
  | ret u =>
    obtain ⟨v, σ', H', J, rv, q⟩ := hs
    exact ⟨v, H', J.os, J.bare, J.base, J.hok, rv, q⟩
  | next =>
    obtain ⟨σ', H', J, q⟩ := hs
    exact ⟨.non, H', J.os, J.bare, J.base, J.hok, rfl, q⟩
  | brk =>
    obtain ⟨_, _, _, q⟩ := hs
    exact q.elim
  | cont =>
    obtain ⟨_, _, _, q⟩ := hs
    exact q.elim
/-- the class at C has a def of one parameter under the name nm, also told of callers that handle an exception -/
structure CalUC (P : Program) (w : World) (K : PySem.W.Frag) (mg : Str → Option Value) (base : Heap) (k : Nat) (C : Addr) (nm : Str) (sp : Sp) : Prop where
  ex : ∃ f fd, FnC P w K mg base k f fd ["self"] sp ∧ PySem.W.findIn K (.ref C) nm = some (some (.ref f)) ∧ PySem.W.isFn K (.ref f) = true ∧ Binds K fd ["self"] []
theorem roomH_in1 {k : Nat} {A : Around} (r : RoomH (k + 1) A) : RoomH k A.in1 :=
  ⟨by have := r.dp; show A.depth + 3 * k + 5 < _; omega, by have := r.un; show A.units + 1 + 16 * k + 200 < _; omega⟩
/-- repr of a value of any kind: built-in data, or an instance of the class at C -/
def cReprA (K : PySem.W.Frag) (C : Addr) (sp : Sp) : List V → Hp → VK → Prop := fun xs H Q => ∃ v, xs = [v] ∧
  ((∃ d, Dp K H v d ∧ d.showable = true ∧ d.hasDict = false ∧ d.depth ≤ 10 ∧ d.shown.length ≤ sizeLine ∧ Q (.str d.shown) H) ∨
   ∃ a dx fs, v = .ref a ∧ H a = some (.ins C dx fs) ∧ sp [.ref a] H (fun z H' => ∃ y, z = .str y ∧ Q (.str y) H') E0)
theorem call_reprA {X : Cx} {k : Nat} {C : Addr} {sp : Sp} (c : CalUC X.prog X.w X.K X.mg X.base k C "__repr__" sp) (hg : X.A.guards = some []) (hr : RoomH (k + 1) X.A) : CallR X (.builtin "repr") (cReprA X.K C sp) := by
  intro pins s σ H xs us Q I r h
  obtain ⟨v, rfl, h⟩ := h
  obtain ⟨u, rfl, ru⟩ := vals1 r
  have hu := hr.un
  rcases h with ⟨d, hd, sh, nd, dp, sz, q⟩ | ⟨a, dx, fs, rfl, ha, q⟩
  · have go : ∀ {b : Addr}, Dp X.K H (.ref b) d → wpAny (model X.prog X.w) X.A (call (.builtin "repr") [.ref b]) (EP X pins σ Q) X.xe s := fun {b} hb => by
      obtain ⟨as, rd⟩ := Dp.reads I d (.ref b) (.ref b) hb rfl
      exact PySem.repr_of_reads' rd sh (fun e => by rw [nd] at e; cases e) hg (by omega) (fun b o e => e) (fun h' u tk hk => ⟨.str d.shown, H, I.kept hk, ⟨_, rfl⟩, q⟩) sz
    cases hd with
    | non =>
      cases (show u = Value.none from ru)
      exact PySem.P.repr_of_none ⟨.str _, H, I.tok _, ⟨_, rfl⟩, q⟩
    | bl b =>
      cases (show u = Value.bool b from ru)
      refine PySem.P.repr_of_bool ⟨.str _, H, I.tok _, ⟨_, rfl⟩, ?_⟩
      cases b <;> exact q
    | int i =>
      obtain ⟨t, rfl⟩ := (show ∃ t, u = Value.int i t from ru)
      refine PySem.P.repr_of_int (by simpa [PyData.showable] using sh) ⟨.str _, H, I.tok _, ⟨_, rfl⟩, q⟩
    | str x =>
      obtain ⟨t, rfl⟩ := (show ∃ t, u = Value.str x t from ru)
      exact PySem.P.repr_of_str ⟨.str _, H, I.tok _, ⟨_, rfl⟩, q⟩ sz
    | lst h1 h2 =>
      cases (show u = Value.ref _ from ru)
      exact go (.lst h1 h2)
    | tup h1 h2 =>
      cases (show u = Value.ref _ from ru)
      exact go (.tup h1 h2)
  · cases (show u = Value.ref a from ru)
    obtain ⟨f, fd, F, hs, hf, hb⟩ := c.ex
    obtain ⟨mA, J, _⟩ := ins_get I.hok ha
    obtain ⟨od, J, _⟩ := J.look
    obtain ⟨m, hF⟩ := I.fr
    have hl := F.len _ _ _ _ q
    have r2 : Vals [V.ref a] [Value.ref a] := .cons rfl .nil
    refine PySem.W.repr_K (by have := (roomH_in1 hr).un; omega) hF I.ok.mod.kin J hs hf ?_
    refine wpAny_call (codeAny_mono (F.run X.A.in1 X.stack s H ⟨[.ref a], []⟩ [.ref a] [.ref a] _ E0 (roomH_in1 hr) I.env0.in1 (by
      have := hb s [.ref a] I.kIn (by simpa using hl)
      simpa using this) r2 q) fun r s' hq => ?_)
    cases r with
    | error e => exact hq.elim
    | ok fl =>
      cases fl with
      | ret w =>
        obtain ⟨z, H', I', rz, y, rfl, qz⟩ := I.after hq
        obtain ⟨t, rfl⟩ := (show ∃ t, w = Value.str y t from rz)
        exact ⟨.str y, H', I', ⟨t, rfl⟩, qz⟩
      | next => exact False.elim hq
      | brk => exact False.elim hq
      | cont => exact False.elim hq
end Rv
namespace Rv
open PySem PySem.Spec PyProof.Rows L2
theorem eqvAll_ints : ∀ zs ws : List Int, PyData.eqvAll (zs.map PyData.int) (ws.map PyData.int) = decide (zs = ws)
  | [], [] => rfl
  | [], _ :: _ => rfl
  | _ :: _, [] => rfl
  | x :: xs, y :: ys => by
    have ih := eqvAll_ints xs ys
    simp only [List.map_cons, PyData.eqvAll, PyData.eqv, ih]
    by_cases h : x = y
    · subst h
      simp
    · simp [h]
theorem eqD_T {K : PySem.W.Frag} {H : Hp} {Q : VK} {a b : Addr} {zs ws : List Int} (h1 : H a = some (.tup (zs.map V.int))) (h2 : H b = some (.tup (ws.map V.int))) (q : Q (.bl (decide (zs = ws))) H) : rEqD K (.ref a) (.ref b) H Q := by
  refine ⟨.tuple (zs.map PyData.int), .tuple (ws.map PyData.int), .tup (sq_tup h1) (dp_ints zs), .tup (sq_tup h2) (dp_ints ws), shT_ints zs, shT_ints ws, ?_⟩
  rw [show PyData.eqv (.tuple (zs.map PyData.int)) (.tuple (ws.map PyData.int)) = decide (zs = ws) by rw [← eqvAll_ints]; simp only [PyData.eqv]]
  exact q
theorem eqD_L {K : PySem.W.Frag} {H : Hp} {Q : VK} {a b : Addr} {zs ws : List Int} (h1 : H a = some (.lst (zs.map V.int))) (h2 : H b = some (.lst (ws.map V.int))) (q : Q (.bl (decide (zs = ws))) H) : rEqD K (.ref a) (.ref b) H Q := by
  refine ⟨.list (zs.map PyData.int), .list (ws.map PyData.int), .lst (sq_lst h1) (dp_ints zs), .lst (sq_lst h2) (dp_ints ws), shL_ints zs, shL_ints ws, ?_⟩
  rw [show PyData.eqv (.list (zs.map PyData.int)) (.list (ws.map PyData.int)) = decide (zs = ws) by rw [← eqvAll_ints]; simp only [PyData.eqv]]
  exact q
theorem neD_T {K : PySem.W.Frag} {H : Hp} {Q : VK} {a b : Addr} {zs ws : List Int} (h1 : H a = some (.tup (zs.map V.int))) (h2 : H b = some (.tup (ws.map V.int))) (q : Q (.bl (!decide (zs = ws))) H) : rNeD K (.ref a) (.ref b) H Q := by
  refine ⟨.tuple (zs.map PyData.int), .tuple (ws.map PyData.int), .tup (sq_tup h1) (dp_ints zs), .tup (sq_tup h2) (dp_ints ws), shT_ints zs, shT_ints ws, ?_⟩
  rw [show PyData.eqv (.tuple (zs.map PyData.int)) (.tuple (ws.map PyData.int)) = decide (zs = ws) by rw [← eqvAll_ints]; simp only [PyData.eqv]]
  exact q
theorem neD_L {K : PySem.W.Frag} {H : Hp} {Q : VK} {a b : Addr} {zs ws : List Int} (h1 : H a = some (.lst (zs.map V.int))) (h2 : H b = some (.lst (ws.map V.int))) (q : Q (.bl (!decide (zs = ws))) H) : rNeD K (.ref a) (.ref b) H Q := by
  refine ⟨.list (zs.map PyData.int), .list (ws.map PyData.int), .lst (sq_lst h1) (dp_ints zs), .lst (sq_lst h2) (dp_ints ws), shL_ints zs, shL_ints ws, ?_⟩
  rw [show PyData.eqv (.list (zs.map PyData.int)) (.list (ws.map PyData.int)) = decide (zs = ws) by rw [← eqvAll_ints]; simp only [PyData.eqv]]
  exact q
/-- list(x) of a list or a tuple -/
theorem list_call {K : PySem.W.Frag} {H : Hp} {Q : VK} {a : Addr} {xs : List V} (h : RowAt K H a xs) (k : ∀ l, H l = none → Q (.ref l) (upd H l (.lst xs))) : cList K [.ref a] H Q :=
  ⟨a, xs, rfl, h.elim (fun h => .inl (sq_lst h)) (fun h => .inr (sq_tup h)), k⟩
theorem str_empty (d : Str) : Str.empty ++ d = d := by
  cases d
  show (⟨#[] ++ _⟩ : Str) = _
  simp
theorem str_len (x y : Str) : (x ++ y).length = x.length + y.length := by
  show (x.cps ++ y.cps).size = _
  rw [Array.size_append]
  rfl
/-- what stands for a profile -/
def ptext (hs ws : List Int) : Str := ((((("Profile(" : Str) ++ ltext hs) ++ (", " : Str)) ++ ltext ws) ++ (")" : Str))
theorem len_p1 : ("Profile(" : Str).length = 8 := by decide +kernel
theorem len_p2 : (", " : Str).length = 2 := by decide +kernel
theorem len_p3 : (")" : Str).length = 1 := by decide +kernel
def rCatS : R2 := fun x y H Q => ∃ i j, x = .str i ∧ y = .str j ∧ i.length + j.length ≤ sizeLine ∧ Q (.str (i ++ j)) H
def spPEq (K : PySem.W.Frag) (C : Addr) : Sp := fun vs H Q _ => ∃ a b hs ws hs' ws', vs = [.ref a, .ref b] ∧ PCls K C ∧ ProfAt K C H a hs ws ∧ ProfAt K C H b hs' ws' ∧ Q (.bl (decide (hs = hs') && decide (ws = ws'))) H
def spPRepr (K : PySem.W.Frag) (C : Addr) : Sp := fun vs H Q _ => ∃ a hs ws, vs = [.ref a] ∧ PCls K C ∧ ProfAt K C H a hs ws ∧ Small hs ∧ Small ws ∧ ∀ H', Same H H' → Q (.str (ptext hs ws)) H'
def spGiven (K : PySem.W.Frag) : Sp := fun vs H Q _ => ∃ a b xs, vs = [.ref a, .bl b] ∧ H a = some (.lst xs) ∧ ∀ l H', H l = none → Same H H' → H' l = some (if b = true then .tup xs else .lst xs) → Q (.ref l) H'
def spTold (K : PySem.W.Frag) (C : Addr) : Sp := fun vs H Q _ => ∃ p a b hs ws, vs = [.ref p, .ref a, .ref b] ∧ PCls K C ∧ ProfAt K C H p hs ws ∧ H a = some (.lst (hs.map V.int)) ∧ H b = some (.lst (ws.map V.int)) ∧ Small hs ∧ Small ws ∧ ∀ H', Same H H' → Q (.bl true) H'
def spLaw11 (K : PySem.W.Frag) (C : Addr) : Sp := fun vs H Q _ => ∃ (a : Addr) (ns : List Int), vs = [.ref a] ∧ SqL K H a (ns.map V.int) ∧ PCls K C ∧ ∀ H', Q (.bl true) H'
/-- all that lies at H lies at H', but for a list at f -/
def Kx (f : Addr) (H H' : Hp) : Prop := ∀ b o, H b = some o → ((∀ xs, o ≠ .lst xs) ∨ b ≠ f) → H' b = some o
theorem Kx.refl (f : Addr) (H : Hp) : Kx f H H := fun _ _ h _ => h
theorem ProfAt.kx {K : PySem.W.Frag} {C : Addr} {H H' : Hp} {f p : Addr} {hs ws : List Int} (h : ProfAt K C H p hs ws) (e : Kx f H H') : ProfAt K C H' p hs ws := by
  obtain ⟨dx, t1, t2, h0, h1, h2⟩ := h
  exact ⟨dx, t1, t2, e _ _ h0 (.inl fun _ z => nomatch z), e _ _ h1 (.inl fun _ z => nomatch z), e _ _ h2 (.inl fun _ z => nomatch z)⟩
theorem ProfAt.but {K : PySem.W.Frag} {C d : Addr} {H H' : Hp} {p : Addr} {hs ws : List Int} (h : ProfAt K C H p hs ws) (e : But d H H') (hd : ∃ xs, H d = some (.lst xs)) : ProfAt K C H' p hs ws := by
  obtain ⟨xs, hd⟩ := hd
  refine h.kx (f := d) fun b o hb q => ?_
  by_cases hbd : b = d
  · subst hbd
    rw [hd] at hb
    cases hb
    exact q.elim (fun z => absurd rfl (z xs)) fun z => absurd rfl z
  · exact e b o hbd hb
theorem kx_upd {f : Addr} {H H' : Hp} {xs ys : List V} (hf : H f = some (.lst xs)) (e : Kx f H H') : Kx f H (upd H' f (.lst ys)) := fun b o hb q => by
  by_cases hbf : b = f
  · subst hbf
    rw [hf] at hb
    cases hb
    exact q.elim (fun z => absurd rfl (z xs)) fun z => absurd rfl z
  · rw [upd_ne hbf]
    exact e b o hb q
/-- either a list or a tuple lies there -/
def isT (b : Bool) (xs : List V) : HO := if b = true then .tup xs else .lst xs
theorem row_of {K : PySem.W.Frag} {H : Hp} {a : Addr} {b : Bool} {xs : List V} (h : H a = some (if b = true then .tup xs else .lst xs)) : RowAt K H a xs := by
  cases b with
  | true => exact .inr h
  | false => exact .inl h
theorem small_h {hs : List Int} (h : ∀ z ∈ hs, HOk1 z) (l : hs.length ≤ 60) : Small hs := ⟨l, fun z hz => by
  have := h z hz
  unfold HOk1 at this
  have e : (10 : Nat) ^ 32 = 100000000000000000000000000000000 := by decide
  rw [e]
  omega⟩
theorem small_w {ws : List Int} (h : ∀ z ∈ ws, WOk1 z) (l : ws.length ≤ 60) : Small ws := ⟨l, fun z hz => by
  have := h z hz
  unfold WOk1 at this
  have e : (10 : Nat) ^ 32 = 100000000000000000000000000000000 := by decide
  rw [e]
  omega⟩
theorem map_set (xs : List Int) (i : Nat) (y : Int) : (xs.map V.int).set i (.int y) = (xs.set i y).map V.int := by rw [List.map_set]
theorem st_is {s : TS} {D : Ends} {σ : L2.St} (σ' : L2.St) {H : Hp} (e : σ = σ') (q : s D σ' H) : s D σ H := by
  subst e
  exact q
theorem w_makek {σ : L2.St} {H : Hp} {Q : VK} {n m : Nat} {sp : Sp} {gV : List V → List V → List V} {E : XK} {t tk : TA} {C : Addr} (q : t σ H fun vs H1 => tk σ H1 fun zs H2 => vs.length = n ∧ zs.length = m ∧ ∀ x dx, H2 x = none → H2 dx = none → dx ≠ x → sp (gV (.ref x :: vs) zs) (upd (upd H2 dx (.own x)) x (.ins C dx [])) (fun v H3 => v = .non ∧ Q (.ref x) H3) E) : tMakeK C n m sp gV E t tk σ H Q := q
theorem ixN_nat {n i : Nat} (h : i < n) : ixN n (i : Int) = some i := by
  unfold ixN
  rw [if_pos (by omega), if_pos (by omega), Int.toNat_natCast]
theorem set_mem {zs : List Int} {i : Nat} {y z : Int} (h : z ∈ zs.set i y) : z = y ∨ z ∈ zs := by
  rcases List.mem_or_eq_of_mem_set h with h | h
  · exact .inr h
  · exact .inl h
theorem set_ne {zs : List Int} {i : Nat} {y : Int} (h : i < zs.length) (n : y ≠ hN zs i) : zs ≠ zs.set i y := by
  intro e
  have e2 : zs[i]? = (zs.set i y)[i]? := congrArg (fun l => l[i]?) e
  rw [List.getElem?_set_self h, List.getElem?_eq_getElem h] at e2
  apply n
  unfold hN
  rw [List.getElem?_eq_getElem h]
  exact (Option.some.inj e2).symm
theorem w_revT {K : PySem.W.Frag} {σ : L2.St} {H : Hp} {Q : VK} {te : TE} (q : te σ H fun x H1 => ∃ a xs, x = .ref a ∧ SqT K H1 a xs ∧ ∀ p, H1 p = none → Q (.ref p) (upd H1 p (.tup xs.reverse))) : tRevT K te σ H Q := q
theorem map_rev (xs : List Int) : (xs.map V.int).reverse = xs.reverse.map V.int := by rw [List.map_reverse]
def spMirr (K : PySem.W.Frag) (C : Addr) : Sp := fun vs H Q _ => ∃ p hs ws, vs = [.ref p] ∧ PCls K C ∧ ProfAt K C H p hs ws ∧ PrOk hs ws ∧ ∀ q H', H q = none → Same H H' → ProfAt K C H' q hs.reverse ws.reverse → Q (.ref q) H'
structure OdC (K : PySem.W.Frag) (C : Addr) : Prop where
  ki : ∀ T, T ∈ ["NoneType", "bool", "str", "list", "tuple", "dict"] → PySem.W.kitOne K (.type T) (.ref C) = some false
  nf : ∀ T, T ∈ ["NoneType", "bool", "str", "list", "tuple", "dict"] → PySem.W.notFirst K C (.type T) = true
def odB (K : PySem.W.Frag) (x : Str) : Bool := ["NoneType", "bool", "str", "list", "tuple", "dict"].all fun T => decide (PySem.W.kitOne K (.type T) (.ref (He.ga K x)) = some false) && PySem.W.notFirst K (He.ga K x) (.type T)
theorem odc_of {K : PySem.W.Frag} {x : Str} (h : odB K x = true) : OdC K (He.ga K x) :=
  ⟨fun T hT => of_decide_eq_true (He.ba (List.all_eq_true.mp h T hT)).1, fun T hT => (He.ba (List.all_eq_true.mp h T hT)).2⟩
theorem w_forLn {K : PySem.W.Frag} {σ : L2.St} {H : Hp} {D : Ends} {tl : TE} {s1 : TS} {g : TG} (q : tl σ H fun x H1 => ∃ a, x = .ref a ∧ tFor (iAt K a) g s1 D σ H1) : tFor (iList K tl) g s1 D σ H := q
theorem w_forLa {K : PySem.W.Frag} {σ : L2.St} {H : Hp} {D : Ends} {s1 : TS} {g : TG} {a : Addr} {xs : List V} (hx : SqL K H a xs) (Pv : Nat → L2.St → Hp → Prop) (h0 : Pv 0 σ H) (hl : ∀ i σ' H', i ≤ xs.length → Pv i σ' H' → SqL K H' a xs)
    (hs : ∀ i x σ' H', xs[i]? = some x → Pv i σ' H' → g x σ' H' fun σ2 H2 => s1 { D with nx := Pv (i + 1), ct := Pv (i + 1), bk := D.nx } σ2 H2) (hd : ∀ σ' H', Pv xs.length σ' H' → D.nx σ' H') : tFor (iAt K a) g s1 D σ H :=
  ⟨⟨xs, hx⟩, for_list Pv h0 hl hs hd⟩
def OddR (H : Hp) (v : V) : Prop := v = .non ∨ (∃ b, v = .bl b) ∨ (∃ s, v = .str s) ∨ (∃ p xs, v = .ref p ∧ H p = some (.lst xs)) ∨ (∃ p xs, v = .ref p ∧ H p = some (.tup xs)) ∨ ∃ p kvs, v = .ref p ∧ H p = some (.dK kvs)
theorem OddR.same {H H' : Hp} {v : V} (h : OddR H v) (e : Same H H') : OddR H' v := by
  rcases h with h | h | h | ⟨p, xs, h1, h2⟩ | ⟨p, xs, h1, h2⟩ | ⟨p, xs, h1, h2⟩
  · exact .inl h
  · exact .inr (.inl h)
  · exact .inr (.inr (.inl h))
  · exact .inr (.inr (.inr (.inl ⟨p, xs, h1, e _ _ h2⟩)))
  · exact .inr (.inr (.inr (.inr (.inl ⟨p, xs, h1, e _ _ h2⟩))))
  · exact .inr (.inr (.inr (.inr (.inr ⟨p, xs, h1, e _ _ h2⟩))))
theorem odd_of {K : PySem.W.Frag} {C : Addr} {H : Hp} {v : V} (O : OdC K C) (h : OddR H v) : ∃ T, OddV K C H v T := by
  rcases h with rfl | ⟨b, rfl⟩ | ⟨s, rfl⟩ | ⟨p, xs, rfl, h⟩ | ⟨p, xs, rfl, h⟩ | ⟨p, kvs, rfl, h⟩
  · exact ⟨"NoneType", .non, .base .non, O.ki _ (by simp), O.nf _ (by simp), .other (.base .non) (kit_ty (by decide +kernel)) (fun i z => nomatch z), rfl⟩
  · exact ⟨"bool", .bl b, .base (.bl b), O.ki _ (by simp), O.nf _ (by simp), .bl b, rfl⟩
  · exact ⟨"str", .str s, .base (.str s), O.ki _ (by simp), O.nf _ (by simp), .other (.base (.str s)) (kit_ty (by decide +kernel)) (fun i z => nomatch z), rfl⟩
  · exact ⟨"list", .lst (sq_lst h), .base (.lst h), O.ki _ (by simp), O.nf _ (by simp), .other (.base (.lst h)) (kit_ty (by decide +kernel)) (fun i z => nomatch z), rfl⟩
  · exact ⟨"tuple", .tup (sq_tup h), .base (.tup h), O.ki _ (by simp), O.nf _ (by simp), .other (.base (.tup h)) (kit_ty (by decide +kernel)) (fun i z => nomatch z), rfl⟩
  · exact ⟨"dict", .dK h, .base (.dK h), O.ki _ (by simp), O.nf _ (by simp), .other (.base (.dK h)) (kit_ty (by decide +kernel)) (fun i z => nomatch z), rfl⟩
theorem cut_any {xs : List Int} {n : Nat} : cutV (xs.map V.int) none (some (n : Int)) = (xs.take n).map V.int := by
  have ln : (xs.map V.int).length = xs.length := List.length_map ..
  unfold cutV
  rw [show HT.sIx (xs.map V.int).length 0 none = 0 from rfl, HT.sIx_nat, ln, List.drop_zero, List.map_take]
  rw [show min n xs.length - 0 = min n xs.length from Nat.sub_zero _]
  rw [List.take_eq_take_iff]
  rw [ln]
  omega
def neB (K : PySem.W.Frag) (x : Str) : Bool := decide (PySem.W.findIn K (.ref (He.ga K x)) "__ne__" = some (some (.builtin "object.__ne__"))) && decide (PySem.W.mroIn K (He.ga K x) (.type "object") = some true)
theorem nec_of {K : PySem.W.Frag} {x : Str} (h : neB K x = true) : NeC K (He.ga K x) := ⟨of_decide_eq_true (He.ba h).1, of_decide_eq_true (He.ba h).2⟩
def spPEqX (K : PySem.W.Frag) (C : Addr) : Sp := fun vs H Q _ => ∃ a y hs ws, vs = [.ref a, y] ∧ PCls K C ∧ ProfAt K C H a hs ws ∧
  ((∃ b hs' ws', y = .ref b ∧ ProfAt K C H b hs' ws' ∧ Q (.bl (decide (hs = hs') && decide (ws = ws'))) H) ∨ ((∃ T, OddV K C H y T) ∨ (∃ i, y = .int i ∧ PySem.W.kitOne K (.type "int") (.ref C) = some false)) ∧ Q (.bl false) H)
def spPIs (K : PySem.W.Frag) (C : Addr) : Sp := fun vs H Q _ => ∃ p a b hs ws hs' ws', vs = [.ref p, .ref a, .ref b] ∧ PCls K C ∧ ProfAt K C H p hs ws ∧ H a = some (.lst (hs'.map V.int)) ∧ H b = some (.lst (ws'.map V.int)) ∧ ∀ H', Same H H' → Q (.bl (decide (hs = hs') && decide (ws = ws'))) H'
def spPAdd (K : PySem.W.Frag) (C : Addr) : Sp := fun vs H Q _ => ∃ a b hs ws hs' ws', vs = [.ref a, .ref b] ∧ PCls K C ∧ ProfAt K C H a hs ws ∧ ProfAt K C H b hs' ws' ∧ PrOk hs ws ∧ PrOk hs' ws' ∧ hs.length + hs'.length ≤ 60 ∧
  ∀ p H', H p = none → Same H H' → ProfAt K C H' p (hs ++ hs') (ws ++ ws') → Q (.ref p) H'
def spLaw14 (K : PySem.W.Frag) (C : Addr) : Sp := fun vs H Q _ => ∃ (a : Addr) (ns : List Int), vs = [.ref a] ∧ SqL K H a (ns.map V.int) ∧ PCls K C ∧ OdC K C ∧ PySem.W.kitOne K (.type "int") (.ref C) = some false ∧ ∀ H', Q (.bl true) H'
def t_Profile___repr__ (K : PySem.W.Frag) (C_Profile : Addr) : TS :=
  (tRet (tJoin [(tC (.str "Profile(")), (tFmtL (tCB (cList K) (tCons (tFld K (tVar 0) "column_heights") tNil))), (tC (.str ", ")), (tFmtL (tCB (cList K) (tCons (tFld K (tVar 0) "column_widths") tNil))), (tC (.str ")"))]))
def t_Profile___add__ (K : PySem.W.Frag) (C_Profile : Addr) : TS :=
  (tSeq (tIfS (tNot (tB (tCB (rIsi K) (tCons (tVar 1) (tCons (tC (.ref C_Profile)) tNil))))) tNever tNext)
    (tSeq (tIfS (tTest (tOp oGt (tOp oAdd (tCB (cLenO C_Profile (spPLen K C_Profile) E0) (tCons (tVar 0) tNil)) (tCB (cLenO C_Profile (spPLen K C_Profile) E0) (tCons (tVar 1) tNil))) (tC (.int 60)))) tNever tNext)
    (tRet (tMake C_Profile (spInit K C_Profile) [] E0 (tCons (tOp (rCatA K) (tFld K (tVar 0) "column_heights") (tFld K (tVar 1) "column_heights")) (tCons (tOp (rCatA K) (tFld K (tVar 0) "column_widths") (tFld K (tVar 1) "column_widths")) tNil))))))
def t_Profile_mirrored (K : PySem.W.Frag) (C_Profile : Addr) : TS :=
  (tRet (tMake C_Profile (spInit K C_Profile) [] E0 (tCons (tRevT K (tFld K (tVar 0) "column_heights")) (tCons (tRevT K (tFld K (tVar 0) "column_widths")) tNil))))
def t_pis (K : PySem.W.Frag) (C_Profile : Addr) : TS :=
  (tRet (tAndV (tOp (rEqD K) (tProp C_Profile (getSp C_Profile "column_heights") [] E0 (tVar 0)) (tCB (cTuple K) (tCons (tVar 1) tNil))) (tOp (rEqD K) (tProp C_Profile (getSp C_Profile "column_widths") [] E0 (tVar 0)) (tCB (cTuple K) (tCons (tVar 2) tNil)))))
def t_law14d (K : PySem.W.Frag) (C_Profile : Addr) : TS :=
  (tSeq (tFor (iList K (tLst (tCons (tC .non) (tCons (tC (.int 0)) (tCons (tC (.bl true)) (tCons (tC (.str "")) (tCons (tCB (cReprO C_Profile (spPRepr K C_Profile) E0) (tCons (tVar 4) tNil)) (tCons (tCB (cTuple K) (tCons (tVar 2) tNil)) (tCons (tCB (cList K) (tCons (tVar 2) tNil)) (tCons (tTup (tCons (tVar 2) (tCons (tVar 3) tNil))) (tCons tDNewK tNil))))))))))) (gName 13) (tIfS (tOr (tTest (tOp (rOwnX K C_Profile (spPEqX K C_Profile) E0) (tVar 4) (tVar 13))) (tOr (tNot (tTest (tOp (rNeO K C_Profile (spPEqX K C_Profile) E0) (tVar 4) (tVar 13)))) (tTest (tOp (rOwnX K C_Profile (spPEqX K C_Profile) E0) (tVar 10) (tVar 13))))) (tRet (tC (.bl false))) tNext))
    (tSeq (tIfS (tTest (tOp oGt (tCB (cLen K) (tCons (tVar 2) tNil)) (tC (.int 30)))) (tRet (tC (.bl true))) tNext)
    (tRet (tOp (rOwnX K C_Profile (spPEqX K C_Profile) E0) (tMeth C_Profile "mirrored" (spMirr K C_Profile) [] E0 (tOp (rAddO C_Profile (spPAdd K C_Profile) E0) (tVar 4) (tVar 10)) tNil) (tOp (rAddO C_Profile (spPAdd K C_Profile) E0) (tMeth C_Profile "mirrored" (spMirr K C_Profile) [] E0 (tVar 10) tNil) (tMeth C_Profile "mirrored" (spMirr K C_Profile) [] E0 (tVar 4) tNil))))))
def t_law14c (K : PySem.W.Frag) (C_Profile : Addr) : TS :=
  (tSeq (tAsg (tCall (spDraw K) [] E0 (tCons (tVar 1) (tCons (tCB (cLen K) (tCons (tVar 2) tNil)) tNil))) (gName 9))
    (tSeq (tAsg (tOp oAdd (tOp oSub (tOp (rIxL K) (tVar 2) (tVar 9)) (tC (.int 1))) (tOp oMul (tC (.int 2)) (tCB cInt (tCons (tOp oLt (tOp (rIxL K) (tVar 2) (tVar 9)) (tC (.int 0))) tNil)))) (gSub (tVar 2) (tVar 9) rSetL))
    (tSeq (tAsg (tMake C_Profile (spInit K C_Profile) [] E0 (tCons (tVar 2) (tCons (tVar 3) tNil))) (gName 10))
    (tSeq (tIfS (tOr (tTest (tOp (rOwnX K C_Profile (spPEqX K C_Profile) E0) (tVar 10) (tVar 4))) (tTest (tOp (rOwnX K C_Profile (spPEqX K C_Profile) E0) (tMeth C_Profile "mirrored" (spMirr K C_Profile) [] E0 (tVar 10) tNil) (tMeth C_Profile "mirrored" (spMirr K C_Profile) [] E0 (tVar 4) tNil)))) (tRet (tC (.bl false))) tNext)
    (tSeq (tAsg (tMake C_Profile (spInit K C_Profile) [] E0 (tCons (tOp rCat (tSl (rSlL K) (tCB (cList K) (tCons (tProp C_Profile (getSp C_Profile "column_heights") [] E0 (tVar 4)) tNil)) tNoPart (tPart (tC (.int 59)))) (tLst (tCons (tC (.int 0)) tNil))) (tCons (tOp rCat (tSl (rSlL K) (tCB (cList K) (tCons (tProp C_Profile (getSp C_Profile "column_widths") [] E0 (tVar 4)) tNil)) tNoPart (tPart (tC (.int 59)))) (tLst (tCons (tC (.int 1)) tNil))) tNil))) (gName 11))
    (tSeq (tIfS (tTest (tOp rNe (tOp (rOwnX K C_Profile (spPEqX K C_Profile) E0) (tVar 11) (tVar 4)) (tAndV (tOp (rEqD K) (tProp C_Profile (getSp C_Profile "column_heights") [] E0 (tVar 11)) (tProp C_Profile (getSp C_Profile "column_heights") [] E0 (tVar 4))) (tOp (rEqD K) (tProp C_Profile (getSp C_Profile "column_widths") [] E0 (tVar 11)) (tProp C_Profile (getSp C_Profile "column_widths") [] E0 (tVar 4)))))) (tRet (tC (.bl false))) tNext)
    (tSeq (tAsg (tCB (cList K) (tCons (tProp C_Profile (getSp C_Profile "column_widths") [] E0 (tVar 4)) tNil)) (gName 12))
    (tSeq (tAsg (tOp oAdd (tOp oMod (tOp (rIxL K) (tVar 12) (tVar 9)) (tOp oPow (tC (.int 10)) (tC (.int 30)))) (tC (.int 1))) (gSub (tVar 12) (tVar 9) rSetL))
    (tSeq (tIfS (tTest (tOp (rOwnX K C_Profile (spPEqX K C_Profile) E0) (tMake C_Profile (spInit K C_Profile) [] E0 (tCons (tProp C_Profile (getSp C_Profile "column_heights") [] E0 (tVar 4)) (tCons (tVar 12) tNil))) (tVar 4))) (tRet (tC (.bl false))) tNext)
    (t_law14d K C_Profile))))))))))
def t_law14b (K : PySem.W.Frag) (C_Profile : Addr) : TS :=
  (tSeq (tFor (iRng1 (tCons (tC (.int 2)) tNil)) (gName 6) (tSeq (tAsg (tMeth C_Profile "mirrored" (spMirr K C_Profile) [] E0 (tVar 4) tNil) (gName 7))
    (tSeq (tIfS (tOr (tNot (tB (tCall (spPIs K C_Profile) [] E0 (tCons (tVar 7) (tCons (tRevL K (tVar 2)) (tCons (tRevL K (tVar 3)) tNil)))))) (tTest (tOp rNe (tCB (cReprO C_Profile (spPRepr K C_Profile) E0) (tCons (tVar 4) tNil)) (tVar 5)))) (tRet (tC (.bl false))) tNext)
    (tSeq (tIfS (tNot (tTest (tOp (rOwnX K C_Profile (spPEqX K C_Profile) E0) (tMeth C_Profile "mirrored" (spMirr K C_Profile) [] E0 (tVar 7) tNil) (tVar 4)))) (tRet (tC (.bl false))) tNext)
    (tSeq (tAsg (tAndV (tOp (rEqD K) (tVar 2) (tRevL K (tVar 2))) (tOp (rEqD K) (tVar 3) (tRevL K (tVar 3)))) (gName 8))
    (tIfS (tOr (tTest (tOp rNe (tOp (rOwnX K C_Profile (spPEqX K C_Profile) E0) (tVar 7) (tVar 4)) (tVar 8))) (tTest (tOp rEq (tOp (rNeO K C_Profile (spPEqX K C_Profile) E0) (tVar 7) (tVar 4)) (tVar 8)))) (tRet (tC (.bl false))) tNext))))))
    (t_law14c K C_Profile))
def t_law14 (K : PySem.W.Frag) (C_Profile : Addr) : TS :=
  (tSeq (tAsg (tCall (spDraws K) [] E0 (tCons (tVar 0) tNil)) (gName 1))
    (tSeq (tAsg (tCall (spHeights K) [] E0 (tCons (tVar 1) tNil)) (gName 2))
    (tSeq (tAsg (tCall (spWidths K) [] E0 (tCons (tVar 1) (tCons (tCB (cLen K) (tCons (tVar 2) tNil)) tNil))) (gName 3))
    (tSeq (tIfS (tTest (tOp rEq (tCall (spDraw K) [] E0 (tCons (tVar 1) (tCons (tC (.int 4)) tNil))) (tC (.int 3)))) (tSeq (tAsg (tOp rCat (tSl (rSlL K) (tVar 2) tNoPart (tPart (tC (.int 5)))) (tRevL K (tSl (rSlL K) (tVar 2) tNoPart (tPart (tC (.int 5)))))) (gName 2))
    (tAsg (tOp rCat (tSl (rSlL K) (tVar 3) tNoPart (tPart (tC (.int 5)))) (tRevL K (tSl (rSlL K) (tVar 3) tNoPart (tPart (tC (.int 5)))))) (gName 3))) tNext)
    (tSeq (tAsg (tMake C_Profile (spInit K C_Profile) [] E0 (tCons (tVar 2) (tCons (tVar 3) tNil))) (gName 4))
    (tSeq (tAsg (tCB (cReprO C_Profile (spPRepr K C_Profile) E0) (tCons (tVar 4) tNil)) (gName 5))
    (t_law14b K C_Profile)))))))
local macro_rules | `(tactic| walk_at "rv st") => `(tactic| first
  | with_reducible refine iteT ?_ | with_reducible refine iteF ?_ | with_reducible refine w_nx ?_ | with_reducible refine w_yes ?_ | with_reducible refine w_rt ?_ | with_reducible refine iteNT ?_ | with_reducible refine iteNF ?_ | with_reducible refine iteNRf ?_ | with_reducible refine iteRf ?_ | with_reducible refine w_seqA ?_ | with_reducible refine w_seqD ?_ | with_reducible refine w_seqP ?_ | with_reducible refine w_asg ?_ | with_reducible refine w_ret ?_ | with_reducible refine w_drop ?_ | with_reducible refine w_ifs ?_ | with_reducible refine w_next ?_ | with_reducible refine w_par ?_
  | with_reducible refine w_op ?_ | with_reducible refine w_un ?_ | ((with_reducible show tVar _ _ _ _); refine' w_var ?hv ?_; (case hv => exact rfl)) | with_reducible refine w_c ?_ | with_reducible refine w_test ?_ | with_reducible refine w_tB ?_
  | with_reducible refine w_bl ?_ | with_reducible refine w_I0 ?_ | with_reducible refine w_U ?_ | with_reducible refine w_eqI ?_ | with_reducible refine w_neI ?_
  | with_reducible refine w_cons ?_ | with_reducible refine w_nil ?_ | with_reducible refine w_gn ?_ | with_reducible refine w_gsub ?_ | with_reducible refine w_and ?_ | with_reducible refine w_or ?_ | with_reducible refine w_not ?_
  | with_reducible refine w_andV ?_ | with_reducible refine w_orV ?_ | with_reducible refine w_notV ?_ | with_reducible refine w_if ?_ | with_reducible refine w_cb ?_ | with_reducible refine w_call ?_ | with_reducible refine w_lst ?_ | with_reducible refine w_tup ?_
  | with_reducible refine w_sl ?_ | with_reducible refine w_noPart ?_ | with_reducible refine w_part ?_ | with_reducible refine w_ex1 ?_ | with_reducible refine w_exb ?_ | with_reducible refine w_intB ?_ | with_reducible refine w_intI ?_ | with_reducible refine w_abs ?_)
local macro_rules | `(tactic| walk_at "rv ix") => `(tactic| ((with_reducible show rIxL _ _ _ _ _); refine' w_ixL (sq_lst ?ha) ?hb ?_; (case ha => first | exact upd_same | assumption); (case hb => first | exact rfl | assumption)))
local macro_rules | `(tactic| walk_at "rv ar") => `(tactic| first
  | (refine' w_I ?hc ?_; (case hc => first | (show (0 : Int) < _; first | assumption | decide | omega) | exact pow_c (by decide) (by decide) (by first | decide | omega) (by first | decide | omega) | exact mul_r (by first | decide | omega) (by first | decide | omega) | exact mul_l (by first | decide | omega) (by first | decide | omega) | exact divw (by first | assumption | decide | omega) (by first | assumption | decide | omega))))
local macro_rules | `(tactic| walk_at "rv go") => `(tactic| repeat first | walk_at "rv st" | walk_at "rv ix" | ((with_reducible show rI _ _ _ _ _ _); walk_at "rv ar"))
theorem w_propE {σ : L2.St} {H : Hp} {Q : VK} {C : Addr} {sp : Sp} {E : XK} {ta : TE} (q : ta σ H fun x H1 => ∃ a dx fs, x = .ref a ∧ H1 a = some (.ins C dx fs) ∧ sp [.ref a] H1 Q E) : tProp C sp [] E ta σ H Q := q
theorem p_prepr {K : PySem.W.Frag} {C : Addr} {vs : List V} {H : Hp} {Q : VK} {E : XK} (h : spPRepr K C vs H Q E) : t_Profile___repr__ K C { nx := fun _ H' => Q .non H', rt := Q } (start ["self"] vs) H := by
  obtain ⟨a, hs, ws, rfl, P, ⟨dx, t1, t2, ha, h1, h2⟩, sh, sw, k⟩ := h
  have z1 := ltext_le sh
  have z2 := ltext_le sw
  have sb := sizeLine_big
  unfold t_Profile___repr__
  walk_at "rv go"
  refine w_join ?_
  refine w_js ?_
  walk_at "rv go"
  refine ⟨_, rfl, by rw [str_empty, len_p1]; omega, ?_⟩
  refine w_js (w_fmtL ?_)
  walk_at "rv go"
  refine w_fld rfl ha P.cl P.nH (pfl_h _ _) ?_
  walk_at "rv go"
  refine list_call (.inr h1) fun l nl => ?_
  have e1 := same_new (o := .lst (hs.map V.int)) (Same.refl H) nl
  have hl : (upd H l (.lst (hs.map V.int))) l = some (.lst (hs.map V.int)) := upd_same
  generalize upd H l (.lst (hs.map V.int)) = H1 at e1 hl ⊢
  refine ⟨l, hs, rfl, hl, sh, ?_⟩
  refine ⟨_, rfl, by rw [str_empty, str_len, len_p1]; omega, ?_⟩
  refine w_js ?_
  walk_at "rv go"
  refine ⟨_, rfl, by rw [str_empty, str_len, str_len, len_p1, len_p2]; omega, ?_⟩
  refine w_js (w_fmtL ?_)
  walk_at "rv go"
  refine w_fld rfl (e1 _ _ ha) P.cl P.nW (pfl_w _ _) ?_
  walk_at "rv go"
  refine list_call (.inr (e1 _ _ h2)) fun m nm => ?_
  have e2 := same_new (o := .lst (ws.map V.int)) e1 nm
  have hm : (upd H1 m (.lst (ws.map V.int))) m = some (.lst (ws.map V.int)) := upd_same
  generalize upd H1 m (.lst (ws.map V.int)) = H2 at e2 hm ⊢
  refine ⟨m, ws, rfl, hm, sw, ?_⟩
  refine ⟨_, rfl, by rw [str_empty, str_len, str_len, str_len, len_p1, len_p2]; omega, ?_⟩
  refine w_js ?_
  walk_at "rv go"
  refine ⟨_, rfl, by rw [str_empty, str_len, str_len, str_len, str_len, len_p1, len_p2, len_p3]; omega, ?_⟩
  refine w_js0 ?_
  rw [str_empty]
  exact k H2 e2
theorem p_mirr {K : PySem.W.Frag} {C : Addr} {vs : List V} {H : Hp} {Q : VK} {E : XK} (h : spMirr K C vs H Q E) : t_Profile_mirrored K C { nx := fun _ H' => Q .non H', rt := Q } (start ["self"] vs) H := by
  obtain ⟨p, hs, ws, rfl, P, ⟨dx, t1, t2, hp, h1, h2⟩, ok, k⟩ := h
  unfold t_Profile_mirrored
  walk_at "rv go"
  refine w_make ?_
  refine w_cons ?_
  refine w_revT ?_
  refine w_fld rfl hp P.cl P.nH (pfl_h _ _) ?_
  refine ⟨t1, _, rfl, sq_tup h1, fun a na => ?_⟩
  have e1 : Same H (upd H a (.tup (hs.map V.int).reverse)) := same_new (Same.refl H) na
  refine w_cons ?_
  refine w_revT ?_
  refine w_fld rfl (e1 _ _ hp) P.cl P.nW (pfl_w _ _) ?_
  refine ⟨t2, _, rfl, sq_tup (e1 _ _ h2), fun b nb => ?_⟩
  have e2 := same_new (o := .tup (ws.map V.int).reverse) e1 nb
  have ab : a ≠ b := fun z => by
    rw [← z, upd_same] at nb
    cases nb
  refine w_nil ?_
  have ha : (upd (upd H a (.tup (hs.map V.int).reverse)) b (.tup (ws.map V.int).reverse)) a = some (.tup (hs.reverse.map V.int)) := by
    rw [upd_ne ab, upd_same, map_rev]
  have hb : (upd (upd H a (.tup (hs.map V.int).reverse)) b (.tup (ws.map V.int).reverse)) b = some (.tup (ws.reverse.map V.int)) := by
    rw [upd_same, map_rev]
  refine mk_profR (Q := fun x H' => Q (.ref x) H') (us := [.ref a, .ref b]) (dvs := []) rfl P (.inr ha) (by rw [List.length_reverse]; exact ok.pos) (by rw [List.length_reverse]; exact ok.le) (fun z hz => ok.hh z (List.mem_reverse.mp hz))
    (.inr ⟨b, rfl, .inr hb, by rw [List.length_reverse, List.length_reverse]; exact ok.eq, fun z hz => ok.ww z (List.mem_reverse.mp hz)⟩) fun q H3 nq e3 hq => ?_
  refine k q H3 ?_ (e2.trans e3) hq
  cases z : H q with
  | none => rfl
  | some o =>
    rw [e2 _ _ z] at nq
    cases nq
/-- a for over a tuple that is just made -/
theorem p_peqx {K : PySem.W.Frag} {C : Addr} {vs : List V} {H : Hp} {Q : VK} {E : XK} (h : spPEqX K C vs H Q E) : t_Profile___eq__ K C { nx := fun _ H' => Q .non H', rt := Q } (start ["self", "other"] vs) H := by
  obtain ⟨a, y, hs, ws, rfl, P, ⟨dx, t1, t2, ha, h1, h2⟩, h⟩ := h
  unfold t_Profile___eq__
  walk_at "rv go"
  rcases h with ⟨b, hs', ws', rfl, ⟨dy, u1, u2, hb, g1, g2⟩, k⟩ | ⟨o, k⟩
  · refine isi_of (.own C) (.base (.ins hb P.cl P.cA P.cG P.cT P.cM)) kit_self ?_
    walk_at "rv go"
    refine w_fld rfl ha P.cl P.nH (pfl_h _ _) ?_
    refine w_fld rfl hb P.cl P.nH (pfl_h _ _) ?_
    refine eqD_T h1 g1 ?_
    walk_at "rv go"
    refine w_both (fun z => ?_) (fun z => ?_)
    · walk_at "rv go"
      refine w_fld rfl ha P.cl P.nW (pfl_w _ _) ?_
      refine w_fld rfl hb P.cl P.nW (pfl_w _ _) ?_
      refine eqD_T h2 g2 ?_
      walk_at "rv go"
      rw [decide_eq_true z, Bool.true_and] at k
      exact k
    · walk_at "rv go"
      rw [decide_eq_false z, Bool.false_and] at k
      exact k
  · rcases o with ⟨T, o⟩ | ⟨i, rfl, hk⟩
    · refine isi_of (.own C) o.tx o.ki ?_
      walk_at "rv go"
      exact k
    · refine isi_of (.own C) (.base (.int i)) hk ?_
      walk_at "rv go"
      exact k
theorem p_pis {K : PySem.W.Frag} {C : Addr} {vs : List V} {H : Hp} {Q : VK} {E : XK} (h : spPIs K C vs H Q E) : t_pis K C { nx := fun _ H' => Q .non H', rt := Q } (start ["_law_profile", "_law_heights_here", "_law_widths_here"] vs) H := by
  obtain ⟨p, a, b, hs, ws, hs', ws', rfl, P, ⟨dx, t1, t2, hpi, h1, h2⟩, ha, hb, k⟩ := h
  unfold t_pis
  walk_at "rv go"
  refine w_propE ?_
  walk_at "rv go"
  refine ⟨p, dx, _, rfl, hpi, p, dx, _, _, rfl, hpi, pfl_h _ _, ?_⟩
  walk_at "rv go"
  refine tup_call (K := K) (.inl ha) fun u1 H1 e1 g1 => ?_
  refine eqD_T (e1 _ _ h1) g1 ?_
  walk_at "rv go"
  refine w_both (fun z => ?_) (fun z => ?_)
  · refine w_op ?_
    refine w_propE ?_
    walk_at "rv go"
    refine ⟨p, dx, _, rfl, e1 _ _ hpi, p, dx, _, _, rfl, e1 _ _ hpi, pfl_w _ _, ?_⟩
    walk_at "rv go"
    refine tup_call (K := K) (.inl (e1 _ _ hb)) fun u2 H2 e2 g2 => ?_
    refine eqD_T ((e1.trans e2) _ _ h2) g2 ?_
    have q := k _ (e1.trans e2)
    rw [decide_eq_true z, Bool.true_and] at q
    exact q
  · have q := k _ e1
    rw [decide_eq_false z, Bool.false_and] at q
    exact q
theorem cat_at {K : PySem.W.Frag} {H : Hp} {Q : VK} {a b : Addr} {xs ys : List V} (h1 : H a = some (.tup xs)) (h2 : H b = some (.tup ys)) (hz : xs.length + ys.length ≤ 100000) (k : ∀ l H', Same H H' → H' l = some (.tup (xs ++ ys)) → Q (.ref l) H') : rCatA K (.ref a) (.ref b) H Q := by
  refine ⟨a, b, xs, ys, rfl, rfl, sq_tup h1, sq_tup h2, szl hz, fun e => ?_, fun _ e => ?_, fun _ _ p np => k p _ (same_new (Same.refl H) np) upd_same⟩
  · subst e
    exact k b H (Same.refl H) (by rw [List.nil_append]; exact h2)
  · subst e
    exact k a H (Same.refl H) (by rw [List.append_nil]; exact h1)
theorem ok_app {hs ws hs' ws' : List Int} (o : PrOk hs ws) (o' : PrOk hs' ws') (l : hs.length + hs'.length ≤ 60) : PrOk (hs ++ hs') (ws ++ ws') :=
  ⟨by rw [List.length_append]; have := o.pos; omega, by rw [List.length_append]; exact l, by rw [List.length_append, List.length_append, o.eq, o'.eq], fun z hz => (List.mem_append.mp hz).elim (o.hh z) (o'.hh z), fun z hz => (List.mem_append.mp hz).elim (o.ww z) (o'.ww z)⟩
theorem p_padd {K : PySem.W.Frag} {C : Addr} {vs : List V} {H : Hp} {Q : VK} {E : XK} (h : spPAdd K C vs H Q E) : t_Profile___add__ K C { nx := fun _ H' => Q .non H', rt := Q } (start ["self", "other"] vs) H := by
  obtain ⟨a, b, hs, ws, hs', ws', rfl, P, hpa, hpb, o, o', l60, k⟩ := h
  obtain ⟨dx, t1, t2, ha, h1, h2⟩ := id hpa
  obtain ⟨dy, u1, u2, hb, g1, g2⟩ := id hpb
  have oo := ok_app o o' l60
  have ol := o.le
  have ol' := o'.le
  unfold t_Profile___add__
  refine w_seq ?_
  walk_at "rv go"
  refine isi_of (.own C) (.base (.ins hb P.cl P.cA P.cG P.cT P.cM)) kit_self ?_
  walk_at "rv go"
  refine w_seq ?_
  walk_at "rv go"
  refine ⟨a, dx, _, rfl, ha, a, hs, ws, rfl, P, hpa, _, rfl, ⟨by omega, Int.lt_of_le_of_lt (b := 60) (by omega) (by decide)⟩, ?_⟩
  walk_at "rv go"
  refine ⟨b, dy, _, rfl, hb, b, hs', ws', rfl, P, hpb, _, rfl, ⟨by omega, Int.lt_of_le_of_lt (b := 60) (by omega) (by decide)⟩, ?_⟩
  walk_at "rv go"
  refine w_both (fun z => absurd z (by omega)) (fun _ => ?_)
  walk_at "rv go"
  refine w_make ?_
  walk_at "rv go"
  refine w_fld rfl ha P.cl P.nH (pfl_h _ _) ?_
  refine w_fld rfl hb P.cl P.nH (pfl_h _ _) ?_
  refine cat_at h1 g1 (by rw [List.length_map, List.length_map]; omega) fun l1 H1 e1 hl1 => ?_
  walk_at "rv go"
  refine w_fld rfl (e1 _ _ ha) P.cl P.nW (pfl_w _ _) ?_
  refine w_fld rfl (e1 _ _ hb) P.cl P.nW (pfl_w _ _) ?_
  refine cat_at (e1 _ _ h2) (e1 _ _ g2) (by rw [List.length_map, List.length_map, o.eq, o'.eq]; omega) fun l2 H2 e2 hl2 => ?_
  have e12 := e1.trans e2
  rw [← List.map_append] at hl1 hl2
  walk_at "rv go"
  refine mk_profR (Q := fun x H' => Q (.ref x) H') (us := [.ref l1, .ref l2]) (dvs := []) rfl P (.inr (e2 _ _ hl1)) oo.pos oo.le oo.hh (.inr ⟨l2, rfl, .inr hl2, oo.eq, oo.ww⟩) fun q H3 nq e3 hq => ?_
  refine k q H3 ?_ (e12.trans e3) hq
  cases z : H q with
  | none => rfl
  | some o =>
    rw [e12 _ _ z] at nq
    cases nq
section
variable {K : PySem.W.Frag} {C : Addr} {H : Hp} {Q : VK} {E : XK} {a b : Addr} {hs ws hs' ws' : List Int} {y : V}
theorem w_xeq (P : PCls K C) (ha : ProfAt K C H a hs ws) (hb : ProfAt K C H b hs' ws') (q : Q (.bl (decide (hs = hs') && decide (ws = ws'))) H) : rOwnX K C (spPEqX K C) E (.ref a) (.ref b) H Q := by
  obtain ⟨dx, t1, t2, hai, _, _⟩ := id ha
  obtain ⟨dy, u1, u2, hbi, _, _⟩ := id hb
  exact ⟨a, dx, _, rfl, hai, .inl (.own hbi), a, .ref b, hs, ws, rfl, P, ha, .inl ⟨b, hs', ws', rfl, hb, q⟩⟩
theorem w_xne (P : PCls K C) (ha : ProfAt K C H a hs ws) (hb : ProfAt K C H b hs' ws') (q : Q (.bl (!(decide (hs = hs') && decide (ws = ws')))) H) : rNeO K C (spPEqX K C) E (.ref a) (.ref b) H Q := by
  obtain ⟨dx, t1, t2, hai, _, _⟩ := id ha
  obtain ⟨dy, u1, u2, hbi, _, _⟩ := id hb
  exact ⟨a, dx, _, rfl, hai, .inl (.own hbi), a, .ref b, hs, ws, rfl, P, ha, .inl ⟨b, hs', ws', rfl, hb, _, rfl, q⟩⟩
theorem w_xeqT (P : PCls K C) (ha : ProfAt K C H a hs ws) (hb : ProfAt K C H b hs ws) (q : Q (.bl true) H) : rOwnX K C (spPEqX K C) E (.ref a) (.ref b) H Q :=
  w_xeq P ha hb (by rw [decide_eq_true rfl, decide_eq_true rfl]; exact q)
theorem w_xeqF (P : PCls K C) (ha : ProfAt K C H a hs ws) (hb : ProfAt K C H b hs' ws') (n : hs ≠ hs' ∨ ws ≠ ws') (q : Q (.bl false) H) : rOwnX K C (spPEqX K C) E (.ref a) (.ref b) H Q :=
  w_xeq P ha hb (by
    have e : (decide (hs = hs') && decide (ws = ws')) = false := by
      rcases n with n | n
      · rw [decide_eq_false n, Bool.false_and]
      · rw [decide_eq_false n, Bool.and_false]
    rw [e]
    exact q)
/-- a value that no profile is equal to -/
def OdI (K : PySem.W.Frag) (C : Addr) (H : Hp) (y : V) : Prop := OddR H y ∨ ∃ i, y = .int i
theorem w_xodd (P : PCls K C) (O : OdC K C) (hk : PySem.W.kitOne K (.type "int") (.ref C) = some false) (ha : ProfAt K C H a hs ws) (o : OdI K C H y) (q : Q (.bl false) H) : rOwnX K C (spPEqX K C) E (.ref a) y H Q := by
  obtain ⟨dx, t1, t2, hai, _, _⟩ := id ha
  rcases o with o | ⟨i, rfl⟩
  · exact ⟨a, dx, _, rfl, hai, .inr (odd_of O o), a, y, hs, ws, rfl, P, ha, .inr ⟨.inl (odd_of O o), q⟩⟩
  · exact ⟨a, dx, _, rfl, hai, .inl (.int i), a, .int i, hs, ws, rfl, P, ha, .inr ⟨.inr ⟨i, rfl, hk⟩, q⟩⟩
theorem w_xoddN (P : PCls K C) (O : OdC K C) (hk : PySem.W.kitOne K (.type "int") (.ref C) = some false) (ha : ProfAt K C H a hs ws) (o : OdI K C H y) (q : Q (.bl true) H) : rNeO K C (spPEqX K C) E (.ref a) y H Q := by
  obtain ⟨dx, t1, t2, hai, _, _⟩ := id ha
  rcases o with o | ⟨i, rfl⟩
  · exact ⟨a, dx, _, rfl, hai, .inr (odd_of O o), a, y, hs, ws, rfl, P, ha, .inr ⟨.inl (odd_of O o), false, rfl, q⟩⟩
  · exact ⟨a, dx, _, rfl, hai, .inl (.int i), a, .int i, hs, ws, rfl, P, ha, .inr ⟨.inr ⟨i, rfl, hk⟩, false, rfl, q⟩⟩
theorem revL_at {σ : L2.St} {n : Nat} {zs : List Int} (hv : σ[n]? = some (some (.ref a))) (h : H a = some (.lst (zs.map V.int))) (k : ∀ l H', H l = none → Same H H' → H' l = some (.lst (zs.reverse.map V.int)) → Q (.ref l) H') : tRevL K (tVar n) σ H Q :=
  ⟨_, hv, a, _, rfl, sq_lst h, fun p np => k p _ np (same_new (Same.refl H) np) (by rw [upd_same, map_rev])⟩
theorem pfl_none (t1 t2 : Addr) {m : Str} (h1 : ¬ (m = "column_widths")) (h2 : ¬ (m = "column_heights")) : (pfl t1 t2).lookup m = none := by
  unfold pfl
  rw [lookup_putF, if_neg h1, lookup_putF, if_neg h2]
  rfl
theorem meth_at (ha : ProfAt K C H a hs ws) {sp : Sp} {ys : List V} (q : sp (.ref a :: (ys ++ [])) H Q E) : ∃ b dx fs, V.ref a = .ref b ∧ H b = some (.ins C dx fs) ∧ fs.lookup ("mirrored" : Str) = none ∧ sp (.ref b :: (ys ++ [])) H Q E := by
  obtain ⟨dx, t1, t2, hai, _, _⟩ := ha
  exact ⟨a, dx, _, rfl, hai, pfl_none _ _ (by decide +kernel) (by decide +kernel), q⟩
theorem w_neB {c d : Bool} (q : Q (.bl (!decide (c = d))) H) : rNe (.bl c) (.bl d) H Q := ⟨rfl, by
  have e : decide (V.bl c = V.bl d) = decide (c = d) := by
    by_cases h : c = d
    · rw [h, decide_eq_true rfl, decide_eq_true rfl]
    · rw [decide_eq_false h, decide_eq_false (fun z => h (V.bl.inj z))]
  rw [e]
  exact q⟩
end
theorem ok_rev {hs ws : List Int} (ok : PrOk hs ws) : PrOk hs.reverse ws.reverse :=
  ⟨by rw [List.length_reverse]; exact ok.pos, by rw [List.length_reverse]; exact ok.le, by rw [List.length_reverse, List.length_reverse]; exact ok.eq, fun z hz => ok.hh z (List.mem_reverse.mp hz), fun z hz => ok.ww z (List.mem_reverse.mp hz)⟩
theorem w_meth {σ : L2.St} {H : Hp} {Q : VK} {C : Addr} {m : Str} {sp : Sp} {E : XK} {ta : TE} {tr : TA} (q : ta σ H fun x H1 => ∃ a dx fs, x = .ref a ∧ H1 a = some (.ins C dx fs) ∧ fs.lookup m = none ∧ tr σ H1 fun vs H2 => sp (x :: (vs ++ [])) H2 Q E) : tMeth C m sp [] E ta tr σ H Q := q
theorem w_revL {K : PySem.W.Frag} {σ : L2.St} {H : Hp} {Q : VK} {te : TE} (q : te σ H fun x H1 => ∃ a xs, x = .ref a ∧ SqL K H1 a xs ∧ ∀ p, H1 p = none → Q (.ref p) (upd H1 p (.lst xs.reverse))) : tRevL K te σ H Q := q
theorem p_law14d {K : PySem.W.Frag} {C : Addr} {Q : VK} {H : Hp} {a d ha hw p r w : Addr} {hs ws gs : List Int} {at' : Nat} {o5 o6 o7 o8 o11 o12 : Option V} (P : PCls K C) (O : OdC K C) (hk : PySem.W.kitOne K (.type "int") (.ref C) = some false) (ok : PrOk hs ws) (okg : PrOk gs ws)
    (hh : H ha = some (.lst (gs.map V.int))) (hww : H hw = some (.lst (ws.map V.int))) (h1 : ProfAt K C H p hs ws) (h2 : ProfAt K C H r gs ws) (k : ∀ H', Q (.bl true) H') :
    t_law14d K C { nx := fun _ H' => Q .non H', rt := Q } [some (.ref a), some (.ref d), some (.ref ha), some (.ref hw), some (.ref p), o5, o6, o7, o8, some (.int at'), some (.ref r), o11, o12, none] H := by
  have sh := small_h ok.hh ok.le
  have sw := small_w ok.ww (by rw [ok.eq]; exact ok.le)
  obtain ⟨dx, t1, t2, hpi, _, _⟩ := id h1
  unfold t_law14d
  refine w_seq ?_
  refine w_forLn ?_
  refine w_lst ?_
  walk_at "rv go"
  refine ⟨p, dx, _, rfl, hpi, p, hs, ws, rfl, P, h1, sh, sw, fun H1 e1 => ⟨_, rfl, ?_⟩⟩
  walk_at "rv go"
  refine tup_call (K := K) (.inl (e1 _ _ hh)) fun q1 H2 e2 g1 => ?_
  have e12 := e1.trans e2
  walk_at "rv go"
  refine list_call (.inl (e12 _ _ hh)) fun q2 nq2 => ?_
  have e3 := same_new (o := .lst (gs.map V.int)) e12 nq2
  have e23 := same_new (o := .lst (gs.map V.int)) (Same.refl H2) nq2
  have g2 : (upd H2 q2 (.lst (gs.map V.int))) q2 = some (.lst (gs.map V.int)) := upd_same
  generalize upd H2 q2 (.lst (gs.map V.int)) = H3 at e3 e23 g2 ⊢
  walk_at "rv go"
  refine ⟨szl (by show 2 ≤ 100000; decide), fun q3 nq3 => ?_⟩
  have e4 := same_new (o := .tup [.ref ha, .ref hw]) e3 nq3
  have e34 := same_new (o := .tup [.ref ha, .ref hw]) (Same.refl H3) nq3
  have g3 : (upd H3 q3 (.tup [.ref ha, .ref hw])) q3 = some (.tup [.ref ha, .ref hw]) := upd_same
  generalize upd H3 q3 (.tup [.ref ha, .ref hw]) = H4 at e4 e34 g3 ⊢
  walk_at "rv go"
  intro q4 nq4
  have e5 := same_new (o := .dK []) e4 nq4
  have e45 := same_new (o := .dK []) (Same.refl H4) nq4
  have g4 : (upd H4 q4 (.dK [])) q4 = some (.dK []) := upd_same
  generalize upd H4 q4 (.dK []) = H5 at e5 e45 g4 ⊢
  walk_at "rv go"
  refine ⟨szl (by show 9 ≤ 100000; decide), fun l nl => ⟨l, rfl, ?_⟩⟩
  have e6 := same_new (o := .lst [.non, .int 0, .bl true, .str (Str.ofString ""), .str (ptext hs ws), .ref q1, .ref q2, .ref q3, .ref q4]) e5 nl
  have e56 := same_new (o := .lst [.non, .int 0, .bl true, .str (Str.ofString ""), .str (ptext hs ws), .ref q1, .ref q2, .ref q3, .ref q4]) (Same.refl H5) nl
  have gl : (upd H5 l (.lst [.non, .int 0, .bl true, .str (Str.ofString ""), .str (ptext hs ws), .ref q1, .ref q2, .ref q3, .ref q4])) l = some (.lst [.non, .int 0, .bl true, .str (Str.ofString ""), .str (ptext hs ws), .ref q1, .ref q2, .ref q3, .ref q4]) := upd_same
  generalize upd H5 l (.lst [.non, .int 0, .bl true, .str (Str.ofString ""), .str (ptext hs ws), .ref q1, .ref q2, .ref q3, .ref q4]) = H6 at e6 e56 gl ⊢
  have e46 := e45.trans e56
  have e36 := e34.trans e46
  have e26 := e23.trans e36
  have PO : ∀ (m : Nat) (x : V), ([.non, .int 0, .bl true, .str (Str.ofString ""), .str (ptext hs ws), .ref q1, .ref q2, .ref q3, .ref q4] : List V)[m]? = some x → OdI K C H6 x := fun m x hx => by
    match m, hx with
    | 0, hx => exact .inl (.inl (Option.some.inj hx).symm)
    | 1, hx => exact .inr ⟨0, (Option.some.inj hx).symm⟩
    | 2, hx => exact .inl (.inr (.inl ⟨true, (Option.some.inj hx).symm⟩))
    | 3, hx => exact .inl (.inr (.inr (.inl ⟨_, (Option.some.inj hx).symm⟩)))
    | 4, hx => exact .inl (.inr (.inr (.inl ⟨_, (Option.some.inj hx).symm⟩)))
    | 5, hx => exact .inl (.inr (.inr (.inr (.inr (.inl ⟨q1, _, (Option.some.inj hx).symm, e26 _ _ g1⟩)))))
    | 6, hx => exact .inl (.inr (.inr (.inr (.inl ⟨q2, _, (Option.some.inj hx).symm, e36 _ _ g2⟩))))
    | 7, hx => exact .inl (.inr (.inr (.inr (.inr (.inl ⟨q3, _, (Option.some.inj hx).symm, e46 _ _ g3⟩)))))
    | 8, hx => exact .inl (.inr (.inr (.inr (.inr (.inr ⟨q4, _, (Option.some.inj hx).symm, e56 _ _ g4⟩)))))
    | n + 9, hx => cases hx
  refine w_forLa (sq_lst gl) (fun _ σ' H' => Same H6 H' ∧ ∃ o13, σ' = [some (.ref a), some (.ref d), some (.ref ha), some (.ref hw), some (.ref p), o5, o6, o7, o8, some (.int at'), some (.ref r), o11, o12, o13]) ⟨Same.refl H6, _, rfl⟩ (fun _ σ' H' _ ⟨e, _⟩ => sq_lst (e _ _ gl)) ?_ ?_
  · rintro m x σ' H' hx ⟨e', o13, rfl⟩
    have ex : OdI K C H' x := (PO m x hx).elim (fun h => .inl (h.same e')) .inr
    have e0 := e6.trans e'
    walk_at "rv go"
    refine w_xodd P O hk (h1.same e0) ex ?_
    walk_at "rv go"
    refine w_xoddN P O hk (h1.same e0) ex ?_
    walk_at "rv go"
    refine w_xodd P O hk (h2.same e0) ex ?_
    walk_at "rv go"
    exact ⟨e', _, rfl⟩
  rintro σ' H7 ⟨e7, o13, rfl⟩
  have e07 := e6.trans e7
  walk_at "rv go"
  refine w_seq ?_
  walk_at "rv go"
  refine w_lenL (sq_lst (e07 _ _ hh)) ?_
  walk_at "rv go"
  rw [List.length_map]
  refine w_both (fun _ => ?_) (fun hl => ?_)
  · walk_at "rv go"
    exact k _
  walk_at "rv go"
  have lg : gs.length ≤ 30 := by omega
  have ehg : hs.length = gs.length := by rw [← ok.eq, okg.eq]
  have h17 := h1.same e07
  have h27 := h2.same e07
  have oo := ok_app ok okg (by omega)
  refine w_meth ?_
  walk_at "rv go"
  obtain ⟨dx1, s1, s2, hpi1, _, _⟩ := id h17
  obtain ⟨dx2, s3, s4, hpi2, _, _⟩ := id h27
  refine ⟨p, dx1, _, r, dx2, _, rfl, hpi1, rfl, hpi2, p, r, hs, ws, gs, ws, rfl, P, h17, h27, ok, okg, by omega, fun v1 H8 nv1 e8 hv1 => ?_⟩
  obtain ⟨dz, y1, y2, hzi, _, _⟩ := id hv1
  refine ⟨v1, dz, _, rfl, hzi, pfl_none _ _ (by decide +kernel) (by decide +kernel), ?_⟩
  walk_at "rv go"
  refine ⟨v1, _, _, rfl, P, hv1, oo, fun m1 H9 nm1 e9 hm1 => ?_⟩
  walk_at "rv go"
  refine w_meth ?_
  walk_at "rv go"
  have e89 := e8.trans e9
  obtain ⟨dz, y1, y2, hzi, _, _⟩ := id (h27.same e89)
  refine ⟨r, dz, _, rfl, hzi, pfl_none _ _ (by decide +kernel) (by decide +kernel), ?_⟩
  walk_at "rv go"
  refine ⟨r, _, _, rfl, P, (h27.same e89), okg, fun m2 H10 nm2 e10 hm2 => ?_⟩
  refine w_meth ?_
  walk_at "rv go"
  obtain ⟨dz, y1, y2, hzi, _, _⟩ := id (h17.same (e89.trans e10))
  refine ⟨p, dz, _, rfl, hzi, pfl_none _ _ (by decide +kernel) (by decide +kernel), ?_⟩
  walk_at "rv go"
  refine ⟨p, _, _, rfl, P, (h17.same (e89.trans e10)), ok, fun m3 H11 nm3 e11 hm3 => ?_⟩
  obtain ⟨dx3, s5, s6, hpi3, _, _⟩ := id (hm2.same e11)
  obtain ⟨dx4, s7, s8, hpi4, _, _⟩ := id hm3
  refine ⟨m2, dx3, _, m3, dx4, _, rfl, hpi3, rfl, hpi4, m2, m3, _, _, _, _, rfl, P, hm2.same e11, hm3, ok_rev okg, ok_rev ok, by rw [List.length_reverse, List.length_reverse]; omega, fun v2 H12 nv2 e12 hv2 => ?_⟩
  rw [← List.reverse_append, ← List.reverse_append] at hv2
  refine w_xeqT P (((hm1.same e10).same e11).same e12) hv2 ?_
  exact k _
theorem free_of {H H' : Hp} {l : Addr} (e : Same H H') (n : H' l = none) : H l = none := by
  cases z : H l with
  | none => rfl
  | some o =>
    rw [e _ _ z] at n
    cases n
theorem w_pre {K : PySem.W.Frag} {σ : L2.St} {H : Hp} {Q : VK} {tp : TE} {t : Addr} {zs : List Int} {z : Int} (hp : ∀ Q : VK, Q (.ref t) H → tp σ H Q) (ht : H t = some (.tup (zs.map V.int))) (hl : zs.length ≤ 60)
    (k : ∀ v H', H v = none → Same H H' → H' v = some (.lst ((zs.take 59 ++ [z]).map V.int)) → Q (.ref v) H') :
    tOp rCat (tSl (rSlL K) (tCB (cList K) (tCons tp tNil)) tNoPart (tPart (tC (.int 59)))) (tLst (tCons (tC (.int z)) tNil)) σ H Q := by
  walk_at "rv go"
  refine hp _ ?_
  walk_at "rv go"
  refine list_call (.inr ht) fun l nl => ?_
  have e1 := same_new (o := .lst (zs.map V.int)) (Same.refl H) nl
  have g1 : (upd H l (.lst (zs.map V.int))) l = some (.lst (zs.map V.int)) := upd_same
  generalize upd H l (.lst (zs.map V.int)) = H1 at e1 g1 ⊢
  walk_at "rv go"
  refine w_slL (sq_lst g1) fun s ns => ?_
  rw [show cutV (zs.map V.int) none (some (59 : Int)) = (zs.take 59).map V.int from cut_any (n := 59)]
  have e2 := same_new (o := .lst ((zs.take 59).map V.int)) e1 ns
  have g2 : (upd H1 s (.lst ((zs.take 59).map V.int))) s = some (.lst ((zs.take 59).map V.int)) := upd_same
  generalize upd H1 s (.lst ((zs.take 59).map V.int)) = H2 at e2 g2 ⊢
  walk_at "rv go"
  refine ⟨szl (by show 1 ≤ 100000; decide), fun q nq => ?_⟩
  have e3 := same_new (o := .lst [.int z]) e2 nq
  have e23 := same_new (o := .lst [.int z]) (Same.refl H2) nq
  have g3 : (upd H2 q (.lst [.int z])) q = some (.lst [.int z]) := upd_same
  generalize upd H2 q (.lst [.int z]) = H3 at e3 e23 g3 ⊢
  refine ⟨s, q, _, _, rfl, rfl, e23 _ _ g2, g3, szl (by rw [List.length_map, List.length_take]; show min 59 zs.length + 1 ≤ 100000; omega), fun v nv => ?_⟩
  rw [show (zs.take 59).map V.int ++ [V.int z] = (zs.take 59 ++ [z]).map V.int by rw [List.map_append]; rfl]
  exact k v _ (free_of e3 nv) (same_new e3 nv) upd_same
theorem rev_ne {xs ys : List Int} (h : xs ≠ ys) : xs.reverse ≠ ys.reverse := fun e => h (by
  have := congrArg List.reverse e
  rwa [List.reverse_reverse, List.reverse_reverse] at this)
theorem p_law14c {K : PySem.W.Frag} {C : Addr} {Q : VK} {H : Hp} {a d c ha hw p : Addr} {hs ws : List Int} {o5 o6 o7 o8 : Option V} (P : PCls K C) (O : OdC K C) (hk : PySem.W.kitOne K (.type "int") (.ref C) = some false) (ok : PrOk hs ws)
    (hh : H ha = some (.lst (hs.map V.int))) (hww : H hw = some (.lst (ws.map V.int))) (h1 : ProfAt K C H p hs ws) (D : DrawsAt H d c) (n1 : ha ≠ d) (n2 : hw ≠ d) (n3 : hw ≠ ha) (k : ∀ H', Q (.bl true) H') :
    t_law14c K C { nx := fun _ H' => Q .non H', rt := Q } [some (.ref a), some (.ref d), some (.ref ha), some (.ref hw), some (.ref p), o5, o6, o7, o8, none, none, none, none, none] H := by
  have sh := small_h ok.hh ok.le
  have sw := small_w ok.ww (by rw [ok.eq]; exact ok.le)
  have l60 := ok.le
  have l1 := ok.pos
  unfold t_law14c
  walk_at "rv go"
  refine w_lenL (sq_lst hh) ?_
  walk_at "rv go"
  rw [List.length_map]
  have hd : ∃ xs, H d = some (.lst xs) := by
    obtain ⟨ns, pos, num, seed, hd, _⟩ := D
    exact ⟨_, hd⟩
  refine draw_call D (by omega) (Int.lt_of_le_of_lt (b := 60) (by omega) (by decide)) fun r0 H1 ra rb b1 D1 => ?_
  obtain ⟨at', rfl⟩ : ∃ n : Nat, r0 = (n : Int) := ⟨r0.toNat, by omega⟩
  have atl : at' < hs.length := by omega
  have atw : at' < ws.length := by rw [ok.eq]; exact atl
  have h11 := h1.but b1 hd
  have hh1 := b1 _ _ n1 hh
  have hw1 := b1 _ _ n2 hww
  walk_at "rv go"
  refine w_ixL (sq_lst hh1) (at_hN atl) ?_
  walk_at "rv go"
  refine w_ixL (sq_lst hh1) (at_hN atl) ?_
  walk_at "rv go"
  have mh := ok.hh _ (hN_mem atl)
  have mw := ok.ww _ (hN_mem atw)
  unfold HOk1 at mh
  unfold WOk1 at mw
  obtain ⟨y, hy⟩ : ∃ y : Int, y = hN hs at' - 1 + 2 * if decide (hN hs at' < 0) = true then 1 else 0 := ⟨_, rfl⟩
  have yq : HOk1 y ∧ y ≠ hN hs at' := by
    unfold HOk1
    rw [hy]
    by_cases g : hN hs at' < 0
    · rw [decide_eq_true g, if_pos rfl]
      omega
    · rw [decide_eq_false g, if_neg Bool.false_ne_true]
      omega
  rw [← hy]
  refine w_setL (j := at') hh1 (by rw [List.length_map]; exact ixN_nat atl) ?_
  have x2 : Kx ha H1 (upd H1 ha (.lst ((hs.map V.int).set at' (.int y)))) := kx_upd hh1 (Kx.refl _ _)
  have hh2 : (upd H1 ha (.lst ((hs.map V.int).set at' (.int y)))) ha = some (.lst ((hs.set at' y).map V.int)) := by rw [upd_same, map_set]
  generalize upd H1 ha (.lst ((hs.map V.int).set at' (.int y))) = H2 at x2 hh2 ⊢
  have hw2 := x2 _ _ hw1 (.inr n3)
  have h12 := h11.kx x2
  have okg : PrOk (hs.set at' y) ws := ⟨by rw [List.length_set]; exact ok.pos, by rw [List.length_set]; exact ok.le, by rw [List.length_set]; exact ok.eq, fun x hx => (set_mem hx).elim (fun e => e ▸ yq.1) fun e => ok.hh x e, ok.ww⟩
  have gne : hs.set at' y ≠ hs := fun e => set_ne atl yq.2 e.symm
  generalize hgs : hs.set at' y = gs at okg hh2 gne ⊢
  walk_at "rv go"
  refine w_make ?_
  walk_at "rv go"
  refine mk_profR (us := [.ref ha, .ref hw]) (dvs := []) (hs := gs) (ws := ws) rfl P (.inl hh2) okg.pos okg.le okg.hh (.inr ⟨hw, rfl, .inl hw2, okg.eq, okg.ww⟩) fun r H3 nr e3 hr => ?_
  have h13 := h12.same e3
  walk_at "rv go"
  refine w_seq ?_
  walk_at "rv go"
  refine w_xeqF P hr h13 (.inl gne) ?_
  walk_at "rv go"
  refine w_meth ?_
  walk_at "rv go"
  obtain ⟨dz, y1, y2, hzi, _, _⟩ := id hr
  refine ⟨r, dz, _, rfl, hzi, pfl_none _ _ (by decide +kernel) (by decide +kernel), ?_⟩
  walk_at "rv go"
  refine ⟨r, _, _, rfl, P, hr, okg, fun m1 H4 nm1 e4 hm1 => ?_⟩
  walk_at "rv go"
  refine w_meth ?_
  walk_at "rv go"
  obtain ⟨dz, y1, y2, hzi, _, _⟩ := id (h13.same e4)
  refine ⟨p, dz, _, rfl, hzi, pfl_none _ _ (by decide +kernel) (by decide +kernel), ?_⟩
  walk_at "rv go"
  refine ⟨p, _, _, rfl, P, (h13.same e4), ok, fun m2 H5 nm2 e5 hm2 => ?_⟩
  refine w_xeqF P (hm1.same e5) hm2 (.inl (rev_ne gne)) ?_
  walk_at "rv go"
  have e35 := e4.trans e5
  have h15 := h13.same e35
  have hr5 := hr.same e35
  have hh5 := (e3.trans e35) _ _ hh2
  have hw5 := (e3.trans e35) _ _ hw2
  obtain ⟨dx, t1, t2, hpi, g1, g2⟩ := id h15
  refine w_make ?_
  refine w_cons ?_
  refine w_pre (t := t1) (zs := hs) (z := 0) (fun Q q => ?_) g1 ok.le fun v1 H6 nv1 e6 hv1 => ?_
  · refine w_propE ?_
    walk_at "rv go"
    exact ⟨p, dx, _, rfl, hpi, p, dx, _, _, rfl, hpi, pfl_h _ _, q⟩
  refine w_cons ?_
  refine w_pre (t := t2) (zs := ws) (z := 1) (fun Q q => ?_) (e6 _ _ g2) (by rw [ok.eq]; exact ok.le) fun v2 H7 nv2 e7 hv2 => ?_
  · refine w_propE ?_
    walk_at "rv go"
    exact ⟨p, dx, _, rfl, e6 _ _ hpi, p, dx, _, _, rfl, e6 _ _ hpi, pfl_w _ _, q⟩
  have okl : PrOk (hs.take 59 ++ [0]) (ws.take 59 ++ [1]) := ⟨by simp, by rw [List.length_append, List.length_take]; show min 59 hs.length + 1 ≤ 60; omega, by rw [List.length_append, List.length_append, List.length_take, List.length_take, ok.eq]; rfl,
    fun z hz => (List.mem_append.mp hz).elim (fun h => ok.hh z (List.mem_of_mem_take h)) fun h => by rw [List.mem_singleton.mp h]; exact ⟨by decide, by decide⟩,
    fun z hz => (List.mem_append.mp hz).elim (fun h => ok.ww z (List.mem_of_mem_take h)) fun h => by rw [List.mem_singleton.mp h]; exact ⟨by decide, by decide⟩⟩
  generalize hs.take 59 ++ [0] = ls at okl hv1
  generalize ws.take 59 ++ [1] = ms at okl hv2
  refine w_nil ?_
  refine mk_profR (us := [.ref v1, .ref v2]) (dvs := []) (hs := ls) (ws := ms) rfl P (.inl (e7 _ _ hv1)) okl.pos okl.le okl.hh (.inr ⟨v2, rfl, .inl hv2, okl.eq, okl.ww⟩) fun g H8 ng e8 hg => ?_
  have e58 := (e6.trans e7).trans e8
  have h18 := h15.same e58
  have hr8 := hr5.same e58
  have hh8 := e58 _ _ hh5
  have hw8 := e58 _ _ hw5
  obtain ⟨dg, u1, u2, hgi, f1, f2⟩ := id hg
  have hpi8 := e58 _ _ hpi
  walk_at "rv go"
  refine st_is [some (.ref a), some (.ref d), some (.ref ha), some (.ref hw), some (.ref p), o5, o6, o7, o8, some (.int at'), some (.ref r), some (.ref g), none, none] rfl ?_
  refine w_cut (fun σ' H' => σ' = [some (.ref a), some (.ref d), some (.ref ha), some (.ref hw), some (.ref p), o5, o6, o7, o8, some (.int at'), some (.ref r), some (.ref g), none, none] ∧ H' = H8) (fun N hX => ?_) ?_
  · walk_at "rv go"
    refine w_xeq P hg h18 ?_
    walk_at "rv go"
    refine w_propE ?_
    walk_at "rv go"
    refine ⟨g, dg, _, rfl, hgi, g, dg, _, _, rfl, hgi, pfl_h _ _, ?_⟩
    walk_at "rv go"
    refine w_propE ?_
    walk_at "rv go"
    refine ⟨p, dx, _, rfl, hpi8, p, dx, _, _, rfl, hpi8, pfl_h _ _, ?_⟩
    refine eqD_T f1 (e58 _ _ g1) ?_
    walk_at "rv go"
    refine w_both (fun z => ?_) (fun z => ?_)
    · walk_at "rv go"
      refine w_propE ?_
      walk_at "rv go"
      refine ⟨g, dg, _, rfl, hgi, g, dg, _, _, rfl, hgi, pfl_w _ _, ?_⟩
      walk_at "rv go"
      refine w_propE ?_
      walk_at "rv go"
      refine ⟨p, dx, _, rfl, hpi8, p, dx, _, _, rfl, hpi8, pfl_w _ _, ?_⟩
      refine eqD_T f2 (e58 _ _ g2) ?_
      walk_at "rv go"
      rw [decide_eq_true z, Bool.true_and]
      refine w_neB ?_
      rw [decide_eq_true rfl]
      walk_at "rv go"
      exact hX _ _ ⟨rfl, rfl⟩
    · walk_at "rv go"
      rw [decide_eq_false z, Bool.false_and]
      refine w_neB ?_
      rw [decide_eq_true rfl]
      walk_at "rv go"
      exact hX _ _ ⟨rfl, rfl⟩
  rintro σ' H9 ⟨rfl, e9⟩
  subst e9
  walk_at "rv go"
  refine w_propE ?_
  walk_at "rv go"
  refine ⟨p, dx, _, rfl, hpi8, p, dx, _, _, rfl, hpi8, pfl_w _ _, ?_⟩
  walk_at "rv go"
  refine list_call (.inr (e58 _ _ g2)) fun m nm => ?_
  have e10 := same_new (o := .lst (ws.map V.int)) (Same.refl H9) nm
  have hm : (upd H9 m (.lst (ws.map V.int))) m = some (.lst (ws.map V.int)) := upd_same
  have nm0 : ∀ b o, H9 b = some o → b ≠ m := fun b o hb => ne_of_none hb nm
  generalize upd H9 m (.lst (ws.map V.int)) = H10 at e10 hm ⊢
  walk_at "rv go"
  refine w_ixL (sq_lst hm) (at_hN atw) ?_
  walk_at "rv go"
  obtain ⟨z, hz⟩ : ∃ z : Int, z = hN ws at' % 10 ^ Int.toNat 30 + 1 := ⟨_, rfl⟩
  rw [← hz]
  have e30 : (10 : Int) ^ Int.toNat 30 = 1000000000000000000000000000000 := by decide
  rw [e30] at hz
  have zq : WOk1 z ∧ z ≠ hN ws at' := by
    unfold WOk1
    rw [hz]
    omega
  refine w_setL (j := at') hm (by rw [List.length_map]; exact ixN_nat atw) ?_
  have e11 : Same H9 (upd H10 m (.lst ((ws.map V.int).set at' (.int z)))) := fun b o hb => by
    rw [upd_ne (nm0 b o hb)]
    exact e10 b o hb
  have hm11 : (upd H10 m (.lst ((ws.map V.int).set at' (.int z)))) m = some (.lst ((ws.set at' z).map V.int)) := by rw [upd_same, map_set]
  generalize upd H10 m (.lst ((ws.map V.int).set at' (.int z))) = H11 at e11 hm11 ⊢
  walk_at "rv go"
  refine w_seq ?_
  walk_at "rv go"
  refine w_make ?_
  walk_at "rv go"
  refine w_propE ?_
  walk_at "rv go"
  refine ⟨p, dx, _, rfl, e11 _ _ hpi8, p, dx, _, _, rfl, e11 _ _ hpi8, pfl_h _ _, ?_⟩
  walk_at "rv go"
  refine mk_profR (us := [.ref t1, .ref m]) (dvs := []) (hs := hs) (ws := ws.set at' z) rfl P (.inr (e11 _ _ (e58 _ _ g1))) ok.pos ok.le ok.hh
    (.inr ⟨m, rfl, .inl hm11, by rw [List.length_set]; exact ok.eq, fun x hx => (set_mem hx).elim (fun e => e ▸ zq.1) fun e => ok.ww x e⟩) fun v5 H12 nv5 e12 hv5 => ?_
  have e912 := e11.trans e12
  walk_at "rv go"
  refine w_xeqF P hv5 (h18.same e912) (.inr fun e => set_ne atw zq.2 e.symm) ?_
  walk_at "rv go"
  refine st_is [some (.ref a), some (.ref d), some (.ref ha), some (.ref hw), some (.ref p), o5, o6, o7, o8, some (.int at'), some (.ref r), some (.ref g), some (.ref m), none] rfl ?_
  exact p_law14d (w := a) P O hk ok okg (e912 _ _ hh8) (e912 _ _ hw8) (h18.same e912) (hr8.same e912) k
theorem p_law14b {K : PySem.W.Frag} {C : Addr} {Q : VK} {H : Hp} {a d c ha hw p : Addr} {hs ws : List Int} (P : PCls K C) (O : OdC K C) (hk : PySem.W.kitOne K (.type "int") (.ref C) = some false) (ok : PrOk hs ws)
    (hh : H ha = some (.lst (hs.map V.int))) (hww : H hw = some (.lst (ws.map V.int))) (h1 : ProfAt K C H p hs ws) (D : DrawsAt H d c) (n1 : ha ≠ d) (n2 : hw ≠ d) (n3 : hw ≠ ha) (k : ∀ H', Q (.bl true) H') :
    t_law14b K C { nx := fun _ H' => Q .non H', rt := Q } [some (.ref a), some (.ref d), some (.ref ha), some (.ref hw), some (.ref p), some (.str (ptext hs ws)), none, none, none, none, none, none, none, none] H := by
  have sh := small_h ok.hh ok.le
  have sw := small_w ok.ww (by rw [ok.eq]; exact ok.le)
  obtain ⟨dx, t1, t2, hpi, _, _⟩ := id h1
  obtain ⟨B, hB⟩ : ∃ B : Bool, B = (decide (hs.reverse = hs) && decide (ws.reverse = ws)) := ⟨_, rfl⟩
  unfold t_law14b
  refine w_seq ?_
  refine w_forR (n := 2) (by omega) (fun AQ q => ?_) (fun _ σ' H' => Same H H' ∧ ∃ o6 o7 o8, σ' = [some (.ref a), some (.ref d), some (.ref ha), some (.ref hw), some (.ref p), some (.str (ptext hs ws)), o6, o7, o8, none, none, none, none, none]) ⟨Same.refl _, _, _, _, rfl⟩ ?_ ?_
  · walk_at "rv go"
    exact q
  · rintro i σ' H1 hi ⟨e1, o6, o7, o8, rfl⟩
    walk_at "rv go"
    refine w_meth ?_
    walk_at "rv go"
    obtain ⟨dz, y1, y2, hzi, _, _⟩ := id (h1.same e1)
    refine ⟨p, dz, _, rfl, hzi, pfl_none _ _ (by decide +kernel) (by decide +kernel), ?_⟩
    walk_at "rv go"
    refine ⟨p, _, _, rfl, P, (h1.same e1), ok, fun m1 H2 nm1 e2 hm1 => ?_⟩
    walk_at "rv go"
    refine w_seq ?_
    walk_at "rv go"
    have e02 := e1.trans e2
    refine revL_at rfl (e02 _ _ hh) fun l1 H3 nl1 e3 hl1 => ?_
    walk_at "rv go"
    refine revL_at rfl ((e02.trans e3) _ _ hww) fun l2 H4 nl2 e4 hl2 => ?_
    walk_at "rv go"
    have e04 := (e02.trans e3).trans e4
    have e24 := e3.trans e4
    refine ⟨m1, l1, l2, _, _, _, _, rfl, P, hm1.same e24, e4 _ _ hl1, hl2, fun H5 e5 => ?_⟩
    rw [decide_eq_true rfl, decide_eq_true rfl, Bool.and_self]
    walk_at "rv go"
    have e05 := e04.trans e5
    have e25 := e24.trans e5
    refine ⟨p, dx, _, rfl, e05 _ _ hpi, p, hs, ws, rfl, P, h1.same e05, sh, sw, fun H6 e6 => ⟨_, rfl, ?_⟩⟩
    walk_at "rv go"
    refine ⟨rfl, ?_⟩
    rw [decide_eq_true rfl]
    walk_at "rv go"
    have e06 := e05.trans e6
    have e26 := e25.trans e6
    refine w_seq ?_
    walk_at "rv go"
    refine w_meth ?_
    walk_at "rv go"
    obtain ⟨dz, y1, y2, hzi, _, _⟩ := id (hm1.same e26)
    refine ⟨m1, dz, _, rfl, hzi, pfl_none _ _ (by decide +kernel) (by decide +kernel), ?_⟩
    walk_at "rv go"
    refine ⟨m1, _, _, rfl, P, (hm1.same e26), (ok_rev ok), fun m2 H7 nm2 e7 hm2 => ?_⟩
    rw [List.reverse_reverse, List.reverse_reverse] at hm2
    have e07 := e06.trans e7
    have e27 := e26.trans e7
    walk_at "rv go"
    refine w_xeqT P hm2 (h1.same e07) ?_
    walk_at "rv go"
    refine revL_at rfl (e07 _ _ hh) fun l3 H8 nl3 e8 hl3 => ?_
    have e08 := e07.trans e8
    have e28 := e27.trans e8
    refine eqD_L (e08 _ _ hh) hl3 ?_
    walk_at "rv go"
    refine w_both (fun z => ?_) (fun z => ?_)
    · walk_at "rv go"
      refine revL_at rfl (e08 _ _ hww) fun l4 H9 nl4 e9 hl4 => ?_
      have e09 := e08.trans e9
      have e29 := e28.trans e9
      refine eqD_L (e09 _ _ hww) hl4 ?_
      rw [show decide (ws = ws.reverse) = B by rw [hB, decide_eq_true z.symm, Bool.true_and]; exact decide_eq_decide.mpr eq_comm]
      walk_at "rv go"
      refine w_xeq P (hm1.same (e29)) (h1.same (e09)) ?_
      rw [← hB]
      walk_at "rv go"
      refine w_neB ?_
      rw [decide_eq_true rfl]
      walk_at "rv go"
      refine w_xne P (hm1.same (e29)) (h1.same (e09)) ?_
      rw [← hB]
      walk_at "rv go"
      refine w_eqB ?_
      rw [show decide ((!B) = B) = false by cases B <;> rfl]
      walk_at "rv go"
      exact ⟨e09, _, _, _, rfl⟩
    · rw [show (false : Bool) = B by rw [hB, decide_eq_false (fun e => z e.symm), Bool.false_and]]
      walk_at "rv go"
      refine w_xeq P (hm1.same (e28)) (h1.same (e08)) ?_
      rw [← hB]
      walk_at "rv go"
      refine w_neB ?_
      rw [decide_eq_true rfl]
      walk_at "rv go"
      refine w_xne P (hm1.same (e28)) (h1.same (e08)) ?_
      rw [← hB]
      walk_at "rv go"
      refine w_eqB ?_
      rw [show decide ((!B) = B) = false by cases B <;> rfl]
      walk_at "rv go"
      exact ⟨e08, _, _, _, rfl⟩
  rintro σ' H1 ⟨e1, o6, o7, o8, rfl⟩
  exact p_law14c P O hk ok (e1 _ _ hh) (e1 _ _ hww) (h1.same e1) (D.new e1) n1 n2 n3 k
theorem w_fold {K : PySem.W.Frag} {σ : L2.St} {H : Hp} {Q : VK} {n : Nat} {a : Addr} {zs : List Int} (hv : σ[n]? = some (some (.ref a))) (h : H a = some (.lst (zs.map V.int)))
    (k : ∀ v H', H v = none → Same H H' → H' v = some (.lst ((zs.take 5 ++ (zs.take 5).reverse).map V.int)) → Q (.ref v) H') :
    tOp rCat (tSl (rSlL K) (tVar n) tNoPart (tPart (tC (.int 5)))) (tRevL K (tSl (rSlL K) (tVar n) tNoPart (tPart (tC (.int 5))))) σ H Q := by
  refine w_op ?_
  refine w_sl ?_
  refine w_var hv ?_
  walk_at "rv go"
  refine w_slL (sq_lst h) fun s ns => ?_
  rw [show cutV (zs.map V.int) none (some (5 : Int)) = (zs.take 5).map V.int from cut_any (n := 5)]
  have e1 := same_new (o := .lst ((zs.take 5).map V.int)) (Same.refl H) ns
  have g1 : (upd H s (.lst ((zs.take 5).map V.int))) s = some (.lst ((zs.take 5).map V.int)) := upd_same
  generalize upd H s (.lst ((zs.take 5).map V.int)) = H1 at e1 g1 ⊢
  refine w_revL ?_
  refine w_sl ?_
  refine w_var hv ?_
  walk_at "rv go"
  refine w_slL (sq_lst (e1 _ _ h)) fun s2 ns2 => ?_
  rw [show cutV (zs.map V.int) none (some (5 : Int)) = (zs.take 5).map V.int from cut_any (n := 5)]
  have e2 := same_new (o := .lst ((zs.take 5).map V.int)) e1 ns2
  have e12 := same_new (o := .lst ((zs.take 5).map V.int)) (Same.refl H1) ns2
  have g2 : (upd H1 s2 (.lst ((zs.take 5).map V.int))) s2 = some (.lst ((zs.take 5).map V.int)) := upd_same
  generalize upd H1 s2 (.lst ((zs.take 5).map V.int)) = H2 at e2 e12 g2 ⊢
  refine ⟨s2, _, rfl, sq_lst g2, fun q nq => ?_⟩
  have e3 := same_new (o := .lst ((zs.take 5).map V.int).reverse) e2 nq
  have e13 := same_new (o := .lst ((zs.take 5).map V.int).reverse) e12 nq
  have g3 : (upd H2 q (.lst ((zs.take 5).map V.int).reverse)) q = some (.lst ((zs.take 5).reverse.map V.int)) := by rw [upd_same, map_rev]
  generalize upd H2 q (.lst ((zs.take 5).map V.int).reverse) = H3 at e3 e13 g3 ⊢
  refine ⟨s, q, _, _, rfl, rfl, e13 _ _ g1, g3, szl (by rw [List.length_map, List.length_map, List.length_reverse, List.length_take]; omega), fun v nv => ?_⟩
  rw [← List.map_append]
  exact k v _ (free_of e3 nv) (same_new e3 nv) upd_same
theorem ok_fold {hs ws : List Int} (ok : PrOk hs ws) : PrOk (hs.take 5 ++ (hs.take 5).reverse) (ws.take 5 ++ (ws.take 5).reverse) := by
  have l1 := ok.pos
  refine ⟨?_, ?_, ?_, fun z hz => ?_, fun z hz => ?_⟩
  · rw [List.length_append, List.length_take]; omega
  · rw [List.length_append, List.length_reverse, List.length_take]; omega
  · rw [List.length_append, List.length_append, List.length_reverse, List.length_reverse, List.length_take, List.length_take, ok.eq]
  · exact ok.hh z ((List.mem_append.mp hz).elim List.mem_of_mem_take fun h => List.mem_of_mem_take (List.mem_reverse.mp h))
  · exact ok.ww z ((List.mem_append.mp hz).elim List.mem_of_mem_take fun h => List.mem_of_mem_take (List.mem_reverse.mp h))
theorem p_law14 {K : PySem.W.Frag} {CP : Addr} {vs : List V} {H : Hp} {Q : VK} {E : XK} (h : spLaw14 K CP vs H Q E) : t_law14 K CP { nx := fun _ H' => Q .non H', rt := Q } (start ["_law_script", "_law_draws_here", "_law_heights_here", "_law_widths_here", "_law_profile", "_law_kept", "_law_turn", "_law_mirrored", "_law_same", "_law_place", "_law_changed", "_law_longer", "_law_wider", "_law_odd"] vs) H := by
  obtain ⟨a, ns, rfl, hS, P, O, hk, k⟩ := h
  unfold t_law14
  walk_at "rv go"
  refine ⟨a, ns, rfl, hS, fun d c H1 nd nc e1 D1 => ?_⟩
  walk_at "rv go"
  refine ⟨d, c, rfl, D1, fun ha H2 hs l1' l60 hok b2 D2 nha hh => ?_⟩
  have had : ha ≠ d := D1.nd nha
  walk_at "rv go"
  refine w_lenL (sq_lst hh) ?_
  walk_at "rv go"
  refine ⟨d, c, hs.length, ?_⟩
  rw [List.length_map]
  refine ⟨rfl, l60, D2, fun hw H3 ws hlw wok b3 D3 nhw hhw => ?_⟩
  have hwd : hw ≠ d := D2.nd nhw
  have hwa : hw ≠ ha := (ne_of_none hh nhw).symm
  have hh3 := b3 _ _ had hh
  have ok : PrOk hs ws := ⟨l1', l60, hlw, hok, wok⟩
  walk_at "rv go"
  refine st_is [some (.ref a), some (.ref d), some (.ref ha), some (.ref hw), none, none, none, none, none, none, none, none, none, none] rfl ?_
  refine w_cut (fun σ' H' => ∃ ha hw hs ws, σ' = [some (.ref a), some (.ref d), some (.ref ha), some (.ref hw), none, none, none, none, none, none, none, none, none, none] ∧ PrOk hs ws ∧ H' ha = some (.lst (hs.map V.int)) ∧ H' hw = some (.lst (ws.map V.int)) ∧ DrawsAt H' d c ∧ ha ≠ d ∧ hw ≠ d ∧ hw ≠ ha) (fun N hX => ?_) ?_
  · walk_at "rv go"
    refine draw_call D3 (by decide) (by decide) fun r H4 ra rb b4 D4 => ?_
    have hh4 := b4 _ _ had hh3
    have hw4 := b4 _ _ hwd hhw
    walk_at "rv go"
    refine w_both (fun _ => ?_) (fun _ => ?_)
    · refine w_seqA (s2 := tAsg _ _) ?_
      refine w_fold rfl hh4 fun v1 H5 nv1 e5 hv1 => ?_
      refine w_gn ?_
      show tAsg _ _ _ _ _
      refine w_asg ?_
      refine w_fold rfl (e5 _ _ hw4) fun v2 H6 nv2 e6 hv2 => ?_
      walk_at "rv go"
      exact hX _ _ ⟨v1, v2, _, _, rfl, ok_fold ok, e6 _ _ hv1, hv2, (D4.new e5).new e6, D4.nd nv1, (D4.new e5).nd nv2, (ne_of_none hv1 nv2).symm⟩
    · walk_at "rv go"
      exact hX _ _ ⟨ha, hw, hs, ws, rfl, ok, hh4, hw4, D4, had, hwd, hwa⟩
  clear hwa ok hh3 hhw hlw wok nhw hwd had hh hok l60 l1' nha b3 D3
  rintro _ H4 ⟨ha, hw, hs, ws, rfl, ok, hh, hww, D, n1, n2, n3⟩
  have sh := small_h ok.hh ok.le
  have sw := small_w ok.ww (by rw [ok.eq]; exact ok.le)
  walk_at "rv go"
  refine w_make ?_
  walk_at "rv go"
  refine mk_profR (us := [.ref ha, .ref hw]) (dvs := []) (hs := hs) (ws := ws) rfl P (.inl hh) ok.pos ok.le ok.hh (.inr ⟨hw, rfl, .inl hww, ok.eq, ok.ww⟩) fun p H5 np e5 hp => ?_
  obtain ⟨dx, t1, t2, hpi, _, _⟩ := id hp
  walk_at "rv go"
  refine ⟨p, dx, _, rfl, hpi, p, hs, ws, rfl, P, hp, sh, sw, fun H6 e6 => ⟨_, rfl, ?_⟩⟩
  walk_at "rv go"
  refine st_is [some (.ref a), some (.ref d), some (.ref ha), some (.ref hw), some (.ref p), some (.str (ptext hs ws)), none, none, none, none, none, none, none, none] rfl ?_
  have e56 := e5.trans e6
  exact p_law14b P O hk ok (e56 _ _ hh) (e56 _ _ hww) (hp.same e6) (D.new e56) n1 n2 n3 fun H' => k H'
end Rv
namespace Rv
open PySem PySem.Spec PyProof.Rows L2
/-- what the law asks of the class LimitExceeded (CL) and of RainError (CR) -/
structure LxC (K : PySem.W.Frag) (CL CR : Addr) : Prop where
  ox : OexG K CL "OverflowError" "OverflowError.__new__" "OverflowError.__init__" bm_OverflowError
  no : PySem.W.findIn K (.ref CL) "limit" = some none
  em : PySem.W.exmOne K (.ref CL) (.ref CL) = some true
  k1 : PySem.W.kitOne K (.ref CL) (.type "OverflowError") = some true
  k2 : PySem.W.kitOne K (.ref CL) (.ref CR) = some false
def lxB (K : PySem.W.Frag) : Bool := decide (PySem.W.exmOne K (.ref (He.ga K "LimitExceeded")) (.ref (He.ga K "LimitExceeded")) = some true) && (decide (PySem.W.kitOne K (.ref (He.ga K "LimitExceeded")) (.type "OverflowError") = some true) && decide (PySem.W.kitOne K (.ref (He.ga K "LimitExceeded")) (.ref (He.ga K "RainError")) = some false))
theorem lx_of {K : PySem.W.Frag} (h1 : oxB K "LimitExceeded" "OverflowError.__new__" bm_OverflowError = true) (h2 : decide (PySem.W.findIn K (.ref (He.ga K "LimitExceeded")) "limit" = some none) = true) (h3 : lxB K = true) : LxC K (He.ga K "LimitExceeded") (He.ga K "RainError") := by
  obtain ⟨g1, g⟩ := He.ba h3
  obtain ⟨g2, g3⟩ := He.ba g
  exact ⟨ox_ok PySem.F.excBase_OverflowError mok_oe h1, of_decide_eq_true h2, of_decide_eq_true g1, of_decide_eq_true g2, of_decide_eq_true g3⟩
/-- what is told of two joined rows -/
def dJ (hs ws : List Int) : PyData := if hs.length ≤ 60 then .tuple [.tuple (hs.map PyData.int), .tuple (ws.map PyData.int), .int hs.length] else .tuple [.str "limit", .int 60, .bool true, .bool false]
theorem sh_dJ (hs ws : List Int) : SeqAt.shaped (dJ hs ws) = true := by
  unfold dJ
  split
  · have h := lay_ints hs
    have g := lay_ints ws
    simp [SeqAt.shaped, PyData.canLay0, PyData.canLayAll0, PyData.depth, PyData.depthAll, h.1, h.2, g.1, g.2]
  · have s1 : PyData.strOk (Str.ofString "limit") = true := by decide +kernel
    simp [SeqAt.shaped, PyData.canLay0, PyData.canLayAll0, PyData.depth, PyData.depthAll, s1]
def spPAddX (K : PySem.W.Frag) (C CL : Addr) : Sp := fun vs H Q E => ∃ a b hs ws hs' ws', vs = [.ref a, .ref b] ∧ PCls K C ∧ OexG K CL "OverflowError" "OverflowError.__new__" "OverflowError.__init__" bm_OverflowError ∧ PySem.W.findIn K (.ref CL) "limit" = some none ∧ ProfAt K C H a hs ws ∧ ProfAt K C H b hs' ws' ∧ PrOk hs ws ∧ PrOk hs' ws' ∧
  (hs.length + hs'.length ≤ 60 → ∀ p H', H p = none → Same H H' → ProfAt K C H' p (hs ++ hs') (ws ++ ws') → Q (.ref p) H') ∧
  (60 < hs.length + hs'.length → ∀ d H', H d = none → Same H H' → H' d = some (.xd [("limit", .int 60)]) → E (.ref CL) (some d) H')
def spJoined (K : PySem.W.Frag) (CP CL CR : Addr) : Sp := fun vs H Q _ => ∃ a b hs ws hs' ws', vs = [.ref a, .ref b] ∧ PCls K CP ∧ LxC K CL CR ∧ ProfAt K CP H a hs ws ∧ ProfAt K CP H b hs' ws' ∧ PrOk hs ws ∧ PrOk hs' ws' ∧ ∀ r H', Same H H' → Dp K H' (.ref r) (dJ (hs ++ hs') (ws ++ ws')) → Q (.ref r) H'
def spDueJ (K : PySem.W.Frag) : Sp := fun vs H Q _ => ∃ a b hs ws, vs = [.ref a, .ref b] ∧ H a = some (.lst (hs.map V.int)) ∧ H b = some (.lst (ws.map V.int)) ∧ hs.length ≤ 200 ∧ ∀ r H', Same H H' → Dp K H' (.ref r) (dJ hs ws) → Q (.ref r) H'
def spLaw13 (K : PySem.W.Frag) (CP CL CR : Addr) : Sp := fun vs H Q _ => ∃ (a : Addr) (ns : List Int), vs = [.ref a] ∧ SqL K H a (ns.map V.int) ∧ PCls K CP ∧ LxC K CL CR ∧ ∀ H', Q (.bl true) H'
def t_LimitExceeded___init__ (K : PySem.W.Frag) (C_LimitExceeded : Addr) : TS :=
  (tSeq (tDrop (tBaseI K C_LimitExceeded "OverflowError" "OverflowError.__new__" "OverflowError.__init__" bm_OverflowError (tCons (tVar 0) (tCons (tC (.str "limit exceeded")) tNil))))
    (tFst K C_LimitExceeded "OverflowError" "OverflowError.__new__" "OverflowError.__init__" bm_OverflowError "limit" (tVar 0) (tVar 1)))
def t_Profile___add__X (K : PySem.W.Frag) (C_Profile : Addr) (C_LimitExceeded : Addr) (E : XK) : TS :=
  (tSeq (tIfS (tNot (tB (tCB (rIsi K) (tCons (tVar 1) (tCons (tC (.ref C_Profile)) tNil))))) tNever tNext)
    (tSeq (tIfS (tTest (tOp oGt (tOp oAdd (tCB (cLenO C_Profile (spPLen K C_Profile) E0) (tCons (tVar 0) tNil)) (tCB (cLenO C_Profile (spPLen K C_Profile) E0) (tCons (tVar 1) tNil))) (tC (.int 60)))) (tRaise (tMkO C_LimitExceeded (spExc K C_LimitExceeded "OverflowError" "OverflowError.__new__" "OverflowError.__init__" bm_OverflowError "limit") [] (tCons (tC (.int 60)) tNil)) E) tNext)
    (tRet (tMake C_Profile (spInit K C_Profile) [] E0 (tCons (tOp (rCatA K) (tFld K (tVar 0) "column_heights") (tFld K (tVar 1) "column_heights")) (tCons (tOp (rCatA K) (tFld K (tVar 0) "column_widths") (tFld K (tVar 1) "column_widths")) tNil))))))
def t__law_joined (K : PySem.W.Frag) (C_Profile : Addr) (C_LimitExceeded : Addr) (C_RainError : Addr) : TS :=
  (tSeq (tAsg (tTup tNil) (gName 2))
    (tSeq (tTryAs K (.ref C_LimitExceeded) 4 (fun W => (tSeq (tAsg (tOpS (fun σ => rAddO C_Profile (spPAddX K C_Profile C_LimitExceeded) (WE W σ)) (tVar 0) (tVar 1)) (gName 3))
    (tAsg (tTup (tCons (tProp C_Profile (getSp C_Profile "column_heights") [] E0 (tVar 3)) (tCons (tProp C_Profile (getSp C_Profile "column_widths") [] E0 (tVar 3)) (tCons (tCB (cLenO C_Profile (spPLen K C_Profile) E0) (tCons (tVar 3) tNil)) tNil)))) (gName 2)))) (fun xa xcls xd => (tAsg (tTup (tCons (tC (.str "limit")) (tCons (tXf xa xcls xd C_LimitExceeded "limit" (tVar 4)) (tCons (tCB (rIsD K C_LimitExceeded xa xcls xd) (tCons (tVar 4) (tCons (tC (.ty "OverflowError")) tNil))) (tCons (tCB (rIsD K C_LimitExceeded xa xcls xd) (tCons (tVar 4) (tCons (tC (.ref C_RainError)) tNil))) tNil))))) (gName 2))) (fun _ _ _ _ => False))
    (tRet (tVar 2))))
def t__law_due (K : PySem.W.Frag) : TS :=
  (tSeq (tIfS (tTest (tOp oGt (tCB (cLen K) (tCons (tVar 0) tNil)) (tC (.int 60)))) (tRet (tTup (tCons (tC (.str "limit")) (tCons (tC (.int 60)) (tCons (tC (.bl true)) (tCons (tC (.bl false)) tNil)))))) tNext)
    (tRet (tTup (tCons (tCB (cTuple K) (tCons (tVar 0) tNil)) (tCons (tCB (cTuple K) (tCons (tVar 1) tNil)) (tCons (tCB (cLen K) (tCons (tVar 0) tNil)) tNil))))))
def t_law13b (K : PySem.W.Frag) (C_Profile : Addr) (C_LimitExceeded : Addr) (C_RainError : Addr) : TS :=
  (tSeq (tFor (iRng1 (tCons (tC (.int 2)) tNil)) (gName 9) (tSeq (tIfS (tTest (tOp (rNeD K) (tCall (spJoined K C_Profile C_LimitExceeded C_RainError) [] E0 (tCons (tVar 6) (tCons (tVar 7) tNil))) (tCall (spDueJ K) [] E0 (tCons (tOp rCat (tVar 2) (tVar 4)) (tCons (tOp rCat (tVar 3) (tVar 5)) tNil))))) (tRet (tC (.bl false))) tNext)
    (tSeq (tIfS (tTest (tOp (rNeD K) (tCall (spJoined K C_Profile C_LimitExceeded C_RainError) [] E0 (tCons (tVar 7) (tCons (tVar 6) tNil))) (tCall (spDueJ K) [] E0 (tCons (tOp rCat (tVar 4) (tVar 2)) (tCons (tOp rCat (tVar 5) (tVar 3)) tNil))))) (tRet (tC (.bl false))) tNext)
    (tIfS (tTest (tOp (rNeD K) (tCall (spJoined K C_Profile C_LimitExceeded C_RainError) [] E0 (tCons (tVar 6) (tCons (tVar 6) tNil))) (tCall (spDueJ K) [] E0 (tCons (tOp rCat (tVar 2) (tVar 2)) (tCons (tOp rCat (tVar 3) (tVar 3)) tNil))))) (tRet (tC (.bl false))) tNext))))
    (tSeq (tIfS (tTest (tOp (rNeD K) (tTup (tCons (tCB (cReprO C_Profile (spPRepr K C_Profile) E0) (tCons (tVar 6) tNil)) (tCons (tCB (cReprO C_Profile (spPRepr K C_Profile) E0) (tCons (tVar 7) tNil)) tNil))) (tVar 8))) (tRet (tC (.bl false))) tNext)
    (tSeq (tIfS (tTest (tOp oGt (tOp oAdd (tCB (cLen K) (tCons (tVar 2) tNil)) (tCB (cLen K) (tCons (tVar 4) tNil))) (tC (.int 60)))) (tRet (tC (.bl true))) tNext)
    (tRet (tOp (rOwnX K C_Profile (spPEqX K C_Profile) E0) (tOp (rAddO C_Profile (spPAddX K C_Profile C_LimitExceeded) E0) (tVar 6) (tVar 7)) (tMake C_Profile (spInit K C_Profile) [] E0 (tCons (tOp rCat (tVar 2) (tVar 4)) (tCons (tOp rCat (tVar 3) (tVar 5)) tNil))))))))
def t_law13 (K : PySem.W.Frag) (C_Profile : Addr) (C_LimitExceeded : Addr) (C_RainError : Addr) : TS :=
  (tSeq (tAsg (tCall (spDraws K) [] E0 (tCons (tVar 0) tNil)) (gName 1))
    (tSeq (tAsg (tCall (spHeights K) [] E0 (tCons (tVar 1) tNil)) (gName 2))
    (tSeq (tAsg (tCall (spWidths K) [] E0 (tCons (tVar 1) (tCons (tCB (cLen K) (tCons (tVar 2) tNil)) tNil))) (gName 3))
    (tSeq (tAsg (tCall (spHeights K) [] E0 (tCons (tVar 1) tNil)) (gName 4))
    (tSeq (tIfS (tTest (tOp rEq (tCall (spDraw K) [] E0 (tCons (tVar 1) (tCons (tC (.int 4)) tNil))) (tC (.int 3)))) (tSeq (tAsg (tLc (iRng1 (tCons (tOp oAdd (tOp oSub (tC (.int 60)) (tCB (cLen K) (tCons (tVar 2) tNil))) (tCall (spDraw K) [] E0 (tCons (tVar 1) (tCons (tC (.int 2)) tNil)))) tNil)) (gName 10) tYes (tOp (rIxL K) (tVar 2) (tC (.int 0))) [10]) (gName 4))
    (tAsg (tOp rCat (tVar 4) (tOp rRep (tLst (tCons (tOp (rIxL K) (tVar 2) (tUn (rU fun i => .int (-i)) (tC (.int 1)))) tNil)) (tCB cInt (tCons (tOp (rEqD K) (tVar 4) (tLst tNil)) tNil)))) (gName 4))) tNext)
    (tSeq (tAsg (tCall (spWidths K) [] E0 (tCons (tVar 1) (tCons (tCB (cLen K) (tCons (tVar 4) tNil)) tNil))) (gName 5))
    (tSeq (tAsg (tMake C_Profile (spInit K C_Profile) [] E0 (tCons (tVar 2) (tCons (tVar 3) tNil))) (gName 6))
    (tSeq (tAsg (tMake C_Profile (spInit K C_Profile) [] E0 (tCons (tVar 4) (tCons (tVar 5) tNil))) (gName 7))
    (tSeq (tAsg (tTup (tCons (tCB (cReprO C_Profile (spPRepr K C_Profile) E0) (tCons (tVar 6) tNil)) (tCons (tCB (cReprO C_Profile (spPRepr K C_Profile) E0) (tCons (tVar 7) tNil)) tNil))) (gName 8))
    (t_law13b K C_Profile C_LimitExceeded C_RainError))))))))))
local macro_rules | `(tactic| walk_at "rv st") => `(tactic| first
  | with_reducible refine iteT ?_ | with_reducible refine iteF ?_ | with_reducible refine w_nx ?_ | with_reducible refine w_yes ?_ | with_reducible refine w_rt ?_ | with_reducible refine iteNT ?_ | with_reducible refine iteNF ?_ | with_reducible refine iteNRf ?_ | with_reducible refine iteRf ?_ | with_reducible refine w_seqA ?_ | with_reducible refine w_seqD ?_ | with_reducible refine w_seqP ?_ | with_reducible refine w_asg ?_ | with_reducible refine w_ret ?_ | with_reducible refine w_drop ?_ | with_reducible refine w_ifs ?_ | with_reducible refine w_next ?_ | with_reducible refine w_par ?_
  | with_reducible refine w_op ?_ | with_reducible refine w_un ?_ | ((with_reducible show tVar _ _ _ _); refine' w_var ?hv ?_; (case hv => exact rfl)) | with_reducible refine w_c ?_ | with_reducible refine w_test ?_ | with_reducible refine w_tB ?_
  | with_reducible refine w_bl ?_ | with_reducible refine w_I0 ?_ | with_reducible refine w_U ?_ | with_reducible refine w_eqI ?_ | with_reducible refine w_neI ?_
  | with_reducible refine w_cons ?_ | with_reducible refine w_nil ?_ | with_reducible refine w_gn ?_ | with_reducible refine w_gsub ?_ | with_reducible refine w_and ?_ | with_reducible refine w_or ?_ | with_reducible refine w_not ?_
  | with_reducible refine w_andV ?_ | with_reducible refine w_orV ?_ | with_reducible refine w_notV ?_ | with_reducible refine w_if ?_ | with_reducible refine w_cb ?_ | with_reducible refine w_call ?_ | with_reducible refine w_lst ?_ | with_reducible refine w_tup ?_
  | with_reducible refine w_sl ?_ | with_reducible refine w_noPart ?_ | with_reducible refine w_part ?_ | with_reducible refine w_ex1 ?_ | with_reducible refine w_exb ?_ | with_reducible refine w_intB ?_ | with_reducible refine w_intI ?_ | with_reducible refine w_abs ?_)
local macro_rules | `(tactic| walk_at "rv ix") => `(tactic| ((with_reducible show rIxL _ _ _ _ _); refine' w_ixL (sq_lst ?ha) ?hb ?_; (case ha => first | exact upd_same | assumption); (case hb => first | exact rfl | assumption)))
local macro_rules | `(tactic| walk_at "rv ar") => `(tactic| first
  | (refine' w_I ?hc ?_; (case hc => first | (show (0 : Int) < _; first | assumption | decide | omega) | exact pow_c (by decide) (by decide) (by first | decide | omega) (by first | decide | omega) | exact mul_r (by first | decide | omega) (by first | decide | omega) | exact mul_l (by first | decide | omega) (by first | decide | omega) | exact divw (by first | assumption | decide | omega) (by first | assumption | decide | omega))))
local macro_rules | `(tactic| walk_at "rv go") => `(tactic| repeat first | walk_at "rv st" | walk_at "rv ix" | ((with_reducible show rI _ _ _ _ _ _); walk_at "rv ar"))
theorem p_limI {K : PySem.W.Frag} {C : Addr} {vs : List V} {H : Hp} {Q : VK} {E : XK} (h : spExc K C "OverflowError" "OverflowError.__new__" "OverflowError.__init__" bm_OverflowError "limit" vs H Q E) : t_LimitExceeded___init__ K C { nx := fun _ H' => Q .non H', rt := Q } (start ["self", "limit"] vs) H := p_exc "limit exceeded" h fun _ _ => rfl
theorem p_paddx {K : PySem.W.Frag} {C CL : Addr} {vs : List V} {H : Hp} {Q : VK} {E : XK} (h : spPAddX K C CL vs H Q E) : t_Profile___add__X K C CL E { nx := fun _ H' => Q .non H', rt := Q } (start ["self", "other"] vs) H := by
  obtain ⟨a, b, hs, ws, hs', ws', rfl, P, T, no, hpa, hpb, o, o', k1, k2⟩ := h
  obtain ⟨dx, t1, t2, ha, h1, h2⟩ := id hpa
  obtain ⟨dy, u1, u2, hb, g1, g2⟩ := id hpb
  have ol := o.le
  have ol' := o'.le
  unfold t_Profile___add__X
  refine w_seq ?_
  walk_at "rv go"
  refine isi_of (.own C) (.base (.ins hb P.cl P.cA P.cG P.cT P.cM)) kit_self ?_
  walk_at "rv go"
  refine w_seq ?_
  walk_at "rv go"
  refine ⟨a, dx, _, rfl, ha, a, hs, ws, rfl, P, hpa, _, rfl, ⟨by omega, Int.lt_of_le_of_lt (b := 60) (by omega) (by decide)⟩, ?_⟩
  walk_at "rv go"
  refine ⟨b, dy, _, rfl, hb, b, hs', ws', rfl, P, hpb, _, rfl, ⟨by omega, Int.lt_of_le_of_lt (b := 60) (by omega) (by decide)⟩, ?_⟩
  walk_at "rv go"
  refine w_both (fun z => ?_) (fun z => ?_)
  · skip
    refine w_raise ?_
    refine w_mkO ?_
    walk_at "rv go"
    exact exc_new T no fun d H' nd e hd => k2 (by omega) d H' nd e hd
  have l60 : hs.length + hs'.length ≤ 60 := by omega
  have oo := ok_app o o' l60
  walk_at "rv go"
  refine w_make ?_
  walk_at "rv go"
  refine w_fld rfl ha P.cl P.nH (pfl_h _ _) ?_
  refine w_fld rfl hb P.cl P.nH (pfl_h _ _) ?_
  refine cat_at h1 g1 (by rw [List.length_map, List.length_map]; omega) fun l1 H1 e1 hl1 => ?_
  walk_at "rv go"
  refine w_fld rfl (e1 _ _ ha) P.cl P.nW (pfl_w _ _) ?_
  refine w_fld rfl (e1 _ _ hb) P.cl P.nW (pfl_w _ _) ?_
  refine cat_at (e1 _ _ h2) (e1 _ _ g2) (by rw [List.length_map, List.length_map, o.eq, o'.eq]; omega) fun l2 H2 e2 hl2 => ?_
  have e12 := e1.trans e2
  rw [← List.map_append] at hl1 hl2
  walk_at "rv go"
  refine mk_profR (Q := fun x H' => Q (.ref x) H') (us := [.ref l1, .ref l2]) (dvs := []) rfl P (.inr (e2 _ _ hl1)) oo.pos oo.le oo.hh (.inr ⟨l2, rfl, .inr hl2, oo.eq, oo.ww⟩) fun q H3 nq e3 hq => ?_
  refine k1 l60 q H3 ?_ (e12.trans e3) hq
  cases z : H q with
  | none => rfl
  | some o =>
    rw [e12 _ _ z] at nq
    cases nq
theorem w_opS {σ : L2.St} {H : Hp} {Q : VK} {r : L2.St → R2} {ta tb : TE} (q : ta σ H fun x H1 => tb σ H1 fun y H2 => r σ x y H2 Q) : tOpS r ta tb σ H Q := q
theorem w_xf {σ : L2.St} {H : Hp} {Q : VK} {a C dd : Addr} {n : Nat} {f : Str} {fs : List (Str × V)} {v : V} (hn : σ[n]? = some (some (.ref a))) (hd : H dd = some (.xd fs)) (hl : fs.lookup f = some v) (q : Q v H) : tXf a (.ref C) (some dd) C f (tVar n) σ H Q := ⟨_, hn, rfl, rfl, dd, fs, v, rfl, hd, hl, q⟩
theorem w_isD {K : PySem.W.Frag} {H : Hp} {Q : VK} {D a dd : Addr} {fs : List (Str × V)} {c : V} {cv : Value} {b : Bool} (hc : ∀ u, RelV c u → u = cv) (hd : H dd = some (.xd fs)) (hk : PySem.W.kitOne K (.ref D) cv = some b) (q : Q (.bl b) H) : rIsD K D a (.ref D) (some dd) [.ref a, c] H Q := ⟨rfl, c, cv, b, dd, fs, rfl, hc, rfl, hd, hk, q⟩
theorem dp_dJ {K : PySem.W.Frag} {H : Hp} {r t1 t2 : Addr} {hs ws : List Int} (h : hs.length ≤ 60) (hr : H r = some (.tup [.ref t1, .ref t2, .int hs.length])) (h1 : H t1 = some (.tup (hs.map V.int))) (h2 : H t2 = some (.tup (ws.map V.int))) : Dp K H (.ref r) (dJ hs ws) := by
  unfold dJ
  rw [if_pos h]
  exact .tup (sq_tup hr) (.cons (.tup (sq_tup h1) (dp_ints hs)) (.cons (.tup (sq_tup h2) (dp_ints ws)) (.cons (.int _) .nil)))
theorem dp_dJx {K : PySem.W.Frag} {H : Hp} {r : Addr} {hs ws : List Int} (h : 60 < hs.length) (hr : H r = some (.tup [.str "limit", .int 60, .bl true, .bl false])) : Dp K H (.ref r) (dJ hs ws) := by
  unfold dJ
  rw [if_neg (by omega)]
  exact .tup (sq_tup hr) (.cons (.str _) (.cons (.int _) (.cons (.bl _) (.cons (.bl _) .nil))))
theorem p_joined {K : PySem.W.Frag} {CP CL CR : Addr} {vs : List V} {H : Hp} {Q : VK} {E : XK} (h : spJoined K CP CL CR vs H Q E) : t__law_joined K CP CL CR { nx := fun _ H' => Q .non H', rt := Q } (start ["_law_first", "_law_second", "_law_found", "_law_profile", "e"] vs) H := by
  obtain ⟨a, b, hs, ws, hs', ws', rfl, P, L, hpa, hpb, o, o', k⟩ := h
  unfold t__law_joined
  walk_at "rv go"
  refine ⟨szl (by show 0 ≤ 100000; omega), fun p0 n0 => ?_⟩
  have e0 : Same H (upd H p0 (.tup [])) := same_new (Same.refl H) n0
  generalize upd H p0 (.tup []) = H0 at e0 ⊢
  walk_at "rv go"
  refine w_seq ?_
  refine st_is [some (.ref a), some (.ref b), some (.ref p0), none, none] rfl ?_
  have hpa0 := hpa.same e0
  have hpb0 := hpb.same e0
  obtain ⟨dx, t1, t2, ha, h1, h2⟩ := id hpa0
  obtain ⟨dy, u1, u2, hb, g1, g2⟩ := id hpb0
  show tSeq (tAsg _ _) (tAsg _ _) _ _ _
  walk_at "rv go"
  refine w_opS ?_
  walk_at "rv go"
  refine ⟨a, dx, _, b, dy, _, rfl, ha, rfl, hb, a, b, hs, ws, hs', ws', rfl, P, L.ox, L.no, hpa0, hpb0, o, o', fun l60 p H1 np e1 hp => ?_, fun l60 d H1 nd e1 hd => ?_⟩
  · obtain ⟨dz, v1, v2, hpi, q1, q2⟩ := id hp
    walk_at "rv go"
    refine w_prop rfl hpi ?_
    refine ⟨p, dz, _, _, rfl, hpi, pfl_h _ _, ?_⟩
    walk_at "rv go"
    refine w_prop rfl hpi ?_
    refine ⟨p, dz, _, _, rfl, hpi, pfl_w _ _, ?_⟩
    walk_at "rv go"
    refine w_lenO hpi ?_
    have ll : (hs ++ hs').length ≤ 60 := by rw [List.length_append]; exact l60
    refine ⟨p, _, _, rfl, P, hp, _, rfl, ⟨by omega, Int.lt_of_le_of_lt (b := 60) (by omega) (by decide)⟩, ?_⟩
    walk_at "rv go"
    refine ⟨szl (by show 3 ≤ 100000; omega), fun r nr => ?_⟩
    walk_at "rv go"
    have e2 := same_new (o := .tup [.ref v1, .ref v2, .int ((hs ++ hs').length : Int)]) (Same.refl H1) nr
    exact k r _ ((e0.trans e1).trans e2) (dp_dJ ll upd_same (e2 _ _ q1) (e2 _ _ q2))
  · refine ⟨true, L.em, fun _ x nx => ?_, fun z => nomatch z⟩
    walk_at "rv go"
    refine w_xf rfl hd rfl ?_
    walk_at "rv go"
    refine w_isD (cv := .type "OverflowError") (fun u r => r) hd L.k1 ?_
    walk_at "rv go"
    refine w_isD (cv := .ref CR) (fun u r => r) hd L.k2 ?_
    walk_at "rv go"
    refine ⟨szl (by show 4 ≤ 100000; omega), fun r nr => ?_⟩
    walk_at "rv go"
    have e2 := same_new (o := .tup [.str "limit", .int 60, .bl true, .bl false]) (Same.refl H1) nr
    exact k r _ ((e0.trans e1).trans e2) (dp_dJx (by rw [List.length_append]; exact l60) upd_same)
theorem p_dueJ {K : PySem.W.Frag} {vs : List V} {H : Hp} {Q : VK} {E : XK} (h : spDueJ K vs H Q E) : t__law_due K { nx := fun _ H' => Q .non H', rt := Q } (start ["_law_heights_here", "_law_widths_here"] vs) H := by
  obtain ⟨a, b, hs, ws, rfl, ha, hb, l200, k⟩ := h
  unfold t__law_due
  refine w_seq ?_
  walk_at "rv go"
  refine w_lenL (sq_lst ha) ?_
  walk_at "rv go"
  rw [List.length_map]
  refine w_both (fun z => ?_) (fun z => ?_)
  · walk_at "rv go"
    refine ⟨szl (by show 4 ≤ 100000; omega), fun r nr => ?_⟩
    exact k r _ (same_new (Same.refl H) nr) (dp_dJx (by omega) upd_same)
  · walk_at "rv go"
    refine tup_call (.inl ha) fun q1 H1 e1 g1 => ?_
    walk_at "rv go"
    refine tup_call (.inl (e1 _ _ hb)) fun q2 H2 e2 g2 => ?_
    walk_at "rv go"
    refine w_lenL (sq_lst (e2 _ _ (e1 _ _ ha))) ?_
    rw [List.length_map]
    walk_at "rv go"
    refine ⟨szl (by show 3 ≤ 100000; omega), fun r nr => ?_⟩
    have e3 := same_new (o := .tup [.ref q1, .ref q2, .int (hs.length : Int)]) (Same.refl H2) nr
    exact k r _ ((e1.trans e2).trans e3) (dp_dJ (by omega) upd_same (e3 _ _ (e2 _ _ g1)) (e3 _ _ g2))
theorem sok_str (s : String) : PyData.strOk (Str.ofString s) = true := by
  unfold PyData.strOk Str.ofString
  rw [cpsOfBytes_string]
  simp only [List.all_toArray, List.all_map, List.all_eq_true, Function.comp, decide_eq_true_eq]
  intro c _
  have h := c.valid
  simp only [UInt32.isValidChar, Nat.isValidChar] at h
  show c.val.toNat < _
  omega
theorem sok_app {a b : Str} (h : PyData.strOk a = true) (g : PyData.strOk b = true) : PyData.strOk (a ++ b) = true := by
  unfold PyData.strOk at *
  show (a.cps ++ b.cps).all _ = true
  rw [Array.all_append, h, g]
  rfl
theorem sok_from : ∀ (ts : List Str) (k : Nat) (acc : Str), PyData.strOk acc = true → (∀ t ∈ ts, PyData.strOk t = true) → PyData.strOk (textFrom k acc ts) = true
  | [], _, _, h, _ => h
  | t :: r, k, acc, h, g => sok_from r (k + 1) _ (sok_app (sok_app h (sok_str _)) (g t List.mem_cons_self)) fun x hx => g x (List.mem_cons_of_mem _ hx)
theorem sok_all : ∀ zs : List Int, ∀ t ∈ PyData.shownAll (zs.map PyData.int), PyData.strOk t = true
  | [], t, h => by simp [PyData.shownAll] at h
  | z :: r, t, h => by
    simp only [List.map_cons, PyData.shownAll, PyData.shown] at h
    rcases List.mem_cons.mp h with rfl | h
    · exact sok_str _
    · exact sok_all r t h
theorem sok_ltext (zs : List Int) : PyData.strOk (ltext zs) = true := by
  unfold ltext
  simp only [PyData.shown]
  exact sok_app (sok_from _ _ _ (sok_str _) (sok_all zs)) (sok_str _)
theorem ptext_ok (hs ws : List Int) : PyData.strOk (ptext hs ws) = true := sok_app (sok_app (sok_app (sok_app (sok_str _) (sok_ltext hs)) (sok_str _)) (sok_ltext ws)) (sok_str _)
theorem sql_same {K : PySem.W.Frag} {H H' : Hp} {a : Addr} {xs : List V} (h : SqL K H a xs) (e : Same H H') : SqL K H' a xs := by
  rcases h with (h | ⟨o, h⟩) | h
  · exact .inl (.inl (e _ _ h))
  · exact .inl (.inr ⟨o, e _ _ h⟩)
  · exact .inr h
mutual
theorem dp_same {K : PySem.W.Frag} {H H' : Hp} (e : Same H H') : ∀ (d : PyData) (v : V), Dp K H v d → Dp K H' v d
  | .none, _, h => by cases h; exact .non
  | .bool b, _, h => by cases h; exact .bl b
  | .int i, _, h => by cases h; exact .int i
  | .str x, _, h => by cases h; exact .str x
  | .list ds, _, h => by
    cases h with
    | lst h1 h2 => exact .lst (sql_same h1 e) (dp_sameA e ds _ h2)
  | .tuple ds, _, h => by
    cases h with
    | tup h1 h2 => exact .tup (sqT_same0 h1 e) (dp_sameA e ds _ h2)
  | .dict _, _, h => by cases h
theorem dp_sameA {K : PySem.W.Frag} {H H' : Hp} (e : Same H H') : ∀ (ds : List PyData) (vs : List V), DpAll K H vs ds → DpAll K H' vs ds
  | [], _, h => by cases h; exact .nil
  | d :: r, _, h => by
    cases h with
    | cons h1 h2 => exact .cons (dp_same e d _ h1) (dp_sameA e r _ h2)
end
theorem neD_same {K : PySem.W.Frag} {H : Hp} {Q : VK} {x y : V} {d : PyData} (h1 : Dp K H x d) (h2 : Dp K H y d) (s : SeqAt.shaped d = true) (q : Q (.bl false) H) : rNeD K x y H Q := by
  refine ⟨d, d, h1, h2, s, s, ?_⟩
  rw [SeqAt.eqv_refl _ (SeqAt.canLay_of_shaped s)]
  exact q
theorem w_catI {H : Hp} {Q : VK} {a b : Addr} {xs ys : List Int} (h1 : H a = some (.lst (xs.map V.int))) (h2 : H b = some (.lst (ys.map V.int))) (hz : xs.length + ys.length ≤ 100000) (k : ∀ l H', H l = none → Same H H' → H' l = some (.lst ((xs ++ ys).map V.int)) → Q (.ref l) H') : rCat (.ref a) (.ref b) H Q := by
  refine ⟨a, b, _, _, rfl, rfl, h1, h2, szl (by rw [List.length_map, List.length_map]; exact hz), fun p np => ?_⟩
  rw [← List.map_append]
  exact k p _ np (same_new (Same.refl H) np) upd_same
theorem join_mid {K : PySem.W.Frag} {CP CL CR : Addr} {H : Hp} {Q : VK} {σ : L2.St} {n m n' m' : Nat} {p q ha hw hb hv : Addr} {hs ws hs' ws' : List Int} (P : PCls K CP) (L : LxC K CL CR) (hp : ProfAt K CP H p hs ws) (hq : ProfAt K CP H q hs' ws') (ok : PrOk hs ws) (ok' : PrOk hs' ws')
    (hha : H ha = some (.lst (hs.map V.int))) (hhw : H hw = some (.lst (ws.map V.int))) (hhb : H hb = some (.lst (hs'.map V.int))) (hhv : H hv = some (.lst (ws'.map V.int)))
    (s3 : σ[n]? = some (some (.ref ha))) (s4 : σ[n']? = some (some (.ref hb))) (s5 : σ[m]? = some (some (.ref hw))) (s6 : σ[m']? = some (some (.ref hv))) (k : ∀ H', Same H H' → Q (.bl false) H') :
    spJoined K CP CL CR ([.ref p, .ref q] ++ []) H (fun x H1 => tCall (spDueJ K) [] E0 (tCons (tOp rCat (tVar n) (tVar n')) (tCons (tOp rCat (tVar m) (tVar m')) tNil)) σ H1 fun y H2 => rNeD K x y H2 Q) E0 := by
  have l1 := ok.le
  have l2 := ok'.le
  have w1 := ok.eq
  have w2 := ok'.eq
  refine ⟨p, q, hs, ws, hs', ws', rfl, P, L, hp, hq, ok, ok', fun r H1 e1 d1 => ?_⟩
  refine w_call ?_
  refine w_cons ?_
  refine w_op ?_
  refine w_var s3 ?_
  refine w_var s4 ?_
  refine w_catI (e1 _ _ hha) (e1 _ _ hhb) (by omega) fun x H2 nx e2 hx => ?_
  refine w_cons ?_
  refine w_op ?_
  refine w_var s5 ?_
  refine w_var s6 ?_
  refine w_catI (e2 _ _ (e1 _ _ hhw)) (e2 _ _ (e1 _ _ hhv)) (by omega) fun y H3 ny e3 hy => ?_
  refine w_nil ?_
  refine ⟨x, y, hs ++ hs', ws ++ ws', rfl, e3 _ _ hx, hy, by rw [List.length_append]; omega, fun r2 H4 e4 d2 => ?_⟩
  exact neD_same (dp_same ((e2.trans e3).trans e4) _ _ d1) d2 (sh_dJ _ _) (k _ (((e1.trans e2).trans e3).trans e4))
/-- one turn: what is told is what is due -/
theorem join_step {K : PySem.W.Frag} {CP CL CR : Addr} {H : Hp} {Q : VK} {σ : L2.St} {i j n m n' m' : Nat} {p q ha hw hb hv : Addr} {hs ws hs' ws' : List Int} (P : PCls K CP) (L : LxC K CL CR) (hp : ProfAt K CP H p hs ws) (hq : ProfAt K CP H q hs' ws') (ok : PrOk hs ws) (ok' : PrOk hs' ws')
    (hha : H ha = some (.lst (hs.map V.int))) (hhw : H hw = some (.lst (ws.map V.int))) (hhb : H hb = some (.lst (hs'.map V.int))) (hhv : H hv = some (.lst (ws'.map V.int)))
    (s1 : σ[i]? = some (some (.ref p))) (s2 : σ[j]? = some (some (.ref q))) (s3 : σ[n]? = some (some (.ref ha))) (s4 : σ[n']? = some (some (.ref hb))) (s5 : σ[m]? = some (some (.ref hw))) (s6 : σ[m']? = some (some (.ref hv))) (k : ∀ H', Same H H' → Q (.bl false) H') :
    tOp (rNeD K) (tCall (spJoined K CP CL CR) [] E0 (tCons (tVar i) (tCons (tVar j) tNil))) (tCall (spDueJ K) [] E0 (tCons (tOp rCat (tVar n) (tVar n')) (tCons (tOp rCat (tVar m) (tVar m')) tNil))) σ H Q := by
  refine w_op ?_
  refine w_call ?_
  refine w_cons ?_
  refine w_var s1 ?_
  refine w_cons ?_
  refine w_var s2 ?_
  refine w_nil ?_
  exact join_mid P L hp hq ok ok' hha hhw hhb hhv s3 s4 s5 s6 k
theorem p_law13b {K : PySem.W.Frag} {CP CL CR : Addr} {Q : VK} {H : Hp} {a d p q ha hw hb hv kp : Addr} {hs ws hs' ws' : List Int} {x0 x1 : Option V} (P : PCls K CP) (L : LxC K CL CR) (hp : ProfAt K CP H p hs ws) (hq : ProfAt K CP H q hs' ws') (ok : PrOk hs ws) (ok' : PrOk hs' ws')
    (hha : H ha = some (.lst (hs.map V.int))) (hhw : H hw = some (.lst (ws.map V.int))) (hhb : H hb = some (.lst (hs'.map V.int))) (hhv : H hv = some (.lst (ws'.map V.int))) (hk : H kp = some (.tup [.str (ptext hs ws), .str (ptext hs' ws')])) (k : ∀ H', Q (.bl true) H') :
    t_law13b K CP CL CR { nx := fun _ H' => Q .non H', rt := Q } [some (.ref a), some (.ref d), some (.ref ha), some (.ref hw), some (.ref hb), some (.ref hv), some (.ref p), some (.ref q), some (.ref kp), x0, x1] H := by
  have l1 := ok.le
  have l2 := ok'.le
  have sh := small_h ok.hh ok.le
  have sw := small_w ok.ww (by rw [ok.eq]; exact ok.le)
  have sh' := small_h ok'.hh ok'.le
  have sw' := small_w ok'.ww (by rw [ok'.eq]; exact ok'.le)
  unfold t_law13b
  refine w_seq ?_
  refine w_forR (n := 2) (by decide) (fun AQ q => by walk_at "rv go"; exact q) (fun i σ' H' => Same H H' ∧ ∃ x0, σ' = [some (.ref a), some (.ref d), some (.ref ha), some (.ref hw), some (.ref hb), some (.ref hv), some (.ref p), some (.ref q), some (.ref kp), x0, x1]) ⟨Same.refl H, x0, rfl⟩ ?_ ?_
  · rintro i σ' H1 _ ⟨e1, y0, rfl⟩
    refine st_is [some (.ref a), some (.ref d), some (.ref ha), some (.ref hw), some (.ref hb), some (.ref hv), some (.ref p), some (.ref q), some (.ref kp), some (.int i), x1] rfl ?_
    refine w_seq ?_
    refine w_ifs ?_
    refine w_test ?_
    refine join_step P L (hp.same e1) (hq.same e1) ok ok' (e1 _ _ hha) (e1 _ _ hhw) (e1 _ _ hhb) (e1 _ _ hhv) rfl rfl rfl rfl rfl rfl fun H2 e2 => ?_
    have e12 := e1.trans e2
    walk_at "rv go"
    refine w_seq ?_
    refine w_ifs ?_
    refine w_test ?_
    refine join_step P L (hq.same e12) (hp.same e12) ok' ok (e12 _ _ hhb) (e12 _ _ hhv) (e12 _ _ hha) (e12 _ _ hhw) rfl rfl rfl rfl rfl rfl fun H3 e3 => ?_
    have e13 := e12.trans e3
    walk_at "rv go"
    refine join_mid P L (hp.same e13) (hp.same e13) ok ok (e13 _ _ hha) (e13 _ _ hhw) (e13 _ _ hha) (e13 _ _ hhw) rfl rfl rfl rfl fun H4 e4 => ?_
    walk_at "rv go"
    exact ⟨e13.trans e4, _, rfl⟩
  rintro σ' H1 ⟨e1, y0, rfl⟩
  have hp1 := hp.same e1
  have hq1 := hq.same e1
  obtain ⟨dx, t1, t2, hpi, _, _⟩ := id hp1
  refine w_nx ?_
  refine w_seq ?_
  walk_at "rv go"
  refine ⟨p, dx, _, rfl, hpi, p, hs, ws, rfl, P, hp1, sh, sw, fun H2 e2 => ⟨_, rfl, ?_⟩⟩
  have hq2 := hq1.same e2
  obtain ⟨dy, u1, u2, hqi, _, _⟩ := id hq2
  walk_at "rv go"
  refine ⟨q, dy, _, rfl, hqi, q, hs', ws', rfl, P, hq2, sh', sw', fun H3 e3 => ⟨_, rfl, ?_⟩⟩
  walk_at "rv go"
  refine ⟨szl (by show 2 ≤ 100000; omega), fun r nr => ?_⟩
  have e4 := same_new (o := .tup [.str (ptext hs ws), .str (ptext hs' ws')]) (Same.refl H3) nr
  have hr4 : (upd H3 r (.tup [.str (ptext hs ws), .str (ptext hs' ws')])) r = some (.tup [.str (ptext hs ws), .str (ptext hs' ws')]) := upd_same
  generalize upd H3 r (.tup [.str (ptext hs ws), .str (ptext hs' ws')]) = H4 at e4 hr4 ⊢
  have e14 := (((e1.trans e2).trans e3).trans e4)
  walk_at "rv go"
  refine neD_same (d := .tuple [.str (ptext hs ws), .str (ptext hs' ws')]) (.tup (sq_tup hr4) (.cons (.str _) (.cons (.str _) .nil))) (.tup (sq_tup (e14 _ _ hk)) (.cons (.str _) (.cons (.str _) .nil))) ?_ ?_
  · have g1 := ptext_ok hs ws
    have g2 := ptext_ok hs' ws'
    simp [SeqAt.shaped, PyData.canLay0, PyData.canLayAll0, PyData.depth, PyData.depthAll, g1, g2]
  walk_at "rv go"
  refine w_seq ?_
  walk_at "rv go"
  refine w_lenL (sq_lst (e14 _ _ hha)) ?_
  walk_at "rv go"
  refine w_lenL (sq_lst (e14 _ _ hhb)) ?_
  walk_at "rv go"
  rw [List.length_map, List.length_map]
  refine w_both (fun z => ?_) (fun z => ?_)
  · walk_at "rv go"
    exact k _
  have l60 : hs.length + hs'.length ≤ 60 := by omega
  have oo := ok_app ok ok' l60
  have hp4 := hp.same e14
  have hq4 := hq.same e14
  obtain ⟨dz, v1, v2, hpz, _, _⟩ := id hp4
  obtain ⟨dw, v3, v4, hqz, _, _⟩ := id hq4
  walk_at "rv go"
  refine ⟨p, dz, _, q, dw, _, rfl, hpz, rfl, hqz, p, q, hs, ws, hs', ws', rfl, P, L.ox, L.no, hp4, hq4, ok, ok', fun _ r5 H5 n5 e5 hr5 => ?_, fun z => absurd z (by omega)⟩
  have e15 := e14.trans e5
  walk_at "rv go"
  refine w_make ?_
  walk_at "rv go"
  refine w_catI (e15 _ _ hha) (e15 _ _ hhb) (by omega) fun x H6 nx e6 hx => ?_
  walk_at "rv go"
  have e16 := e15.trans e6
  refine w_catI (e16 _ _ hhw) (e16 _ _ hhv) (by rw [ok.eq, ok'.eq]; omega) fun y H7 ny e7 hy => ?_
  walk_at "rv go"
  refine mk_profR (us := [.ref x, .ref y]) (dvs := []) rfl P (.inl (e7 _ _ hx)) oo.pos oo.le oo.hh (.inr ⟨y, rfl, .inl hy, oo.eq, oo.ww⟩) fun z H8 nz e8 hz => ?_
  refine w_xeq P (((hr5.same e6).same e7).same e8) hz ?_
  rw [decide_eq_true rfl, decide_eq_true rfl]
  exact k _
theorem p_law13 {K : PySem.W.Frag} {CP CL CR : Addr} {vs : List V} {H : Hp} {Q : VK} {E : XK} (h : spLaw13 K CP CL CR vs H Q E) : t_law13 K CP CL CR { nx := fun _ H' => Q .non H', rt := Q } (start ["_law_script", "_law_draws_here", "_law_heights_here", "_law_widths_here", "_law_others", "_law_other_widths", "_law_first", "_law_second", "_law_kept", "_law_turn", "_law_k"] vs) H := by
  obtain ⟨a, ns, rfl, hS, P, L, k⟩ := h
  unfold t_law13
  walk_at "rv go"
  refine ⟨a, ns, rfl, hS, fun d c H1 nd nc e1 D1 => ?_⟩
  walk_at "rv go"
  refine ⟨d, c, rfl, D1, fun ha H2 hs l1' l60 hok b2 D2 nha hh => ?_⟩
  have had : ha ≠ d := D1.nd nha
  walk_at "rv go"
  refine w_lenL (sq_lst hh) ?_
  walk_at "rv go"
  refine ⟨d, c, hs.length, ?_⟩
  rw [List.length_map]
  refine ⟨rfl, l60, D2, fun hw H3 ws hlw wok b3 D3 nhw hhw => ?_⟩
  have hwd : hw ≠ d := D2.nd nhw
  have hh3 := b3 _ _ had hh
  have ok : PrOk hs ws := ⟨l1', l60, hlw, hok, wok⟩
  walk_at "rv go"
  refine ⟨d, c, rfl, D3, fun hb H4 hs' m1 m60 hok' b4 D4 nhb hhb => ?_⟩
  have hbd : hb ≠ d := D3.nd nhb
  have hh4 := b4 _ _ had hh3
  have hw4 := b4 _ _ hwd hhw
  walk_at "rv go"
  refine st_is [some (.ref a), some (.ref d), some (.ref ha), some (.ref hw), some (.ref hb), none, none, none, none, none, none] rfl ?_
  refine w_cut (fun σ' H' => ∃ (hb : Addr) (hs' : List Int), σ' = [some (.ref a), some (.ref d), some (.ref ha), some (.ref hw), some (.ref hb), none, none, none, none, none, none] ∧ 1 ≤ hs'.length ∧ hs'.length ≤ 60 ∧ (∀ z ∈ hs', HOk1 z) ∧ H' hb = some (.lst (hs'.map V.int)) ∧ H' ha = some (.lst (hs.map V.int)) ∧ H' hw = some (.lst (ws.map V.int)) ∧ DrawsAt H' d c ∧ hb ≠ d) (fun N hX => ?_) ?_
  · walk_at "rv go"
    refine draw_call D4 (by decide) (by decide) fun r H5 ra rb b5 D5 => ?_
    have hh5 := b5 _ _ had hh4
    have hw5 := b5 _ _ hwd hw4
    have hb5 := b5 _ _ hbd hhb
    walk_at "rv go"
    refine w_both (fun _ => ?_) (fun _ => ?_)
    · refine w_seqA (s2 := tAsg _ _) ?_
      refine w_lcRn ?_
      walk_at "rv go"
      refine w_lenL (sq_lst hh5) ?_
      walk_at "rv go"
      rw [List.length_map]
      refine draw_call D5 (by decide) (by decide) fun t H6 ta tb b6 D6 => ?_
      walk_at "rv go"
      refine ⟨_, rfl, by omega, by omega, ?_⟩
      have hh6 := b6 _ _ had hh5
      have hw6 := b6 _ _ hwd hw5
      obtain ⟨n, hn⟩ : ∃ n : Nat, n = (60 - (hs.length : Int) + t).toNat := ⟨_, rfl⟩
      rw [← hn]
      refine w_lcGi (g := fun _ => hN hs 0) (n := n) (by omega) (fun j hj H7 Q7 e7 q7 => ?_) fun l H7 nl e7 hl => ?_
      · walk_at "rv go"
        refine w_ixL (sq_lst (e7 _ _ hh6)) (at_hN (hs := hs) (i := 0) (by omega)) ?_
        exact q7 H7 (Same.refl _)
      have ez : (List.range n).map (fun _ => hN hs 0) = List.replicate n (hN hs 0) := by
        rw [List.map_const', List.length_range]
      rw [ez] at hl
      refine w_gn ?_
      refine st_is [some (.ref a), some (.ref d), some (.ref ha), some (.ref hw), some (.ref l), none, none, none, none, none, none] rfl ?_
      have hh7 := e7 _ _ hh6
      have hw7 := e7 _ _ hw6
      have D7 := D6.new e7
      have hld : l ≠ d := D6.nd nl
      walk_at "rv go"
      refine w_ixL (sq_lst hh7) (show atI (hs.map V.int) (-1) = some (.int (hN hs (hs.length - 1))) from ?_) ?_
      · have e := at_hN (hs := hs) (i := hs.length - 1) (by omega)
        unfold atI at e ⊢
        rw [List.length_map] at e ⊢
        have e1 : ixN hs.length (-1) = ixN hs.length ((hs.length - 1 : Nat) : Int) := by
          unfold ixN
          rw [if_neg (by decide), if_pos (by omega), if_pos (by omega), if_pos (by omega)]
          congr 1
          omega
        rw [e1]
        exact e
      walk_at "rv go"
      refine ⟨szl (by show 1 ≤ 100000; omega), fun x nx => ?_⟩
      have e8 := same_new (o := .lst [.int (hN hs (hs.length - 1))]) (Same.refl H7) nx
      have hx8 : (upd H7 x (.lst [.int (hN hs (hs.length - 1))])) x = some (.lst ([hN hs (hs.length - 1)].map V.int)) := upd_same
      generalize upd H7 x (.lst [.int (hN hs (hs.length - 1))]) = H8 at e8 hx8 ⊢
      walk_at "rv go"
      refine ⟨szl (by show 0 ≤ 100000; omega), fun y ny => ?_⟩
      have e9 := same_new (o := .lst []) (Same.refl H8) ny
      have hy9 : (upd H8 y (.lst [])) y = some (.lst (([] : List Int).map V.int)) := upd_same
      generalize upd H8 y (.lst []) = H9 at e9 hy9 ⊢
      have e79 := e8.trans e9
      refine eqD_L (e79 _ _ hl) hy9 ?_
      walk_at "rv go"
      refine ⟨x, _, _, rfl, rfl, e9 _ _ hx8, ?_, ?_, ?_, fun z nz => ?_⟩
      · split <;> omega
      · split <;> omega
      · rw [List.length_map]
        split
        · show 1 * 1 ≤ sizeLine; decide
        · show 1 * 0 ≤ sizeLine; decide
      obtain ⟨m, hm⟩ : ∃ m : List Int, (List.replicate (if decide (List.replicate n (hN hs 0) = []) = true then (1 : Int) else 0).toNat ([hN hs (hs.length - 1)].map V.int)).flatten = m.map V.int ∧ m = (if n = 0 then [hN hs (hs.length - 1)] else []) := by
        cases n with
        | zero => exact ⟨[hN hs (hs.length - 1)], rfl, rfl⟩
        | succ n => exact ⟨[], rfl, rfl⟩
      rw [hm.1]
      have e10 := same_new (o := .lst (m.map V.int)) (Same.refl H9) nz
      have hz10 : (upd H9 z (.lst (m.map V.int))) z = some (.lst (m.map V.int)) := upd_same
      generalize upd H9 z (.lst (m.map V.int)) = H10 at e10 hz10 ⊢
      have e710 := e79.trans e10
      have ml : m.length ≤ 1 := by
        rw [hm.2]
        split <;> simp
      walk_at "rv go"
      refine w_catI (e710 _ _ hl) hz10 (by rw [List.length_replicate]; omega) fun w H11 nw e11 hw11 => ?_
      have e711 := e710.trans e11
      refine w_gn ?_
      refine hX _ _ ⟨w, _, rfl, ?_, ?_, fun v hv => ?_, hw11, e711 _ _ hh7, e711 _ _ hw7, D7.new e711, (D7.new e710).nd nw⟩
      · rw [List.length_append, List.length_replicate, hm.2]
        split
        · show 1 ≤ n + 1; omega
        · omega
      · rw [List.length_append, List.length_replicate, hm.2]
        split
        · show n + 1 ≤ 60; omega
        · show n + 0 ≤ 60; omega
      · rcases List.mem_append.mp hv with g | g
        · rw [List.eq_of_mem_replicate g]
          exact hok _ (hN_mem (by omega))
        · rw [hm.2] at g
          split at g
          · rw [List.mem_singleton.mp g]
            exact hok _ (hN_mem (by omega))
          · cases g
    · walk_at "rv go"
      exact hX _ _ ⟨hb, hs', rfl, m1, m60, hok', hb5, hh5, hw5, D5, hbd⟩
  clear hhb hbd hok' m60 m1 nhb
  rintro _ H5 ⟨hb, hs', rfl, m1, m60, hok', hhb, hh5, hw5, D5, hbd⟩
  walk_at "rv go"
  refine w_lenL (sq_lst hhb) ?_
  walk_at "rv go"
  refine ⟨d, c, hs'.length, ?_⟩
  rw [List.length_map]
  refine ⟨rfl, m60, D5, fun hv H6 ws' mlw wok' b6 D6 nhv hhv => ?_⟩
  have ok' : PrOk hs' ws' := ⟨m1, m60, mlw, hok', wok'⟩
  have hh6 := b6 _ _ had hh5
  have hw6 := b6 _ _ hwd hw5
  have hb6 := b6 _ _ hbd hhb
  have sh := small_h ok.hh ok.le
  have sw := small_w ok.ww (by rw [ok.eq]; exact ok.le)
  have sh' := small_h ok'.hh ok'.le
  have sw' := small_w ok'.ww (by rw [ok'.eq]; exact ok'.le)
  walk_at "rv go"
  refine w_make ?_
  walk_at "rv go"
  refine mk_profR (us := [.ref ha, .ref hw]) (dvs := []) rfl P (.inl hh6) ok.pos ok.le ok.hh (.inr ⟨hw, rfl, .inl hw6, ok.eq, ok.ww⟩) fun p H7 np e7 hp => ?_
  walk_at "rv go"
  refine w_make ?_
  walk_at "rv go"
  refine mk_profR (us := [.ref hb, .ref hv]) (dvs := []) rfl P (.inl (e7 _ _ hb6)) ok'.pos ok'.le ok'.hh (.inr ⟨hv, rfl, .inl (e7 _ _ hhv), ok'.eq, ok'.ww⟩) fun q H8 nq e8 hq => ?_
  have hp8 := hp.same e8
  obtain ⟨dx, t1, t2, hpi, _, _⟩ := id hp8
  walk_at "rv go"
  refine ⟨p, dx, _, rfl, hpi, p, hs, ws, rfl, P, hp8, sh, sw, fun H9 e9 => ⟨_, rfl, ?_⟩⟩
  have hq9 := hq.same e9
  obtain ⟨dy, u1, u2, hqi, _, _⟩ := id hq9
  walk_at "rv go"
  refine ⟨q, dy, _, rfl, hqi, q, hs', ws', rfl, P, hq9, sh', sw', fun H10 e10 => ⟨_, rfl, ?_⟩⟩
  walk_at "rv go"
  refine ⟨szl (by show 2 ≤ 100000; omega), fun r nr => ?_⟩
  have e11 := same_new (o := .tup [.str (ptext hs ws), .str (ptext hs' ws')]) (Same.refl H10) nr
  have e6 := (((e7.trans e8).trans e9).trans e10).trans e11
  have e8b := (e9.trans e10).trans e11
  walk_at "rv go"
  refine st_is [some (.ref a), some (.ref d), some (.ref ha), some (.ref hw), some (.ref hb), some (.ref hv), some (.ref p), some (.ref q), some (.ref r), none, none] rfl ?_
  exact p_law13b P L (hp8.same e8b) (hq.same e8b) ok ok' (e6 _ _ hh6) (e6 _ _ hw6) (e6 _ _ hb6) (e6 _ _ hhv) upd_same k
end Rv
namespace Rv
open PySem PySem.Spec PyProof.Rows L2
local macro_rules | `(tactic| walk_at "rv st") => `(tactic| first
  | with_reducible refine iteT ?_ | with_reducible refine iteF ?_ | with_reducible refine w_nx ?_ | with_reducible refine w_yes ?_ | with_reducible refine w_rt ?_ | with_reducible refine iteNT ?_ | with_reducible refine iteNF ?_ | with_reducible refine iteNRf ?_ | with_reducible refine iteRf ?_ | with_reducible refine w_seqA ?_ | with_reducible refine w_seqD ?_ | with_reducible refine w_seqP ?_ | with_reducible refine w_asg ?_ | with_reducible refine w_ret ?_ | with_reducible refine w_drop ?_ | with_reducible refine w_ifs ?_ | with_reducible refine w_next ?_ | with_reducible refine w_par ?_
  | with_reducible refine w_op ?_ | with_reducible refine w_un ?_ | ((with_reducible show tVar _ _ _ _); refine' w_var ?hv ?_; (case hv => exact rfl)) | with_reducible refine w_c ?_ | with_reducible refine w_test ?_ | with_reducible refine w_tB ?_
  | with_reducible refine w_bl ?_ | with_reducible refine w_I0 ?_ | with_reducible refine w_U ?_ | with_reducible refine w_eqI ?_ | with_reducible refine w_neI ?_
  | with_reducible refine w_cons ?_ | with_reducible refine w_nil ?_ | with_reducible refine w_gn ?_ | with_reducible refine w_gsub ?_ | with_reducible refine w_and ?_ | with_reducible refine w_or ?_ | with_reducible refine w_not ?_
  | with_reducible refine w_andV ?_ | with_reducible refine w_orV ?_ | with_reducible refine w_notV ?_ | with_reducible refine w_if ?_ | with_reducible refine w_cb ?_ | with_reducible refine w_call ?_ | with_reducible refine w_lst ?_ | with_reducible refine w_tup ?_
  | with_reducible refine w_sl ?_ | with_reducible refine w_noPart ?_ | with_reducible refine w_part ?_ | with_reducible refine w_ex1 ?_ | with_reducible refine w_exb ?_ | with_reducible refine w_intB ?_ | with_reducible refine w_intI ?_ | with_reducible refine w_abs ?_)
local macro_rules | `(tactic| walk_at "rv ix") => `(tactic| ((with_reducible show rIxL _ _ _ _ _); refine' w_ixL (sq_lst ?ha) ?hb ?_; (case ha => first | exact upd_same | assumption); (case hb => first | exact rfl | assumption)))
local macro_rules | `(tactic| walk_at "rv ar") => `(tactic| first
  | (refine' w_I ?hc ?_; (case hc => first | (show (0 : Int) < _; first | assumption | decide | omega) | exact pow_c (by decide) (by decide) (by first | decide | omega) (by first | decide | omega) | exact mul_r (by first | decide | omega) (by first | decide | omega) | exact mul_l (by first | decide | omega) (by first | decide | omega) | exact divw (by first | assumption | decide | omega) (by first | assumption | decide | omega))))
local macro_rules | `(tactic| walk_at "rv go") => `(tactic| repeat first | walk_at "rv st" | walk_at "rv ix" | ((with_reducible show rI _ _ _ _ _ _); walk_at "rv ar"))
theorem roomH_any {k : Nat} {A A' : Around} (r : Room k A) (hd : A'.depth = A.depth := by rfl) (hu : A'.units = A.units := by rfl) : L2H.RoomH k A' := ⟨by rw [hd]; exact r.dp, by rw [hu]; exact r.un⟩
/-- the text of a fraction's repr -/
def rtext (t b : Int) : Str := ((((("Ratio(" : Str) ++ (toString t : String)) ++ (", " : Str)) ++ (toString b : String)) ++ (")" : Str))
theorem rtext_ok (t b : Int) : PyData.strOk (rtext t b) = true := sok_app (sok_app (sok_app (sok_app (sok_str _) (sok_str _)) (sok_str _)) (sok_str _)) (sok_str _)
/-- what is told of the class Ratio beside RCls -/
def RKi (K : PySem.W.Frag) (C : Addr) : Prop := PySem.W.kitOne K (.ref C) (.type "int") = some false
/-- a value that the law hands in, and its repr's text -/
inductive Odd (C : Addr) (H : Hp) : V → Str → Prop where
  | non : Odd C H .non (PyData.none).shown
  | bl (b : Bool) : Odd C H (.bl b) (PyData.bool b).shown
  | int (i : Int) (h : i.natAbs < 10 ^ 40) : Odd C H (.int i) (PyData.int i).shown
  | str (x : Str) (h1 : PyData.strOk (reprText x) = true) (h2 : (reprText x).length ≤ 1000) : Odd C H (.str x) (PyData.str x).shown
  | tup {a : Addr} (zs : List Int) (h : H a = some (.tup (zs.map V.int))) (hl : zs.length ≤ 1) (hz : ∀ z ∈ zs, z.natAbs < 10 ^ 32) (h1 : PyData.strOk (PyData.tuple (zs.map PyData.int)).shown = true) (h2 : (PyData.tuple (zs.map PyData.int)).shown.length ≤ 1000) : Odd C H (.ref a) (PyData.tuple (zs.map PyData.int)).shown
  | lst {a : Addr} (zs : List Int) (h : H a = some (.lst (zs.map V.int))) (hl : zs.length ≤ 1) (hz : ∀ z ∈ zs, z.natAbs < 10 ^ 32) (h1 : PyData.strOk (PyData.list (zs.map PyData.int)).shown = true) (h2 : (PyData.list (zs.map PyData.int)).shown.length ≤ 1000) : Odd C H (.ref a) (PyData.list (zs.map PyData.int)).shown
  | rat {a : Addr} (t b : Int) (h : RatAt C H a t b) (ht : t.natAbs < 10 ^ 40) (hb : b.natAbs < 10 ^ 40) : Odd C H (.ref a) (rtext t b)
theorem Odd.same {C : Addr} {H H' : Hp} {v : V} {y : Str} (o : Odd C H v y) (e : Same H H') : Odd C H' v y := by
  cases o with
  | non => exact .non
  | bl b => exact .bl b
  | int i h => exact .int i h
  | str x h1 h2 => exact .str x h1 h2
  | tup zs h hl hz h1 h2 => exact .tup zs (e _ _ h) hl hz h1 h2
  | lst zs h hl hz h1 h2 => exact .lst zs (e _ _ h) hl hz h1 h2
  | rat t b h ht hb => exact .rat t b (h.same e) ht hb
theorem Odd.but {C : Addr} {H H' : Hp} {v : V} {y : Str} {d c : Addr} (o : Odd C H v y) (D : DrawsAt H d c) (e : But d H H') : Odd C H' v y := by
  obtain ⟨ns, pos, num, seed, q, _⟩ := D
  cases o with
  | non => exact .non
  | bl b => exact .bl b
  | int i h => exact .int i h
  | str x h1 h2 => exact .str x h1 h2
  | tup zs h hl hz h1 h2 => exact .tup zs (e _ _ (fun z => by rw [z, q] at h; cases h) h) hl hz h1 h2
  | lst zs h hl hz h1 h2 =>
    refine .lst zs (e _ _ (fun z => ?_) h) hl hz h1 h2
    rw [z, q] at h
    have g := congrArg List.length (HO.lst.inj (Option.some.inj h))
    rw [List.length_map] at g
    simp at g
    omega
  | rat t b h ht hb =>
    obtain ⟨l, dx, h⟩ := h
    exact .rat t b ⟨l, dx, e _ _ (fun z => by rw [z, q] at h; cases h) h⟩ ht hb
theorem Odd.ok {C : Addr} {H : Hp} {v : V} {y : Str} (o : Odd C H v y) : PyData.strOk y = true := by
  cases o with
  | non => exact sok_str "None"
  | bl b =>
    cases b
    · exact sok_str "False"
    · exact sok_str "True"
  | int i h => exact sok_str _
  | str x h1 h2 => exact h1
  | tup zs h hl hz h1 h2 => exact h1
  | lst zs h hl hz h1 h2 => exact h1
  | rat t b h ht hb => exact rtext_ok t b
theorem big_log {z : Int} (h : z.natAbs < 10 ^ 40) : z.natAbs.log2 < 1920 := by
  by_cases h0 : z.natAbs = 0
  · rw [h0]; decide
  · exact (Nat.log2_lt h0).mpr (Nat.lt_of_lt_of_le h (by decide))
theorem big_text {z : Int} (h : z.natAbs < 10 ^ 40) : (Str.ofString (toString z)).length ≤ 41 := by
  have := int_text_length_le10 (k := 40) (by decide) h
  rw [PySem.ofString_length]
  exact this
theorem Odd.wh {K : PySem.W.Frag} {C : Addr} {H : Hp} {v : V} {y : Str} (R : RCls K C) (k : RKi K C) (o : Odd C H v y) : Whole K H v := by
  cases o with
  | non => exact .other (t := .type "NoneType") (.base .non) (kit_ty (by decide +kernel)) fun i z => nomatch z
  | bl b => exact .bl b
  | int i h => exact .int i
  | str x h1 h2 => exact .other (t := .type "str") (.base (.str x)) (kit_ty (by decide +kernel)) fun i z => nomatch z
  | tup zs h hl hz h1 h2 => exact .other (t := .type "tuple") (.base (.tup h)) (kit_ty (by decide +kernel)) fun i z => nomatch z
  | lst zs h hl hz h1 h2 => exact .other (t := .type "list") (.base (.lst h)) (kit_ty (by decide +kernel)) fun i z => nomatch z
  | rat t b h ht hb =>
    obtain ⟨l, dx, h⟩ := h
    exact .other (t := .ref C) (.base (.ins h R.cl R.cA R.cG R.cT R.cM)) k fun i z => nomatch z
/-- repr(fraction) -/
def spRRepr (K : PySem.W.Frag) (C : Addr) : Sp := fun vs H Q _ => ∃ a t b, vs = [.ref a] ∧ RCls K C ∧ RatAt C H a t b ∧ t.natAbs < 10 ^ 40 ∧ b.natAbs < 10 ^ 40 ∧ Q (.str (rtext t b)) H
def t_Ratio___repr__ (K : PySem.W.Frag) (C_Ratio : Addr) : TS :=
  (tRet (tJoin [(tC (.str "Ratio(")), (tFmt (tFld K (tVar 0) "reduced_top")), (tC (.str ", ")), (tFmt (tFld K (tVar 0) "reduced_bottom")), (tC (.str ")"))]))
theorem w_fmtI {σ : L2.St} {H : Hp} {Q : VK} {te : TE} (q : te σ H fun x H1 => ∃ i : Int, x = .int i ∧ i.natAbs.log2 < 1920 ∧ Q (.str (toString i)) H1) (mono : ∀ P P' : VK, (∀ x H, P x H → P' x H) → te σ H P → te σ H P') : tFmt te σ H Q := mono _ _ (fun _ _ h => .inr h) q
theorem Odd.rp {K : PySem.W.Frag} {C : Addr} {H : Hp} {Q : VK} {v : V} {y : Str} (R : RCls K C) (o : Odd C H v y) (q : Q (.str y) H) : cReprA K C (spRRepr K C) [v] H Q := by
  have sb := sizeLine_big
  refine ⟨v, rfl, ?_⟩
  cases o with
  | non => exact .inl ⟨.none, .non, by simp [PyData.showable], by simp [PyData.hasDict], by simp [PyData.depth], by show (Str.ofString "None").length ≤ sizeLine; decide, q⟩
  | bl b => exact .inl ⟨.bool b, .bl b, by simp [PyData.showable], by simp [PyData.hasDict], by simp [PyData.depth], by cases b <;> decide, q⟩
  | int i h => exact .inl ⟨.int i, .int i, by simpa [PyData.showable] using big_log h, by simp [PyData.hasDict], by simp [PyData.depth], by have := big_text h; show (Str.ofString (toString i)).length ≤ sizeLine; omega, q⟩
  | str x h1 h2 => exact .inl ⟨.str x, .str x, by simp [PyData.showable], by simp [PyData.hasDict], by simp [PyData.depth], by show (reprText x).length ≤ sizeLine; omega, q⟩
  | tup zs h hl hz h1 h2 => exact .inl ⟨.tuple (zs.map PyData.int), .tup (sq_tup h) (dp_ints zs), by simpa [PyData.showable] using ints_showable hz, by simp [PyData.hasDict, ints_dict], by have := (lay_ints zs).2; simp only [PyData.depth, this]; omega, by omega, q⟩
  | lst zs h hl hz h1 h2 => exact .inl ⟨.list (zs.map PyData.int), .lst (sq_lst h) (dp_ints zs), by simpa [PyData.showable] using ints_showable hz, by simp [PyData.hasDict, ints_dict], by have := (lay_ints zs).2; simp only [PyData.depth, this]; omega, by omega, q⟩
  | @rat a t b h ht hb =>
    obtain ⟨l, dx, h'⟩ := id h
    exact .inr ⟨a, dx, _, rfl, h', a, t, b, rfl, R, h, ht, hb, _, rfl, q⟩
theorem p_rrepr {K : PySem.W.Frag} {C : Addr} {vs : List V} {H : Hp} {Q : VK} {E : XK} (h : spRRepr K C vs H Q E) : t_Ratio___repr__ K C { nx := fun _ H' => Q .non H', rt := Q } (start ["self"] vs) H := by
  obtain ⟨a, t, b, rfl, R, hq, ht, hb, k⟩ := h
  obtain ⟨l, dx, ha⟩ := hq
  have sb := sizeLine_big
  have z1 := big_text ht
  have z2 := big_text hb
  have l1 : ("Ratio(" : Str).length = 6 := by decide +kernel
  unfold t_Ratio___repr__
  walk_at "rv go"
  refine w_join ?_
  refine w_js ?_
  walk_at "rv go"
  refine ⟨_, rfl, by rw [str_empty, l1]; omega, ?_⟩
  rw [str_empty]
  refine w_js ?_
  show tFld K (tVar 0) "reduced_top" _ _ _
  refine w_fld rfl ha R.cl R.nT (rfl2_t _ _) ?_
  refine .inr ⟨t, rfl, big_log ht, ?_⟩
  refine ⟨_, rfl, by rw [str_len, l1]; omega, ?_⟩
  refine w_js ?_
  walk_at "rv go"
  refine ⟨_, rfl, by rw [str_len, str_len, l1, len_p2]; omega, ?_⟩
  refine w_js ?_
  show tFld K (tVar 0) "reduced_bottom" _ _ _
  refine w_fld rfl ha R.cl R.nB (rfl2_b _ _) ?_
  refine .inr ⟨b, rfl, big_log hb, ?_⟩
  refine ⟨_, rfl, by rw [str_len, str_len, str_len, l1, len_p2]; omega, ?_⟩
  refine w_js ?_
  walk_at "rv go"
  refine ⟨_, rfl, by rw [str_len, str_len, str_len, str_len, l1, len_p2, len_p3]; omega, ?_⟩
  exact k
end Rv
namespace Rv
open PySem PySem.Spec PyProof.Rows L2
local macro_rules | `(tactic| walk_at "rv st") => `(tactic| first
  | with_reducible refine iteT ?_ | with_reducible refine iteF ?_ | with_reducible refine w_nx ?_ | with_reducible refine w_yes ?_ | with_reducible refine w_rt ?_ | with_reducible refine iteNT ?_ | with_reducible refine iteNF ?_ | with_reducible refine iteNRf ?_ | with_reducible refine iteRf ?_ | with_reducible refine w_seqA ?_ | with_reducible refine w_seqD ?_ | with_reducible refine w_seqP ?_ | with_reducible refine w_asg ?_ | with_reducible refine w_ret ?_ | with_reducible refine w_drop ?_ | with_reducible refine w_ifs ?_ | with_reducible refine w_next ?_ | with_reducible refine w_par ?_
  | with_reducible refine w_op ?_ | with_reducible refine w_un ?_ | ((with_reducible show tVar _ _ _ _); refine' w_var ?hv ?_; (case hv => exact rfl)) | with_reducible refine w_c ?_ | with_reducible refine w_test ?_ | with_reducible refine w_tB ?_
  | with_reducible refine w_bl ?_ | with_reducible refine w_I0 ?_ | with_reducible refine w_U ?_ | with_reducible refine w_eqI ?_ | with_reducible refine w_neI ?_
  | with_reducible refine w_cons ?_ | with_reducible refine w_nil ?_ | with_reducible refine w_gn ?_ | with_reducible refine w_gsub ?_ | with_reducible refine w_and ?_ | with_reducible refine w_or ?_ | with_reducible refine w_not ?_
  | with_reducible refine w_andV ?_ | with_reducible refine w_orV ?_ | with_reducible refine w_notV ?_ | with_reducible refine w_if ?_ | with_reducible refine w_cb ?_ | with_reducible refine w_call ?_ | with_reducible refine w_lst ?_ | with_reducible refine w_tup ?_
  | with_reducible refine w_sl ?_ | with_reducible refine w_noPart ?_ | with_reducible refine w_part ?_ | with_reducible refine w_ex1 ?_ | with_reducible refine w_exb ?_ | with_reducible refine w_intB ?_ | with_reducible refine w_intI ?_ | with_reducible refine w_abs ?_)
local macro_rules | `(tactic| walk_at "rv ix") => `(tactic| ((with_reducible show rIxL _ _ _ _ _); refine' w_ixL (sq_lst ?ha) ?hb ?_; (case ha => first | exact upd_same | assumption); (case hb => first | exact rfl | assumption)))
local macro_rules | `(tactic| walk_at "rv ar") => `(tactic| first
  | (refine' w_I ?hc ?_; (case hc => first | (show (0 : Int) < _; first | assumption | decide | omega) | exact pow_c (by decide) (by decide) (by first | decide | omega) (by first | decide | omega) | exact mul_r (by first | decide | omega) (by first | decide | omega) | exact mul_l (by first | decide | omega) (by first | decide | omega) | exact divw (by first | assumption | decide | omega) (by first | assumption | decide | omega))))
local macro_rules | `(tactic| walk_at "rv go") => `(tactic| repeat first | walk_at "rv st" | walk_at "rv ix" | ((with_reducible show rI _ _ _ _ _ _); walk_at "rv ar"))
/-- one column higher -/
def rsX (hs : List Int) (c : Nat) (r : Int) : List Int := hs.set c (hN hs c + r)
theorem rsX_len {hs : List Int} {c : Nat} {r : Int} : (rsX hs c r).length = hs.length := List.length_set
theorem rsX_zero {hs : List Int} {c : Nat} (h : c < hs.length) : rsX hs c 0 = hs := by
  unfold rsX
  rw [Int.add_zero]
  refine List.ext_getElem? fun i => ?_
  by_cases z : c = i
  · subst z
    rw [List.getElem?_set_self h]
    unfold hN
    rw [List.getElem?_eq_getElem h]
    rfl
  · rw [List.getElem?_set_ne z]
theorem rsX_ok {hs ws : List Int} {c : Nat} {r : Int} (ok : PrOk hs ws) (h : c < hs.length) (k : HOk1 (hN hs c + r)) : PrOk (rsX hs c r) ws := by
  refine ⟨by rw [rsX_len]; exact ok.pos, by rw [rsX_len]; exact ok.le, by rw [rsX_len]; exact ok.eq, fun z hz => ?_, ok.ww⟩
  rcases List.mem_or_eq_of_mem_set hz with q | q
  · exact ok.hh z q
  · rw [q]
    exact k
theorem rsX_bad {hs : List Int} {c : Nat} {r : Int} (h : c < hs.length) (k : ¬ HOk1 (hN hs c + r)) : ¬ (∀ z ∈ rsX hs c r, HOk1 z) := fun g => k (g _ (by
  unfold rsX
  exact List.mem_iff_getElem?.mpr ⟨c, List.getElem?_set_self h⟩))
abbrev big30 : Int := 1000000000000000000000000000000
theorem lst_callR {K : PySem.W.Frag} {H : Hp} {Q : VK} {a : Addr} {xs : List V} (h : RowAt K H a xs) (k : ∀ l, H l = none → Q (.ref l) (upd H l (.lst xs))) : cList K [.ref a] H Q := ⟨a, xs, rfl, h.elim (fun h => .inl (sq_lst h)) (fun h => .inr (sq_tup h)), k⟩
theorem outs_ints {lo hi : Int} : ∀ (zs : List Int) (n : Nat), ¬ (∀ z ∈ zs, lo ≤ z ∧ z ≤ hi) → ∃ k : Nat, outs lo hi (zs.map V.int) n = .int (k : Int)
  | [], _, h => absurd (fun z hz => nomatch hz) h
  | z :: r, n, h => by
    show ∃ k : Nat, (if (decide (lo ≤ z) && decide (z ≤ hi)) = true then outs lo hi (r.map V.int) (n + 1) else .int (n : Int)) = .int (k : Int)
    by_cases c : lo ≤ z ∧ z ≤ hi
    · rw [decide_eq_true c.1, decide_eq_true c.2, Bool.and_self, if_pos rfl]
      refine outs_ints r (n + 1) fun g => h fun y hy => ?_
      rcases List.mem_cons.mp hy with rfl | hy
      · exact c
      · exact g y hy
    · have e : (decide (lo ≤ z) && decide (z ≤ hi)) = false := by
        cases q : (decide (lo ≤ z) && decide (z ≤ hi)) with
        | false => rfl
        | true =>
          rw [Bool.and_eq_true, decide_eq_true_eq, decide_eq_true_eq] at q
          exact absurd q c
      rw [e]
      exact ⟨n, rfl⟩
theorem outside_two {K : PySem.W.Frag} {H : Hp} {Q : VK} {E : XK} {a : Addr} {lo hi : Int} {zs : List Int} (h : RowAt K H a (zs.map V.int)) (k1 : (∀ z ∈ zs, lo ≤ z ∧ z ≤ hi) → ∀ H', Same H H' → Q .non H') (k2 : ¬ (∀ z ∈ zs, lo ≤ z ∧ z ≤ hi) → ∀ H' (k : Int), Same H H' → Q (.int k) H') :
    spOutside K ([.ref a, .int lo, .int hi] ++ []) H Q E := by
  by_cases c : ∀ z ∈ zs, lo ≤ z ∧ z ≤ hi
  · exact outside_call h c (k1 c)
  · obtain ⟨k, e⟩ := outs_ints zs 0 c
    refine ⟨a, lo, hi, _, rfl, h.elim (fun h => .inl (sq_lst h)) (fun h => .inr (sq_tup h)), fun x hx => ?_, fun H' e' => ?_⟩
    · obtain ⟨z, _, rfl⟩ := List.mem_map.mp hx
      exact .int z
    · rw [e]
      exact k2 c H' k e'
/-- a row of columns that has grown; it may have outgrown the limit -/
def spGrownX (K : PySem.W.Frag) (C CL : Addr) : Sp := fun vs H Q E => ∃ a b hs ws, vs = [.ref a, .ref b] ∧ PCls K C ∧ OexG K CL "OverflowError" "OverflowError.__new__" "OverflowError.__init__" bm_OverflowError ∧ PySem.W.findIn K (.ref CL) "limit" = some none ∧
  RowAt K H a (hs.map V.int) ∧ RowAt K H b (ws.map V.int) ∧ 1 ≤ hs.length ∧ hs.length ≤ 60 ∧ ws.length = hs.length ∧
  ((∀ z ∈ hs, HOk1 z) → (∀ z ∈ ws, WOk1 z) → ∀ p H', H p = none → Same H H' → ProfAt K C H' p hs ws → Q (.ref p) H') ∧
  (¬ ((∀ z ∈ hs, HOk1 z) ∧ (∀ z ∈ ws, WOk1 z)) → ∀ d H', H d = none → Same H H' → H' d = some (.xd [("limit", .int 1000000000000000000000000000000)]) → E (.ref CL) (some d) H')
def t_grown_profileX (K : PySem.W.Frag) (C_Profile : Addr) (C_LimitExceeded : Addr) (E : XK) : TS :=
  (tSeq (tIfS (tTest (tOp oNotN (tCall (spOutside K) [] E0 (tCons (tVar 0) (tCons (tUn (rU fun i => .int (-i)) (tC (.int 1000000000000000000000000000000))) (tCons (tC (.int 1000000000000000000000000000000)) tNil)))) (tC .non))) (tRaise (tMkO C_LimitExceeded (spExc K C_LimitExceeded "OverflowError" "OverflowError.__new__" "OverflowError.__init__" bm_OverflowError "limit") [] (tCons (tC (.int 1000000000000000000000000000000)) tNil)) E) tNext)
    (tSeq (tIfS (tTest (tOp oNotN (tCall (spOutside K) [] E0 (tCons (tVar 1) (tCons (tC (.int 1)) (tCons (tC (.int 1000000000000000000000000000000)) tNil)))) (tC .non))) (tRaise (tMkO C_LimitExceeded (spExc K C_LimitExceeded "OverflowError" "OverflowError.__new__" "OverflowError.__init__" bm_OverflowError "limit") [] (tCons (tC (.int 1000000000000000000000000000000)) tNil)) E) tNext)
    (tRet (tMake C_Profile (spInit K C_Profile) [] E0 (tCons (tVar 0) (tCons (tVar 1) tNil))))))
theorem free_same {H H' : Hp} {l : Addr} (e : Same H H') (n : H' l = none) : H l = none := by
  cases q : H l with
  | none => rfl
  | some o =>
    rw [e _ _ q] at n
    cases n
theorem p_grownX {K : PySem.W.Frag} {C CL : Addr} {vs : List V} {H : Hp} {Q : VK} {E : XK} (h : spGrownX K C CL vs H Q E) : t_grown_profileX K C CL E { nx := fun _ H' => Q .non H', rt := Q } (start ["heights", "widths"] vs) H := by
  obtain ⟨a, b, hs, ws, rfl, P, T, no, ha, hb, l1, l60, le, k1, k2⟩ := h
  unfold t_grown_profileX
  refine w_seq ?_
  walk_at "rv go"
  refine outside_two ha (fun z H1 e1 => ?_) (fun z H1 k e1 => ?_)
  · refine ⟨rfl, _, rfl, ?_⟩
    walk_at "rv go"
    refine w_seq ?_
    walk_at "rv go"
    refine outside_two (hb.same e1) (fun z' H2 e2 => ?_) (fun z' H2 k e2 => ?_)
    · refine ⟨rfl, _, rfl, ?_⟩
      walk_at "rv go"
      refine w_make ?_
      walk_at "rv go"
      have e12 := e1.trans e2
      refine mk_profR (Q := fun x H' => Q (.ref x) H') (us := [.ref a, .ref b]) (dvs := []) rfl P (ha.same e12) l1 l60 z (.inr ⟨b, rfl, hb.same e12, le, z'⟩) fun p H3 np e3 hp => ?_
      exact k1 z z' p H3 (free_same e12 np) (e12.trans e3) hp
    · refine ⟨rfl, _, rfl, ?_⟩
      rw [decide_eq_false (show ¬ (V.int k = V.non) from fun z => nomatch z)]
      walk_at "rv go"
      refine w_raise ?_
      refine w_mkO ?_
      walk_at "rv go"
      have e12 := e1.trans e2
      exact exc_new T no fun d H' nd e hd => k2 (fun g => z' g.2) d H' (free_same e12 nd) (e12.trans e) hd
  · refine ⟨rfl, _, rfl, ?_⟩
    rw [decide_eq_false (show ¬ (V.int k = V.non) from fun z => nomatch z)]
    walk_at "rv go"
    refine w_raise ?_
    refine w_mkO ?_
    walk_at "rv go"
    exact exc_new T no fun d H' nd e hd => k2 (fun g => z g.1) d H' (free_same e1 nd) (e1.trans e) hd
end Rv
namespace Rv
/-! ### runs of marks, peaks: plain mathematics -/
abbrev Pr := Nat × Nat
def Srt (L : List Pr) : Prop := L.Pairwise fun p q => p.1 < q.1
theorem srt_unique : ∀ {L M : List Pr}, Srt L → Srt M → (∀ p, p ∈ L ↔ p ∈ M) → L = M
  | [], [], _, _, _ => rfl
  | [], y :: s, _, _, h => by
    have q := (h y).mpr List.mem_cons_self
    cases q
  | x :: r, [], _, _, h => by
    have q := (h x).mp List.mem_cons_self
    cases q
  | x :: r, y :: s, hL, hM, h => by
    obtain ⟨a1, a2⟩ := List.pairwise_cons.mp hL
    obtain ⟨b1, b2⟩ := List.pairwise_cons.mp hM
    have e : x = y := by
      rcases List.mem_cons.mp ((h x).mp List.mem_cons_self) with e | e
      · exact e
      · rcases List.mem_cons.mp ((h y).mpr List.mem_cons_self) with g | g
        · exact g.symm
        · have h1 := b1 x e
          have h2 := a1 y g
          omega
    subst e
    rw [srt_unique a2 b2 fun p => ⟨fun hp => ?_, fun hp => ?_⟩]
    · rcases List.mem_cons.mp ((h p).mp (List.mem_cons_of_mem _ hp)) with e | e
      · have := a1 p hp
        rw [e] at this
        omega
      · exact e
    · rcases List.mem_cons.mp ((h p).mpr (List.mem_cons_of_mem _ hp)) with e | e
      · have := b1 p hp
        rw [e] at this
        omega
      · exact e
def MaxRun (m : Nat → Bool) (n : Nat) (w : Bool) (a b : Nat) : Prop := a ≤ b ∧ b < n ∧ (∀ j, a ≤ j → j ≤ b → m j = w) ∧ (a = 0 ∨ m (a - 1) ≠ w) ∧ (b + 1 = n ∨ m (b + 1) ≠ w)
def Stre (h : Nat → Int) (n : Nat) (a b : Nat) : Prop := a ≤ b ∧ b < n ∧ (∀ j, a ≤ j → j ≤ b → h j = h a) ∧ (a = 0 ∨ h (a - 1) ≠ h a) ∧ (b + 1 = n ∨ h (b + 1) ≠ h b)
def PKb (h : Nat → Int) (n a b : Nat) : Bool := (decide (a = 0) || decide (h (a - 1) < h a)) && (decide (b + 1 = n) || decide (h (b + 1) < h b))
theorem PKb_iff {h : Nat → Int} {n a b : Nat} : PKb h n a b = true ↔ (a = 0 ∨ h (a - 1) < h a) ∧ (b + 1 = n ∨ h (b + 1) < h b) := by simp [PKb]
def LeftOf (h : Nat → Int) (i a : Nat) : Prop := a ≤ i ∧ (∀ j, a ≤ j → j ≤ i → h j = h i) ∧ (a = 0 ∨ h (a - 1) ≠ h i)
def RightOf (h : Nat → Int) (n i b : Nat) : Prop := i ≤ b ∧ b < n ∧ (∀ j, i ≤ j → j ≤ b → h j = h i) ∧ (b + 1 = n ∨ h (b + 1) ≠ h i)
def lft (h : Nat → Int) : Nat → Nat
  | 0 => 0
  | i + 1 => if h i = h (i + 1) then lft h i else i + 1
theorem lft_ok (h : Nat → Int) : ∀ i, LeftOf h i (lft h i)
  | 0 => ⟨Nat.le_refl _, fun j _ h2 => by rw [show j = 0 by omega], .inl rfl⟩
  | i + 1 => by
    unfold lft
    by_cases e : h i = h (i + 1)
    · rw [if_pos e]
      obtain ⟨h1, h2, h3⟩ := lft_ok h i
      refine ⟨by omega, fun j a b => ?_, ?_⟩
      · by_cases z : j = i + 1
        · rw [z]
        · rw [h2 j a (by omega), e]
      · rw [← e]
        exact h3
    · rw [if_neg e]
      exact ⟨Nat.le_refl _, fun j a b => by rw [show j = i + 1 by omega], .inr e⟩
def rgtF (h : Nat → Int) (n : Nat) : Nat → Nat → Nat
  | 0, i => i
  | f + 1, i => if i + 1 < n ∧ h (i + 1) = h i then rgtF h n f (i + 1) else i
theorem rgtF_ok (h : Nat → Int) (n : Nat) : ∀ f i, i < n → n ≤ i + f + 1 → RightOf h n i (rgtF h n f i)
  | 0, i, hi, hf => ⟨Nat.le_refl _, hi, fun j a b => by rw [show j = i by show j = i; unfold rgtF at b; omega], .inl (by unfold rgtF; omega)⟩
  | f + 1, i, hi, hf => by
    unfold rgtF
    by_cases e : i + 1 < n ∧ h (i + 1) = h i
    · rw [if_pos e]
      obtain ⟨h1, h2, h3, h4⟩ := rgtF_ok h n f (i + 1) e.1 (by omega)
      refine ⟨by omega, h2, fun j a b => ?_, ?_⟩
      · by_cases z : j = i
        · rw [z]
        · rw [h3 j (by omega) b, e.2]
      · rw [← e.2]
        exact h4
    · rw [if_neg e]
      refine ⟨Nat.le_refl _, hi, fun j a b => by rw [show j = i by omega], ?_⟩
      by_cases z : i + 1 = n
      · exact .inl z
      · exact .inr fun q => e ⟨by omega, q⟩
def rgt (h : Nat → Int) (n i : Nat) : Nat := rgtF h n n i
theorem rgt_ok {h : Nat → Int} {n i : Nat} (hi : i < n) : RightOf h n i (rgt h n i) := rgtF_ok h n n i hi (by omega)
theorem left_uniq {h : Nat → Int} {i a b : Nat} (x : LeftOf h i a) (y : LeftOf h i b) : a = b := by
  obtain ⟨x1, x2, x3⟩ := x
  obtain ⟨y1, y2, y3⟩ := y
  rcases Nat.lt_trichotomy a b with z | z | z
  · rcases y3 with e | e
    · omega
    · exact absurd (x2 (b - 1) (by omega) (by omega)) e
  · exact z
  · rcases x3 with e | e
    · omega
    · exact absurd (y2 (a - 1) (by omega) (by omega)) e
theorem right_uniq {h : Nat → Int} {n i a b : Nat} (x : RightOf h n i a) (y : RightOf h n i b) : a = b := by
  obtain ⟨x1, x2, x3, x4⟩ := x
  obtain ⟨y1, y2, y3, y4⟩ := y
  rcases Nat.lt_trichotomy a b with z | z | z
  · rcases x4 with e | e
    · omega
    · exact absurd (y3 (a + 1) (by omega) (by omega)) e
  · exact z
  · rcases y4 with e | e
    · omega
    · exact absurd (x3 (b + 1) (by omega) (by omega)) e
/-- is the column part of a peak -/
def mark (h : Nat → Int) (n i : Nat) : Bool := PKb h n (lft h i) (rgt h n i)
theorem stre_of {h : Nat → Int} {n i a b : Nat} (x : LeftOf h i a) (y : RightOf h n i b) : Stre h n a b := by
  obtain ⟨x1, x2, x3⟩ := x
  obtain ⟨y1, y2, y3, y4⟩ := y
  have ha : h a = h i := x2 a (Nat.le_refl _) x1
  have hb : h b = h i := y3 b y1 (Nat.le_refl _)
  refine ⟨by omega, y2, fun j h1 h2 => ?_, ?_, ?_⟩
  · rw [ha]
    by_cases z : j ≤ i
    · exact x2 j h1 z
    · exact y3 j (by omega) h2
  · rw [ha]
    exact x3
  · rw [hb]
    exact y4
theorem of_stre {h : Nat → Int} {n i a b : Nat} (s : Stre h n a b) (h1 : a ≤ i) (h2 : i ≤ b) : LeftOf h i a ∧ RightOf h n i b := by
  obtain ⟨s1, s2, s3, s4, s5⟩ := s
  have hi := s3 i h1 h2
  have hb := s3 b s1 (Nat.le_refl _)
  refine ⟨⟨h1, fun j a b => ?_, ?_⟩, h2, s2, fun j a b => ?_, ?_⟩
  · rw [s3 j a (by omega), hi]
  · rw [hi]
    exact s4
  · rw [s3 j (by omega) b, hi]
  · rw [hi, ← hb]
    exact s5
theorem mark_stre {h : Nat → Int} {n i a b : Nat} (s : Stre h n a b) (h1 : a ≤ i) (h2 : i ≤ b) : mark h n i = PKb h n a b := by
  obtain ⟨x, y⟩ := of_stre s h1 h2
  have hi : i < n := by
    have := s.2.1
    omega
  unfold mark
  rw [left_uniq (lft_ok h i) x, right_uniq (rgt_ok hi) y]
theorem stre_at (h : Nat → Int) {n i : Nat} (hi : i < n) : Stre h n (lft h i) (rgt h n i) ∧ lft h i ≤ i ∧ i ≤ rgt h n i := ⟨stre_of (lft_ok h i) (rgt_ok hi), (lft_ok h i).1, (rgt_ok hi).1⟩
/-- a peak is a maximal run of marks -/
theorem peak_run {h : Nat → Int} {n a b : Nat} : (Stre h n a b ∧ PKb h n a b = true) ↔ MaxRun (mark h n) n true a b := by
  constructor
  · rintro ⟨s, p⟩
    have s0 := s
    obtain ⟨s1, s2, s3, s4, s5⟩ := s
    obtain ⟨p1, p2⟩ := PKb_iff.mp p
    refine ⟨s1, s2, fun j h1 h2 => by rw [mark_stre s0 h1 h2, p], ?_, ?_⟩
    · by_cases z : a = 0
      · exact .inl z
      · refine .inr fun q => ?_
        obtain ⟨t, t1, t2⟩ := stre_at h (n := n) (i := a - 1) (by omega)
        rw [mark_stre t t1 t2] at q
        obtain ⟨_, q2⟩ := PKb_iff.mp q
        have hr : rgt h n (a - 1) = a - 1 := by
          have e : h (a - 1) ≠ h a := s4.resolve_left z
          have := right_uniq (rgt_ok (h := h) (n := n) (i := a - 1) (by omega)) (b := a - 1) ⟨Nat.le_refl _, by omega, fun j x y => by rw [show j = a - 1 by omega], .inr (by rw [show a - 1 + 1 = a by omega]; exact fun w => e w.symm)⟩
          exact this
        rw [hr, show a - 1 + 1 = a by omega] at q2
        have := p1.resolve_left z
        rcases q2 with q2 | q2 <;> omega
    · by_cases z : b + 1 = n
      · exact .inl z
      · refine .inr fun q => ?_
        obtain ⟨t, t1, t2⟩ := stre_at h (n := n) (i := b + 1) (by omega)
        rw [mark_stre t t1 t2] at q
        obtain ⟨q1, _⟩ := PKb_iff.mp q
        have hl : lft h (b + 1) = b + 1 := by
          have e : h (b + 1) ≠ h b := s5.resolve_left z
          have := left_uniq (lft_ok h (b + 1)) (b := b + 1) ⟨Nat.le_refl _, fun j x y => by rw [show j = b + 1 by omega], .inr (by rw [show b + 1 - 1 = b by omega]; exact fun w => e w.symm)⟩
          exact this
        rw [hl, show b + 1 - 1 = b by omega] at q1
        have := p2.resolve_left z
        rcases q1 with q1 | q1 <;> omega
  · rintro ⟨m1, m2, m3, m4, m5⟩
    obtain ⟨t, t1, t2⟩ := stre_at h (n := n) (i := a) (by omega)
    have ma := m3 a (Nat.le_refl _) m1
    have pk : PKb h n (lft h a) (rgt h n a) = true := by rw [← mark_stre t t1 t2, ma]
    have el : lft h a = a := by
      by_cases z : lft h a = a
      · exact z
      · have q := mark_stre t (i := a - 1) (by omega) (by omega)
        rw [pk] at q
        rcases m4 with e | e
        · omega
        · exact absurd q e
    have er : rgt h n a = b := by
      rcases Nat.lt_trichotomy (rgt h n a) b with z | z | z
      · -- the next column is a peak's, too
        exfalso
        have q := m3 (rgt h n a + 1) (by omega) (by omega)
        obtain ⟨u, u1, u2⟩ := stre_at h (n := n) (i := rgt h n a + 1) (by omega)
        rw [mark_stre u u1 u2] at q
        obtain ⟨q1, _⟩ := PKb_iff.mp q
        obtain ⟨_, p2⟩ := PKb_iff.mp pk
        obtain ⟨s1, s2, s3, s4, s5⟩ := t
        have ne : h (rgt h n a + 1) ≠ h (rgt h n a) := s5.resolve_left (by omega)
        have hl : lft h (rgt h n a + 1) = rgt h n a + 1 := left_uniq (lft_ok h (rgt h n a + 1)) ⟨Nat.le_refl _, fun j x y => by rw [show j = rgt h n a + 1 by omega], .inr (by rw [Nat.add_sub_cancel]; exact fun w => ne w.symm)⟩
        rw [hl, Nat.add_sub_cancel] at q1
        have := p2.resolve_left (by omega)
        rcases q1 with q1 | q1 <;> omega
      · exact z
      · exfalso
        have q := mark_stre t (i := b + 1) (by omega) (by omega)
        rw [pk] at q
        have := t.2.1
        rcases m5 with e | e
        · omega
        · exact absurd q e
    rw [el, er] at t pk
    exact ⟨t, pk⟩
/-- there is a peak -/
theorem some_peak (h : Nat → Int) {n : Nat} (hn : 0 < n) : ∃ i, i < n ∧ mark h n i = true := by
  have top : ∀ k, 0 < k → ∃ i, i < k ∧ ∀ j, j < k → h j ≤ h i := by
    intro k
    induction k with
    | zero => intro h; omega
    | succ k ih =>
      intro _
      by_cases z : k = 0
      · exact ⟨0, by omega, fun j hj => by rw [show j = 0 by omega]; omega⟩
      · obtain ⟨i, h1, h2⟩ := ih (by omega)
        by_cases c : h k ≤ h i
        · exact ⟨i, by omega, fun j hj => by
            by_cases e : j = k
            · rw [e]; exact c
            · exact h2 j (by omega)⟩
        · exact ⟨k, by omega, fun j hj => by
            by_cases e : j = k
            · rw [e]; omega
            · have := h2 j (by omega)
              omega⟩
  obtain ⟨i, h1, h2⟩ := top n hn
  refine ⟨i, h1, ?_⟩
  obtain ⟨t, t1, t2⟩ := stre_at h (n := n) (i := i) h1
  rw [mark_stre t t1 t2]
  obtain ⟨s1, s2, s3, s4, s5⟩ := t
  have hi := s3 i t1 t2
  have hb := s3 _ s1 (Nat.le_refl _)
  refine PKb_iff.mpr ⟨?_, ?_⟩
  · rcases s4 with e | e
    · exact .inl e
    · have := h2 (lft h i - 1) (by omega)
      exact .inr (by omega)
  · rcases s5 with e | e
    · exact .inl e
    · by_cases z : rgt h n i + 1 = n
      · exact .inl z
      · have := h2 (rgt h n i + 1) (by omega)
        exact .inr (by omega)
/-- neighbours in a sorted list -/
theorem zip_next : ∀ {L : List Pr}, Srt L → ∀ p q : Pr, (p, q) ∈ L.zip L.tail ↔ p ∈ L ∧ q ∈ L ∧ p.1 < q.1 ∧ ∀ r ∈ L, r.1 ≤ p.1 ∨ q.1 ≤ r.1
  | [], _, p, q => by simp
  | [x], _, p, q => by
    simp only [List.tail_cons, List.zip_nil_right, List.not_mem_nil, List.mem_singleton, false_iff]
    rintro ⟨rfl, rfl, h, _⟩
    omega
  | x :: y :: r, hL, p, q => by
    obtain ⟨a1, a2⟩ := List.pairwise_cons.mp hL
    obtain ⟨b1, b2⟩ := List.pairwise_cons.mp a2
    have ih := zip_next (L := y :: r) a2 p q
    have xy := a1 y List.mem_cons_self
    show (p, q) ∈ (x, y) :: (y :: r).zip r ↔ _
    rw [List.mem_cons]
    constructor
    · rintro (e | e)
      · injection e with e1 e2
        subst e1 e2
        refine ⟨List.mem_cons_self, List.mem_cons_of_mem _ List.mem_cons_self, xy, fun z hz => ?_⟩
        rcases List.mem_cons.mp hz with e | e
        · rw [e]; omega
        · rcases List.mem_cons.mp e with e | e
          · rw [e]; omega
          · have := b1 z e
            omega
      · obtain ⟨h1, h2, h3, h4⟩ := ih.mp e
        refine ⟨List.mem_cons_of_mem _ h1, List.mem_cons_of_mem _ h2, h3, fun z hz => ?_⟩
        rcases List.mem_cons.mp hz with e | e
        · have := a1 p h1
          rw [e]
          omega
        · exact h4 z e
    · rintro ⟨h1, h2, h3, h4⟩
      rcases List.mem_cons.mp h1 with e | e
      · left
        have hq : q ∈ y :: r := by
          rcases List.mem_cons.mp h2 with g | g
          · rw [e, g] at h3
            omega
          · exact g
        have hy := h4 y (List.mem_cons_of_mem _ List.mem_cons_self)
        have : q = y := by
          rcases List.mem_cons.mp hq with g | g
          · exact g
          · have := b1 q g
            rw [e] at hy
            omega
        rw [e, this]
      · right
        refine ih.mpr ⟨e, ?_, h3, fun z hz => h4 z (List.mem_cons_of_mem _ hz)⟩
        rcases List.mem_cons.mp h2 with g | g
        · have := a1 p e
          rw [g] at h3
          omega
        · exact g
def gap (p q : Pr) : Pr := (p.2 + 1, q.1 - 1)
def gaps (L : List Pr) : List Pr := (L.zip L.tail).map fun x => gap x.1 x.2
/-- the gaps of the peaks are the other runs between them -/
theorem gaps_eq {m : Nat → Bool} {n : Nat} {T F : List Pr} (hT : Srt T) (hF : Srt F) (mT : ∀ p : Pr, p ∈ T ↔ MaxRun m n true p.1 p.2) (mF : ∀ p : Pr, p ∈ F ↔ MaxRun m n false p.1 p.2)
    {f l : Pr} (hf : T.head? = some f) (hl : T.getLast? = some l) : gaps T = F.filter fun r => decide (f.2 < r.1) && decide (r.2 < l.1) := by
  have fT : f ∈ T := List.mem_of_mem_head? hf
  have lT : l ∈ T := List.mem_of_getLast? hl
  have fmin : ∀ r ∈ T, f.1 ≤ r.1 := by
    cases T with
    | nil => cases fT
    | cons x r =>
      have e : x = f := by simpa using hf
      intro z hz
      rcases List.mem_cons.mp hz with g | g
      · rw [g, e]; omega
      · have := (List.pairwise_cons.mp hT).1 z g
        rw [← e]; omega
  have lmax : ∀ r ∈ T, r.1 ≤ l.1 := by
    intro r hr
    obtain ⟨ys, e⟩ := List.getLast?_eq_some_iff.mp hl
    rw [e] at hr hT
    rcases List.mem_append.mp hr with g | g
    · have := (List.pairwise_append.mp hT).2.2 r g l (by simp)
      omega
    · rw [List.mem_singleton.mp g]; omega
  -- two different runs of true are apart
  have apart : ∀ p ∈ T, ∀ q ∈ T, p.1 < q.1 → p.2 + 1 < q.1 := by
    intro p hp q hq hpq
    obtain ⟨p1, p2, p3, p4, p5⟩ := (mT p).mp hp
    obtain ⟨q1, q2, q3, q4, q5⟩ := (mT q).mp hq
    rcases q4 with e | e
    · omega
    · rcases Nat.lt_or_ge (p.2 + 1) q.1 with z | z
      · exact z
      · exfalso
        by_cases w : q.1 ≤ p.2 + 1 ∧ p.1 ≤ q.1 - 1 ∧ q.1 - 1 ≤ p.2
        · exact e (p3 (q.1 - 1) w.2.1 w.2.2)
        · omega
  -- the true marks lie in the runs of T
  have inT : ∀ i, i < n → m i = true → ∃ p ∈ T, p.1 ≤ i ∧ i ≤ p.2 := by
    intro i hi hm
    have lo : ∀ k, k ≤ i → (∀ j, k ≤ j → j ≤ i → m j = true) → ∃ a, a ≤ k ∧ (∀ j, a ≤ j → j ≤ i → m j = true) ∧ (a = 0 ∨ m (a - 1) ≠ true) := by
      intro k
      induction k with
      | zero => intro _ h; exact ⟨0, Nat.le_refl _, h, .inl rfl⟩
      | succ k ih =>
        intro hk h
        by_cases z : m k = true
        · obtain ⟨a, h1, h2, h3⟩ := ih (by omega) fun j x y => by
            by_cases w : j = k
            · rw [w]; exact z
            · exact h j (by omega) y
          exact ⟨a, by omega, h2, h3⟩
        · exact ⟨k + 1, Nat.le_refl _, h, .inr z⟩
    obtain ⟨a, a1, a2, a3⟩ := lo i (Nat.le_refl _) fun j x y => by rw [show j = i by omega]; exact hm
    have hi' : ∀ d k, k + d + 1 = n → i ≤ k → (∀ j, i ≤ j → j ≤ k → m j = true) → ∃ b, k ≤ b ∧ b < n ∧ (∀ j, i ≤ j → j ≤ b → m j = true) ∧ (b + 1 = n ∨ m (b + 1) ≠ true) := by
      intro d
      induction d with
      | zero => intro k hk _ h; exact ⟨k, Nat.le_refl _, by omega, h, .inl (by omega)⟩
      | succ d ih =>
        intro k hk hik h
        by_cases z : m (k + 1) = true
        · obtain ⟨b, h1, h2, h3, h4⟩ := ih (k + 1) (by omega) (by omega) fun j x y => by
            by_cases w : j = k + 1
            · rw [w]; exact z
            · exact h j x (by omega)
          exact ⟨b, by omega, h2, h3, h4⟩
        · exact ⟨k, Nat.le_refl _, by omega, h, .inr z⟩
    obtain ⟨b, b1, b2, b3, b4⟩ := hi' (n - 1 - i) i (by omega) (Nat.le_refl _) fun j x y => by rw [show j = i by omega]; exact hm
    refine ⟨(a, b), (mT (a, b)).mpr ⟨by show a ≤ b; omega, b2, fun j x y => ?_, a3, b4⟩, a1, b1⟩
    by_cases w : j ≤ i
    · exact a2 j x w
    · exact b3 j (by omega) y
  refine srt_unique ?_ ?_ ?_
  · -- the gaps are in order
    unfold gaps Srt
    rw [List.pairwise_map]
    have key : ∀ {L : List Pr}, Srt L → (∀ p ∈ L, ∀ q ∈ L, p.1 < q.1 → p.2 < q.2) → (L.zip L.tail).Pairwise fun x y => (gap x.1 x.2).1 < (gap y.1 y.2).1 := by
      intro L
      induction L with
      | nil => intro _ _; exact List.Pairwise.nil
      | cons x r ih =>
        intro hL hq
        cases r with
        | nil => exact List.Pairwise.nil
        | cons y s =>
          obtain ⟨a1, a2⟩ := List.pairwise_cons.mp hL
          show ((x, y) :: (y :: s).zip s).Pairwise _
          refine List.pairwise_cons.mpr ⟨?_, ih a2 fun p hp q hq' => hq p (List.mem_cons_of_mem _ hp) q (List.mem_cons_of_mem _ hq')⟩
          rintro ⟨p, q⟩ hz
          have hp : p ∈ y :: s := (zip_next a2 p q).mp hz |>.1
          have h1 := a1 p hp
          have h2 := hq x List.mem_cons_self p (List.mem_cons_of_mem _ hp) h1
          show x.2 + 1 < p.2 + 1
          omega
    refine key hT fun p hp q hq hpq => ?_
    have h1 := apart p hp q hq hpq
    have h2 := (mT q).mp hq
    have h3 := h2.1
    omega
  · exact List.Pairwise.filter _ hF
  · rintro ⟨a, b⟩
    unfold gaps
    rw [List.mem_map, List.mem_filter, mF]
    simp only [Bool.and_eq_true, decide_eq_true_eq]
    constructor
    · rintro ⟨⟨p, q⟩, hz, e⟩
      obtain ⟨hp, hq, hpq, hb⟩ := (zip_next hT p q).mp hz
      have ea : p.2 + 1 = a := congrArg Prod.fst e
      have eb : q.1 - 1 = b := congrArg Prod.snd e
      have ap := apart p hp q hq hpq
      obtain ⟨p1, p2, p3, p4, p5⟩ := (mT p).mp hp
      obtain ⟨q1, q2, q3, q4, q5⟩ := (mT q).mp hq
      have fp := fmin p hp
      have ql := lmax q hq
      have f2 : f.2 ≤ p.2 := by
        by_cases z : f.1 = p.1
        · obtain ⟨f1, f2, f3, f4, f5⟩ := (mT f).mp fT
          rcases Nat.lt_or_ge p.2 f.2 with w | w
          · exfalso
            rcases p5 with g | g
            · omega
            · exact g (f3 (p.2 + 1) (by omega) (by omega))
          · exact w
        · have := apart f fT p hp (by omega)
          omega
      refine ⟨⟨by omega, by omega, fun j x y => ?_, ?_, ?_⟩, by omega, by omega⟩
      · cases hm : m j with
        | false => rfl
        | true =>
          obtain ⟨r, hr, r1, r2⟩ := inT j (by omega) hm
          exfalso
          have x' : a ≤ j := x
          have y' : j ≤ b := y
          rcases hb r hr with w | w
          · by_cases z : r.1 = p.1
            · obtain ⟨r3, r4, r5, r6, r7⟩ := (mT r).mp hr
              rcases p5 with g | g
              · omega
              · exact g (r5 (p.2 + 1) (by omega) (by omega))
            · have := apart r hr p hp (by omega)
              omega
          · omega
      · right
        show m (a - 1) ≠ false
        rw [show a - 1 = p.2 by omega, p3 p.2 p1 (Nat.le_refl _)]
        exact fun h => nomatch h
      · right
        show m (b + 1) ≠ false
        rw [show b + 1 = q.1 by omega, q3 q.1 (Nat.le_refl _) q1]
        exact fun h => nomatch h
    · rintro ⟨⟨r1, r2, r3, r4, r5⟩, hfa, hbl⟩
      have r1' : a ≤ b := r1
      have r2' : b < n := r2
      obtain ⟨f1, f2, f3, f4, f5⟩ := (mT f).mp fT
      obtain ⟨l1, l2, l3, l4, l5⟩ := (mT l).mp lT
      have hfa' : f.2 < a := hfa
      have hbl' : b < l.1 := hbl
      have ma : m (a - 1) = true := by
        rcases r4 with e | e
        · have e' : a = 0 := e
          omega
        · have e' : m (a - 1) ≠ false := e
          cases h : m (a - 1) with
          | true => rfl
          | false => exact absurd h e'
      have mb : m (b + 1) = true := by
        rcases r5 with e | e
        · have e' : b + 1 = n := e
          omega
        · have e' : m (b + 1) ≠ false := e
          cases h : m (b + 1) with
          | true => rfl
          | false => exact absurd h e'
      obtain ⟨p, hp, p1, p2⟩ := inT (a - 1) (by omega) ma
      obtain ⟨q, hq, q1, q2⟩ := inT (b + 1) (by omega) mb
      obtain ⟨p3, p4, p5, p6, p7⟩ := (mT p).mp hp
      obtain ⟨q3, q4, q5, q6, q7⟩ := (mT q).mp hq
      have rn : ∀ j, a ≤ j → j ≤ b → m j = false := r3
      have ep : p.2 = a - 1 := by
        rcases Nat.lt_or_ge (a - 1) p.2 with w | w
        · have h1 := p5 a (by omega) (by omega)
          rw [rn a (Nat.le_refl _) r1'] at h1
          cases h1
        · omega
      have eq : q.1 = b + 1 := by
        rcases Nat.lt_or_ge q.1 (b + 1) with w | w
        · have h1 := q5 b (by omega) (by omega)
          rw [rn b r1' (Nat.le_refl _)] at h1
          cases h1
        · omega
      refine ⟨(p, q), (zip_next hT p q).mpr ⟨hp, hq, by omega, fun r hr => ?_⟩, ?_⟩
      · obtain ⟨s3, s4, s5, s6, s7⟩ := (mT r).mp hr
        rcases Nat.lt_or_ge p.1 r.1 with w | w
        · have h1 := apart p hp r hr w
          rcases Nat.lt_or_ge r.1 q.1 with w2 | w2
          · exfalso
            have h2 := apart r hr q hq w2
            have h3 := s5 r.1 (Nat.le_refl _) s3
            rw [rn r.1 (by omega) (by omega)] at h3
            cases h3
          · exact .inr w2
        · exact .inl w
      · show (p.2 + 1, q.1 - 1) = (a, b)
        rw [ep, eq]
        have z : a - 1 + 1 = a := by omega
        rw [z]
        rfl
/-! ### the loops' words -/
structure SInv (h : Nat → Int) (n i first : Nat) (L : List Pr) : Prop where
  le : first ≤ i
  run : ∀ j, first ≤ j → j < i → h j = h first
  nxt : first < i → i < n → h i = h (i - 1)
  st : first < n → first = 0 ∨ h (first - 1) ≠ h first
  srt : Srt L
  mem : ∀ q : Pr, q ∈ L ↔ Stre h n q.1 q.2 ∧ q.2 < i
  lt : ∀ q ∈ L, q.1 < first
theorem SInv.zero (h : Nat → Int) (n : Nat) : SInv h n 0 0 [] := ⟨Nat.le_refl _, fun j a b => by omega, fun a => by omega, fun _ => .inl rfl, List.Pairwise.nil, fun q => ⟨(fun z => nomatch z), fun z => by have := z.2; omega⟩, (fun q z => nomatch z)⟩
theorem srt_app {L : List Pr} {p : Pr} (h : Srt L) (lt : ∀ q ∈ L, q.1 < p.1) : Srt (L ++ [p]) := List.pairwise_append.mpr ⟨h, List.pairwise_singleton _ _, fun a ha b hb => by
  rw [List.mem_singleton.mp hb]
  exact lt a ha⟩
theorem SInv.cut {h : Nat → Int} {n i first : Nat} {L : List Pr} (s : SInv h n i first L) (hi : i < n) (c : i + 1 = n ∨ h (i + 1) ≠ h i) : SInv h n (i + 1) (i + 1) (L ++ [(first, i)]) := by
  have ri : ∀ j, first ≤ j → j ≤ i → h j = h first := fun j a b => by
    by_cases z : j = i
    · by_cases w : first = i
      · rw [z, w]
      · have h1 := s.nxt (by have := s.le; omega) hi
        rw [z, h1]
        exact s.run _ (by have := s.le; omega) (by omega)
    · exact s.run j a (by omega)
  have S : Stre h n first i := ⟨s.le, hi, ri, s.st (by have := s.le; omega), by
    rcases c with c | c
    · exact .inl c
    · exact .inr c⟩
  refine ⟨Nat.le_refl _, fun j a b => by omega, fun a => by omega, fun a => .inr ?_, srt_app s.srt s.lt, fun q => ?_, fun q hq => ?_⟩
  · rw [Nat.add_sub_cancel]
    rcases c with c | c
    · omega
    · exact fun z => c z.symm
  · rw [List.mem_append, s.mem, List.mem_singleton]
    constructor
    · rintro (⟨h1, h2⟩ | rfl)
      · exact ⟨h1, by omega⟩
      · exact ⟨S, Nat.lt_succ_self _⟩
    · rintro ⟨h1, h2⟩
      by_cases z : q.2 < i
      · exact .inl ⟨h1, z⟩
      · right
        have e2 : q.2 = i := by omega
        have x := (of_stre h1 h1.1 (Nat.le_refl _)).1
        have y := (of_stre S S.1 (Nat.le_refl _)).1
        rw [e2] at x
        exact Prod.ext (left_uniq x y) e2
  · rcases List.mem_append.mp hq with z | z
    · have h1 := s.lt q z
      have h2 := s.le
      omega
    · rw [List.mem_singleton.mp z]
      have h2 := s.le
      show first < i + 1
      omega
theorem SInv.on {h : Nat → Int} {n i first : Nat} {L : List Pr} (s : SInv h n i first L) (hi : i + 1 < n) (c : h (i + 1) = h i) : SInv h n (i + 1) first L := by
  refine ⟨by have := s.le; omega, fun j a b => ?_, fun a b => by rw [Nat.add_sub_cancel]; exact c, s.st, s.srt, fun q => ?_, s.lt⟩
  · by_cases z : j = i
    · by_cases w : first = i
      · rw [z, w]
      · have h1 := s.nxt (by have := s.le; omega) (by omega)
        rw [z, h1]
        exact s.run _ (by have := s.le; omega) (by omega)
    · exact s.run j a (by omega)
  · rw [s.mem]
    constructor
    · rintro ⟨h1, h2⟩
      exact ⟨h1, by omega⟩
    · rintro ⟨h1, h2⟩
      refine ⟨h1, ?_⟩
      rcases Nat.lt_or_ge q.2 i with z | z
      · exact z
      · exfalso
        have e : q.2 = i := by omega
        have h3 := h1.2.2.2.2
        rw [e] at h3
        rcases h3 with g | g
        · omega
        · exact g c
theorem run_none {m : Nat → Bool} {w : Bool} {a b : Nat} (h : MaxRun m 0 w a b) : False := by
  have := h.2.1
  omega
theorem run_skip {m : Nat → Bool} {i : Nat} {w : Bool} {a b : Nat} (hw : m i ≠ w) : MaxRun m (i + 1) w a b ↔ MaxRun m i w a b := by
  constructor
  · rintro ⟨h1, h2, h3, h4, h5⟩
    have hb : b ≠ i := fun z => hw (by rw [← z]; exact h3 b h1 (Nat.le_refl _))
    exact ⟨h1, by omega, h3, h4, by rcases h5 with e | e; · omega
                                    · exact .inr e⟩
  · rintro ⟨h1, h2, h3, h4, h5⟩
    refine ⟨h1, by omega, h3, h4, .inr ?_⟩
    rcases h5 with e | e
    · rw [e]
      exact hw
    · exact e
theorem run_new {m : Nat → Bool} {i : Nat} {w : Bool} {a b : Nat} (hw : m i = w) (c : i = 0 ∨ m (i - 1) ≠ w) : MaxRun m (i + 1) w a b ↔ MaxRun m i w a b ∨ (a = i ∧ b = i) := by
  constructor
  · rintro ⟨h1, h2, h3, h4, h5⟩
    by_cases z : b = i
    · right
      refine ⟨?_, z⟩
      by_cases y : a = i
      · exact y
      · exfalso
        have := h3 (i - 1) (by omega) (by omega)
        rcases c with c | c
        · omega
        · exact c this
    · left
      refine ⟨h1, by omega, h3, h4, ?_⟩
      rcases h5 with e | e
      · omega
      · exact .inr e
  · rintro (⟨h1, h2, h3, h4, h5⟩ | ⟨rfl, rfl⟩)
    · refine ⟨h1, by omega, h3, h4, .inr ?_⟩
      rcases h5 with e | e
      · exfalso
        have hb := h3 b h1 (Nat.le_refl _)
        rcases c with c | c
        · omega
        · exact c (by rw [show i - 1 = b by omega]; exact hb)
      · exact e
    · exact ⟨Nat.le_refl _, Nat.lt_succ_self _, fun j x y => by rw [show j = b by omega]; exact hw, c, .inl rfl⟩
theorem run_grow {m : Nat → Bool} {i : Nat} {w : Bool} {a b : Nat} (hw : m i = w) (h0 : 0 < i) (c : m (i - 1) = w) : MaxRun m (i + 1) w a b ↔ (MaxRun m i w a b ∧ b + 1 ≠ i) ∨ (b = i ∧ MaxRun m i w a (i - 1)) := by
  constructor
  · rintro ⟨h1, h2, h3, h4, h5⟩
    by_cases z : b = i
    · right
      refine ⟨z, ?_, by omega, fun j x y => h3 j x (by omega), h4, .inl (by omega)⟩
      by_cases y : a = i
      · exfalso
        rcases h4 with e | e
        · omega
        · exact e (by rw [y]; exact c)
      · omega
    · left
      refine ⟨⟨h1, by omega, h3, h4, ?_⟩, fun e => ?_⟩
      · rcases h5 with e | e
        · omega
        · exact .inr e
      · rcases h5 with g | g
        · omega
        · exact g (by rw [e]; exact hw)
  · rintro (⟨⟨h1, h2, h3, h4, h5⟩, hb⟩ | ⟨rfl, h1, h2, h3, h4, h5⟩)
    · exact ⟨h1, by omega, h3, h4, .inr (h5.resolve_left hb)⟩
    · refine ⟨by omega, Nat.lt_succ_self _, fun j x y => ?_, h4, .inl rfl⟩
      by_cases z : j = b
      · rw [z]
        exact hw
      · exact h3 j x (by omega)
/-- where the last sign was w, the last run ends with it -/
theorem run_last {m : Nat → Bool} {i : Nat} {w : Bool} {L : List Pr} (hS : Srt L) (hM : ∀ q : Pr, q ∈ L ↔ MaxRun m i w q.1 q.2) (h0 : 0 < i) (c : m (i - 1) = w) : ∃ L0 a, L = L0 ++ [(a, i - 1)] := by
  have ex : ∃ a, MaxRun m i w a (i - 1) := by
    have lo : ∀ k, k ≤ i - 1 → (∀ j, k ≤ j → j ≤ i - 1 → m j = w) → ∃ a, a ≤ k ∧ (∀ j, a ≤ j → j ≤ i - 1 → m j = w) ∧ (a = 0 ∨ m (a - 1) ≠ w) := by
      intro k
      induction k with
      | zero => intro _ h; exact ⟨0, Nat.le_refl _, h, .inl rfl⟩
      | succ k ih =>
        intro hk h
        by_cases z : m k = w
        · obtain ⟨a, h1, h2, h3⟩ := ih (by omega) fun j x y => by
            by_cases v : j = k
            · rw [v]; exact z
            · exact h j (by omega) y
          exact ⟨a, by omega, h2, h3⟩
        · exact ⟨k + 1, Nat.le_refl _, h, .inr z⟩
    obtain ⟨a, a1, a2, a3⟩ := lo (i - 1) (Nat.le_refl _) fun j x y => by rw [show j = i - 1 by omega]; exact c
    exact ⟨a, a1, by omega, a2, a3, .inl (by omega)⟩
  obtain ⟨a, ha⟩ := ex
  have hin : (a, i - 1) ∈ L := (hM (a, i - 1)).mpr ha
  have hne : L ≠ [] := fun e => by rw [e] at hin; cases hin
  refine ⟨L.dropLast, a, ?_⟩
  have el := List.dropLast_concat_getLast hne
  have hl : L.getLast hne ∈ L := List.getLast_mem hne
  have hlm := (hM _).mp hl
  have e : L.getLast hne = (a, i - 1) := by
    rw [← el] at hin hS
    rcases List.mem_append.mp hin with z | z
    · exfalso
      have h1 := (List.pairwise_append.mp hS).2.2 _ z (L.getLast hne) (by simp)
      have h1' : a < (L.getLast hne).1 := h1
      obtain ⟨g1, g2, g3, g4, g5⟩ := hlm
      obtain ⟨k1, k2, k3, k4, k5⟩ := ha
      rcases g4 with e | e
      · omega
      · exact e (k3 _ (by omega) (by omega))
    · exact (List.mem_singleton.mp z).symm
  rw [← e]
  exact el.symm
end Rv
namespace Rv
open PySem PySem.Spec PyProof.Rows L2
def hf (hs : List Int) : Nat → Int := fun i => hs.getD i 0
theorem at_h {hs : List Int} {z : Int} {k : Nat} (e : z = (k : Int)) (hk : k < hs.length) : atI (hs.map V.int) z = some (.int (hf hs k)) := by
  have q : (hs.map V.int)[k]? = some (V.int (hf hs k)) := by
    rw [map_int_at hk]
    unfold hf
    rw [List.getD_eq_getElem?_getD, List.getElem?_eq_getElem hk]
    rfl
  exact at_of e q
/-- xs are pairs of places -/
def PrAt (H : Hp) (x : V) (q : Pr) : Prop := ∃ t, x = .ref t ∧ H t = some (.tup [.int (q.1 : Int), .int (q.2 : Int)])
def PrsAt (H : Hp) (xs : List V) (L : List Pr) : Prop := Paired (PrAt H) xs L
theorem PrsAt.mono {H H' : Hp} {xs : List V} {L : List Pr} (h : PrsAt H xs L) (e : ∀ t ys, H t = some (.tup ys) → H' t = some (.tup ys)) : PrsAt H' xs L := Paired.mapP h fun x q ⟨t, h1, h2⟩ => ⟨t, h1, e _ _ h2⟩
theorem PrsAt.len {H : Hp} {xs : List V} {L : List Pr} (h : PrsAt H xs L) : xs.length = L.length := Paired.length h
theorem PrsAt.get {H : Hp} : ∀ {xs : List V} {L : List Pr} {i : Nat} {x : V}, PrsAt H xs L → xs[i]? = some x → ∃ q, L[i]? = some q ∧ PrAt H x q
  | _, _, _, _, .nil, h => by simp at h
  | _, _, 0, x, .cons r t, h => ⟨_, rfl, by simp at h; rw [← h]; exact r⟩
  | _, _, i + 1, x, .cons r t, h => by
    obtain ⟨q, h1, h2⟩ := PrsAt.get (i := i) t (by simpa using h)
    exact ⟨q, by simpa using h1, h2⟩
theorem PrsAt.snoc {H : Hp} {xs : List V} {L : List Pr} {x : V} {q : Pr} (h : PrsAt H xs L) (z : PrAt H x q) : PrsAt H (xs ++ [x]) (L ++ [q]) := Paired.snoc h z
def spStretches (K : PySem.W.Frag) : Sp := fun vs H Q _ => ∃ t, ∃ hs : List Int, vs = [.ref t] ∧ H t = some (.tup (hs.map V.int)) ∧ hs.length ≤ 60 ∧
  ∀ p H' xs L, Same H H' → H p = none → H' p = some (.lst xs) → PrsAt H' xs L → L.length ≤ 60 → Srt L → (∀ q : Pr, q ∈ L ↔ Stre (hf hs) hs.length q.1 q.2) → Q (.ref p) H'
def spIsPeak (K : PySem.W.Frag) : Sp := fun vs H Q _ => ∃ t, ∃ hs : List Int, ∃ a b : Nat, vs = [.ref t, .int (a : Int), .int (b : Int)] ∧ H t = some (.tup (hs.map V.int)) ∧ a ≤ b ∧ b < hs.length ∧ Q (.bl (PKb (hf hs) hs.length a b)) H
def spPeaks (K : PySem.W.Frag) (C : Addr) : Sp := fun vs H Q _ => ∃ p, ∃ hs ws : List Int, vs = [.ref p] ∧ PCls K C ∧ ProfAt K C H p hs ws ∧ hs.length ≤ 60 ∧
  ∀ r H' xs L, Same H H' → H r = none → H' r = some (.lst xs) → PrsAt H' xs L → L.length ≤ 60 → Srt L → (∀ q : Pr, q ∈ L ↔ MaxRun (mark (hf hs) hs.length) hs.length true q.1 q.2) → Q (.ref r) H'
def spValleys (K : PySem.W.Frag) (C : Addr) : Sp := fun vs H Q _ => ∃ p, ∃ hs ws : List Int, vs = [.ref p] ∧ PCls K C ∧ ProfAt K C H p hs ws ∧ hs.length ≤ 60 ∧
  ∀ r H' xs L, Same H H' → H r = none → H' r = some (.lst xs) → PrsAt H' xs (gaps L) → Srt L → (∀ q : Pr, q ∈ L ↔ MaxRun (mark (hf hs) hs.length) hs.length true q.1 q.2) → Q (.ref r) H'
def spLIsPeak (K : PySem.W.Frag) : Sp := fun vs H Q _ => ∃ a, ∃ hs : List Int, ∃ i : Nat, vs = [.ref a, .int (i : Int)] ∧ H a = some (.lst (hs.map V.int)) ∧ hs.length ≤ 60 ∧ i < hs.length ∧ Q (.bl (mark (hf hs) hs.length i)) H
def mf (ms : List Bool) : Nat → Bool := fun i => ms.getD i false
def spLRuns (K : PySem.W.Frag) : Sp := fun vs H Q _ => ∃ a, ∃ ms : List Bool, ∃ w : Bool, vs = [.ref a, .bl w] ∧ H a = some (.lst (ms.map V.bl)) ∧ ms.length ≤ 60 ∧
  ∀ p H' xs L, Same H H' → H p = none → H' p = some (.lst xs) → PrsAt H' xs L → Srt L → (∀ q : Pr, q ∈ L ↔ MaxRun (mf ms) ms.length w q.1 q.2) → Q (.ref p) H'
def spLRows (K : PySem.W.Frag) : Sp := fun vs H Q _ => ∃ a xs L, vs = [.ref a] ∧ H a = some (.lst xs) ∧ PrsAt H xs L ∧ Q (.bl true) H
def t_stretches (K : PySem.W.Frag) : TS :=
  (tSeq (tAsg (tLst tNil) (gName 1))
    (tSeq (tAsg (tC (.int 0)) (gName 2))
    (tSeq (tFor (iRng1 (tCons (tCB (cLen K) (tCons (tVar 0) tNil)) tNil)) (gName 3) (tIfS (tOr (tTest (tOp rEq (tOp oAdd (tVar 3) (tC (.int 1))) (tCB (cLen K) (tCons (tVar 0) tNil)))) (tTest (tOp rNe (tOp (rIxT K) (tVar 0) (tOp oAdd (tVar 3) (tC (.int 1)))) (tOp (rIxT K) (tVar 0) (tVar 3))))) (tSeq (tDrop (tBM K "list" rAppend (tVar 1) (tCons (tTup (tCons (tVar 2) (tCons (tVar 3) tNil))) tNil)))
    (tAsg (tOp oAdd (tVar 3) (tC (.int 1))) (gName 2))) tNext))
    (tRet (tVar 1)))))
def t_is_peak (K : PySem.W.Frag) : TS :=
  (tSeq (tAsg (tOrV (tOp rEq (tVar 1) (tC (.int 0))) (tOp oLt (tOp (rIxT K) (tVar 0) (tOp oSub (tVar 1) (tC (.int 1)))) (tOp (rIxT K) (tVar 0) (tVar 1)))) (gName 3))
    (tSeq (tAsg (tOrV (tOp rEq (tOp oAdd (tVar 2) (tC (.int 1))) (tCB (cLen K) (tCons (tVar 0) tNil))) (tOp oLt (tOp (rIxT K) (tVar 0) (tOp oAdd (tVar 2) (tC (.int 1)))) (tOp (rIxT K) (tVar 0) (tVar 2)))) (gName 4))
    (tRet (tAndV (tVar 3) (tVar 4)))))
def t_peaks (K : PySem.W.Frag) (C_Profile : Addr) : TS :=
  (tSeq (tAsg (tProp C_Profile (getSp C_Profile "column_heights") [] E0 (tVar 0)) (gName 1))
    (tRet (tLc (iList K (tCall (spStretches K) [] E0 (tCons (tVar 1) tNil))) (gTup K 2 (gCons (gName 2) (gCons (gName 3) gNil))) (tB (tCall (spIsPeak K) [] E0 (tCons (tVar 1) (tCons (tVar 2) (tCons (tVar 3) tNil))))) (tTup (tCons (tVar 2) (tCons (tVar 3) tNil))) [2, 3])))
def t_valleys (K : PySem.W.Frag) (C_Profile : Addr) : TS :=
  (tSeq (tAsg (tCall (spPeaks K C_Profile) [] E0 (tCons (tVar 0) tNil)) (gName 1))
    (tRet (tLc (iZip K (tCons (tVar 1) (tCons (tSl (rSlL K) (tVar 1) (tPart (tC (.int 1))) tNoPart) tNil))) (gTup K 2 (gCons (gName 2) (gCons (gName 3) gNil))) tYes (tTup (tCons (tOp oAdd (tOp (rIxT K) (tVar 2) (tC (.int 1))) (tC (.int 1))) (tCons (tOp oSub (tOp (rIxT K) (tVar 3) (tC (.int 0))) (tC (.int 1))) tNil))) [2, 3])))
def t__law_is_peak (K : PySem.W.Frag) : TS :=
  (tSeq (tAsg (tVar 1) (gName 2))
    (tSeq (tWhile (tAnd (tTest (tOp oGt (tVar 2) (tC (.int 0)))) (tTest (tOp rEq (tOp (rIxL K) (tVar 0) (tOp oSub (tVar 2) (tC (.int 1)))) (tOp (rIxL K) (tVar 0) (tVar 1))))) (tAsg (tOp oSub (tVar 2) (tC (.int 1))) (gName 2)))
    (tSeq (tAsg (tVar 1) (gName 3))
    (tSeq (tWhile (tAnd (tTest (tOp oLt (tVar 3) (tOp oSub (tCB (cLen K) (tCons (tVar 0) tNil)) (tC (.int 1))))) (tTest (tOp rEq (tOp (rIxL K) (tVar 0) (tOp oAdd (tVar 3) (tC (.int 1)))) (tOp (rIxL K) (tVar 0) (tVar 1))))) (tAsg (tOp oAdd (tVar 3) (tC (.int 1))) (gName 3)))
    (tSeq (tIfS (tAnd (tTest (tOp oGt (tVar 2) (tC (.int 0)))) (tTest (tOp oGt (tOp (rIxL K) (tVar 0) (tOp oSub (tVar 2) (tC (.int 1)))) (tOp (rIxL K) (tVar 0) (tVar 1))))) (tRet (tC (.bl false))) tNext)
    (tRet (tOrV (tOp rEq (tVar 3) (tOp oSub (tCB (cLen K) (tCons (tVar 0) tNil)) (tC (.int 1)))) (tOp oLt (tOp (rIxL K) (tVar 0) (tOp oAdd (tVar 3) (tC (.int 1)))) (tOp (rIxL K) (tVar 0) (tVar 1))))))))))
def t__law_runs (K : PySem.W.Frag) : TS :=
  (tSeq (tAsg (tLst tNil) (gName 2))
    (tSeq (tFor (iRng1 (tCons (tCB (cLen K) (tCons (tVar 0) tNil)) tNil)) (gName 3) (tIfS (tAnd (tTest (tOp rEq (tOp (rIxL K) (tVar 0) (tVar 3)) (tVar 1))) (tAnd (tTest (tOp oGt (tVar 3) (tC (.int 0)))) (tTest (tOp rEq (tOp (rIxL K) (tVar 0) (tOp oSub (tVar 3) (tC (.int 1)))) (tVar 1))))) (tAsg (tTup (tCons (tOp (rIxT K) (tOp (rIxL K) (tVar 2) (tUn (rU fun i => .int (-i)) (tC (.int 1)))) (tC (.int 0))) (tCons (tVar 3) tNil))) (gSub (tVar 2) (tUn (rU fun i => .int (-i)) (tC (.int 1))) rSetL)) (tIfS (tTest (tOp rEq (tOp (rIxL K) (tVar 0) (tVar 3)) (tVar 1))) (tDrop (tBM K "list" rAppend (tVar 2) (tCons (tTup (tCons (tVar 3) (tCons (tVar 3) tNil))) tNil))) tNext)))
    (tRet (tVar 2))))
def t__law_rows (K : PySem.W.Frag) : TS :=
  (tSeq (tIfS (tNot (tB (tCB (rIsi K) (tCons (tVar 0) (tCons (tC (.ty "list")) tNil))))) (tRet (tC (.bl false))) tNext)
    (tSeq (tFor (iList K (tVar 0)) (gName 1) (tSeq (tIfS (tOr (tNot (tB (tCB (rIsi K) (tCons (tVar 1) (tCons (tC (.ty "tuple")) tNil))))) (tTest (tOp rNe (tCB (cLen K) (tCons (tVar 1) tNil)) (tC (.int 2))))) (tRet (tC (.bl false))) tNext)
    (tFor (iTup K (tVar 1)) (gName 2) (tIfS (tOr (tNot (tB (tCB (rIsi K) (tCons (tVar 2) (tCons (tC (.ty "int")) tNil))))) (tB (tCB (rIsi K) (tCons (tVar 2) (tCons (tC (.ty "bool")) tNil))))) (tRet (tC (.bl false))) tNext))))
    (tRet (tC (.bl true)))))
local macro_rules | `(tactic| walk_at "rv st") => `(tactic| first
  | with_reducible refine iteT ?_ | with_reducible refine iteF ?_ | with_reducible refine w_nx ?_ | with_reducible refine w_yes ?_ | with_reducible refine w_rt ?_ | with_reducible refine iteNT ?_ | with_reducible refine iteNF ?_ | with_reducible refine iteNRf ?_ | with_reducible refine iteRf ?_ | with_reducible refine w_seqA ?_ | with_reducible refine w_seqD ?_ | with_reducible refine w_seqP ?_ | with_reducible refine w_asg ?_ | with_reducible refine w_ret ?_ | with_reducible refine w_drop ?_ | with_reducible refine w_ifs ?_ | with_reducible refine w_next ?_ | with_reducible refine w_par ?_
  | with_reducible refine w_op ?_ | with_reducible refine w_un ?_ | ((with_reducible show tVar _ _ _ _); refine' w_var ?hv ?_; (case hv => exact rfl)) | with_reducible refine w_c ?_ | with_reducible refine w_test ?_ | with_reducible refine w_tB ?_
  | with_reducible refine w_bl ?_ | with_reducible refine w_I0 ?_ | with_reducible refine w_U ?_ | with_reducible refine w_eqI ?_ | with_reducible refine w_neI ?_
  | with_reducible refine w_cons ?_ | with_reducible refine w_nil ?_ | with_reducible refine w_gn ?_ | with_reducible refine w_gsub ?_ | with_reducible refine w_and ?_ | with_reducible refine w_or ?_ | with_reducible refine w_not ?_
  | with_reducible refine w_andV ?_ | with_reducible refine w_orV ?_ | with_reducible refine w_notV ?_ | with_reducible refine w_if ?_ | with_reducible refine w_cb ?_ | with_reducible refine w_call ?_ | with_reducible refine w_lst ?_ | with_reducible refine w_tup ?_
  | with_reducible refine w_sl ?_ | with_reducible refine w_noPart ?_ | with_reducible refine w_part ?_ | with_reducible refine w_ex1 ?_ | with_reducible refine w_exb ?_ | with_reducible refine w_intB ?_ | with_reducible refine w_intI ?_ | with_reducible refine w_abs ?_)
local macro_rules | `(tactic| walk_at "rv ix") => `(tactic| ((with_reducible show rIxL _ _ _ _ _); refine' w_ixL (sq_lst ?ha) ?hb ?_; (case ha => first | exact upd_same | assumption); (case hb => first | exact rfl | assumption)))
local macro_rules | `(tactic| walk_at "rv ar") => `(tactic| first
  | (refine' w_I ?hc ?_; (case hc => first | (show (0 : Int) < _; first | assumption | decide | omega) | exact pow_c (by decide) (by decide) (by first | decide | omega) (by first | decide | omega) | exact mul_r (by first | decide | omega) (by first | decide | omega) | exact mul_l (by first | decide | omega) (by first | decide | omega) | exact divw (by first | assumption | decide | omega) (by first | assumption | decide | omega))))
local macro_rules | `(tactic| walk_at "rv go") => `(tactic| repeat first | walk_at "rv st" | walk_at "rv ix" | ((with_reducible show rI _ _ _ _ _ _); walk_at "rv ar"))
theorem dec_i {a b : Nat} (x y : Int) (h : (x = y) ↔ (a = b)) : decide (x = y) = decide (a = b) := decide_eq_decide.mpr h
theorem p_stretches {K : PySem.W.Frag} {vs : List V} {H : Hp} {Q : VK} {E : XK} (h : spStretches K vs H Q E) : t_stretches K { nx := fun _ H' => Q .non H', rt := Q } (start ["heights", "runs", "first", "column"] vs) H := by
  obtain ⟨t, hs, rfl, ht, h60, k⟩ := h
  unfold t_stretches
  walk_at "rv go"
  refine ⟨szl (by decide), fun p np => ?_⟩
  walk_at "rv go"
  have e1 := same_new (o := .lst []) (Same.refl H) np
  have npt : t ≠ p := ne_of_none ht np
  refine w_seq ?_
  refine w_forR (n := hs.length) (by omega) (fun AQ q => ?_) (fun i σ' H' => ∃ first : Nat, ∃ c : Option V, ∃ xs L, σ' = [some (.ref t), some (.ref p), some (.int (first : Int)), c] ∧ H' t = some (.tup (hs.map V.int)) ∧ H' p = some (.lst xs) ∧ Same H H' ∧ PrsAt H' xs L ∧ SInv (hf hs) hs.length i first L ∧ L.length ≤ i)
    ⟨0, none, [], [], rfl, e1 _ _ ht, upd_same, e1, .nil, SInv.zero _ _, Nat.le_refl _⟩ ?_ ?_
  · walk_at "rv go"
    refine w_lenT (sq_tup (e1 _ _ ht)) ?_
    walk_at "rv go"
    rw [List.length_map]
    exact q
  · rintro i σ' H' hi ⟨first, c, xs, L, rfl, ht', hp', e', hP, hI, hL⟩
    have cut : (i + 1 = hs.length ∨ hf hs (i + 1) ≠ hf hs i) → (tSeq (tDrop (tBM K "list" rAppend (tVar 1) (tCons (tTup (tCons (tVar 2) (tCons (tVar 3) tNil))) tNil))) (tAsg (tOp oAdd (tVar 3) (tC (.int 1))) (gName 2)))
        { nx := (fun i σ' H' => ∃ first : Nat, ∃ c : Option V, ∃ xs L, σ' = [some (.ref t), some (.ref p), some (.int (first : Int)), c] ∧ H' t = some (.tup (hs.map V.int)) ∧ H' p = some (.lst xs) ∧ Same H H' ∧ PrsAt H' xs L ∧ SInv (hf hs) hs.length i first L ∧ L.length ≤ i) (i + 1), rt := Q } [some (.ref t), some (.ref p), some (.int (first : Int)), some (.int (i : Int))] H' := by
      intro hc
      walk_at "rv go"
      refine w_bm rfl hp' ?_
      walk_at "rv go"
      refine ⟨szl (by simp), fun T nT => ?_⟩
      walk_at "rv go"
      have pT : p ≠ T := ne_of_none hp' nT
      refine w_appR (by rw [upd_ne pT]; exact hp') (by rw [hP.len]; omega) ?_
      walk_at "rv go"
      have tT : t ≠ T := ne_of_none ht' nT
      refine ⟨i + 1, _, _, _, rfl, ?_, upd_same, ?_, PrsAt.snoc (hP.mono fun u ys hu => ?_) ⟨T, rfl, ?_⟩, hI.cut hi hc, ?_⟩
      · rw [upd_ne npt, upd_ne tT]
        exact ht'
      · exact fun b o hb => by
          have nb : b ≠ p := ne_of_none hb np
          rw [upd_ne nb, upd_ne (ne_of_none (e' _ _ hb) nT)]
          exact e' _ _ hb
      · have nu : u ≠ p := ne_of hu hp' (fun z => nomatch z)
        rw [upd_ne nu, upd_ne (ne_of_none hu nT)]
        exact hu
      · rw [upd_ne pT.symm, upd_same]
      · rw [List.length_append]
        show L.length + 1 ≤ i + 1
        omega
    refine w_ifs ?_
    walk_at "rv go"
    refine w_lenT (sq_tup ht') ?_
    walk_at "rv go"
    rw [List.length_map]
    refine w_both (fun h1 => ?_) (fun h1 => ?_)
    · refine iteT ?_
      exact cut (.inl (by omega))
    · walk_at "rv go"
      refine w_ixT (sq_tup ht') (at_h (k := i + 1) (by omega) (by omega)) ?_
      walk_at "rv go"
      refine w_ixT (sq_tup ht') (at_h (k := i) rfl hi) ?_
      walk_at "rv go"
      refine w_bothN (fun h2 => ?_) (fun h2 => ?_)
      · exact cut (.inr h2)
      · walk_at "rv go"
        exact ⟨first, _, xs, L, rfl, ht', hp', e', hP, hI.on (by omega) h2, by omega⟩
  · rintro σ' H' ⟨first, c, xs, L, rfl, ht', hp', e', hP, hI, hL⟩
    walk_at "rv go"
    refine k p H' xs L e' np hp' hP (by omega) hI.srt fun q => ?_
    rw [hI.mem]
    constructor
    · exact fun z => z.1
    · exact fun z => ⟨z, z.2.1⟩
theorem p_isPeak {K : PySem.W.Frag} {vs : List V} {H : Hp} {Q : VK} {E : XK} (h : spIsPeak K vs H Q E) : t_is_peak K { nx := fun _ H' => Q .non H', rt := Q } (start ["heights", "first", "last", "left_is_lower", "right_is_lower"] vs) H := by
  obtain ⟨t, hs, a, b, rfl, ht, hab, hb, k⟩ := h
  unfold t_is_peak
  refine w_cut (fun σ' H' => σ' = [some (.ref t), some (.int (a : Int)), some (.int (b : Int)), some (.bl (decide (a = 0) || decide (hf hs (a - 1) < hf hs a))), none] ∧ H' = H) (fun N key => ?_) ?_
  · refine w_asg ?_
    walk_at "rv go"
    refine w_both (fun h1 => ?_) (fun h1 => ?_)
    · have e : a = 0 := by omega
      walk_at "rv go"
      refine key _ _ ⟨?_, rfl⟩
      rw [decide_eq_true e, Bool.true_or]
      rfl
    · have e : ¬ a = 0 := by omega
      walk_at "rv go"
      refine w_ixT (sq_tup ht) (at_h (k := a - 1) (by omega) (by omega)) ?_
      walk_at "rv go"
      refine w_ixT (sq_tup ht) (at_h (k := a) rfl (by omega)) ?_
      walk_at "rv go"
      refine key _ _ ⟨?_, rfl⟩
      rw [decide_eq_false e, Bool.false_or]
      rfl
  · rintro σ1 H1 ⟨rfl, rfl⟩
    refine w_cut (fun σ' H' => σ' = [some (.ref t), some (.int (a : Int)), some (.int (b : Int)), some (.bl (decide (a = 0) || decide (hf hs (a - 1) < hf hs a))), some (.bl (decide (b + 1 = hs.length) || decide (hf hs (b + 1) < hf hs b)))] ∧ H' = H1) (fun N key => ?_) ?_
    · refine w_asg ?_
      walk_at "rv go"
      refine w_lenT (sq_tup ht) ?_
      walk_at "rv go"
      rw [List.length_map]
      refine w_both (fun h1 => ?_) (fun h1 => ?_)
      · have e : b + 1 = hs.length := by omega
        walk_at "rv go"
        refine key _ _ ⟨?_, rfl⟩
        rw [decide_eq_true e, Bool.true_or]
        rfl
      · have e : ¬ b + 1 = hs.length := by omega
        walk_at "rv go"
        refine w_ixT (sq_tup ht) (at_h (k := b + 1) (by omega) (by omega)) ?_
        walk_at "rv go"
        refine w_ixT (sq_tup ht) (at_h (k := b) rfl (by omega)) ?_
        walk_at "rv go"
        refine key _ _ ⟨?_, rfl⟩
        rw [decide_eq_false e, Bool.false_or]
        rfl
    · rintro σ2 H2 ⟨rfl, rfl⟩
      unfold PKb at k
      cases h1 : (decide (a = 0) || decide (hf hs (a - 1) < hf hs a)) with
      | true =>
        rw [h1, Bool.true_and] at k
        walk_at "rv go"
        exact k
      | false =>
        rw [h1, Bool.false_and] at k
        walk_at "rv go"
        exact k
theorem p_peaks {K : PySem.W.Frag} {C : Addr} {vs : List V} {H : Hp} {Q : VK} {E : XK} (h : spPeaks K C vs H Q E) : t_peaks K C { nx := fun _ H' => Q .non H', rt := Q } (start ["profile", "heights", "first", "last"] vs) H := by
  obtain ⟨p, hs, ws, rfl, P, ⟨dx, t1, t2, hp, h1, h2⟩, h60, k⟩ := h
  unfold t_peaks
  walk_at "rv go"
  refine w_prop rfl hp ?_
  refine ⟨p, dx, _, _, rfl, hp, pfl_h _ _, ?_⟩
  walk_at "rv go"
  refine w_lcl ?_
  walk_at "rv go"
  refine ⟨t1, hs, rfl, h1, h60, fun r H1 xs L e1 nr hr hP hL60 hS hM => ?_⟩
  refine ⟨r, rfl, ?_⟩
  refine w_lcA (sq_lst hr) (fun D i acc H' => ∃ L', H D = none ∧ Same H1 H' ∧ H1 D = none ∧ H' D = some (.lst acc) ∧ PrsAt H' acc L' ∧ L' = (L.take i).filter (fun q => PKb (hf hs) hs.length q.1 q.2) ∧ acc.length ≤ i)
    (fun D nD => ⟨[], e1.free nD, same_new (Same.refl H1) nD, nD, upd_same, .nil, by rw [List.take_zero]; rfl, Nat.le_refl _⟩) (fun D i acc H' ⟨_, _, e, _⟩ => sq_lst (e _ _ hr)) ?_ ?_
  · rintro D i acc x H' hx ⟨L', nD0, e', nD, hD, hP', hL', hl⟩
    obtain ⟨q, hq, T, rfl, hT⟩ := hP.get hx
    refine ⟨T, _, rfl, sq_tup (e' _ _ hT), rfl, _, _, rfl, _, _, rfl, rfl, rfl, ?_⟩
    walk_at "rv go"
    have hqL : q ∈ L := List.mem_of_getElem? hq
    obtain ⟨s1, s2, _⟩ := (hM q).mp hqL
    have il : i < L.length := (List.getElem?_eq_some_iff.mp hq).1
    have etk : L.take (i + 1) = L.take i ++ [q] := by rw [List.take_add_one, hq]; rfl
    refine ⟨t1, hs, q.1, q.2, rfl, e' _ _ (e1 _ _ h1), s1, s2, ?_⟩
    walk_at "rv go"
    cases hb : PKb (hf hs) hs.length q.1 q.2 with
    | true =>
      refine iteT ?_
      walk_at "rv go"
      refine ⟨szl (by simp), fun U nU => ?_⟩
      have DU : D ≠ U := ne_of_none hD nU
      refine ⟨acc, by rw [upd_ne DU]; exact hD, Nat.lt_of_lt_of_le (by omega : acc.length < 100001) (by decide), acc ++ [.ref U], L' ++ [q], nD0, ?_, nD, upd_same, PrsAt.snoc (hP'.mono fun u ys hu => ?_) ⟨U, rfl, ?_⟩, ?_, ?_⟩
      · exact fun b o hb => by
          rw [upd_ne (ne_of_none hb nD), upd_ne (ne_of_none (e' _ _ hb) nU)]
          exact e' _ _ hb
      · rw [upd_ne (ne_of hu hD (fun z => nomatch z)), upd_ne (ne_of_none hu nU)]
        exact hu
      · rw [upd_ne DU.symm, upd_same]
      · rw [etk, List.filter_append, ← hL']
        show L' ++ [q] = L' ++ List.filter _ [q]
        rw [List.filter_cons_of_pos (by exact hb)]
        rfl
      · rw [List.length_append]
        show acc.length + 1 ≤ i + 1
        omega
    | false =>
      refine iteF ?_
      refine ⟨acc, L', nD0, e', nD, hD, hP', ?_, by omega⟩
      rw [etk, List.filter_append, ← hL', List.filter_cons_of_neg (by rw [hb]; exact Bool.false_ne_true), List.filter_nil, List.append_nil]
  · rintro D acc H' ⟨L', nD0, e', nD, hD, hP', hL', hl⟩
    rw [hP.len, List.take_length] at hL'
    refine k D H' acc L' (e1.trans e') nD0 hD hP' (by rw [← hP'.len]; have := hP.len; omega) (by rw [hL']; exact List.Pairwise.filter _ hS) fun q => ?_
    rw [hL', List.mem_filter, hM, ← peak_run]
theorem p_valleys {K : PySem.W.Frag} {C : Addr} {vs : List V} {H : Hp} {Q : VK} {E : XK} (h : spValleys K C vs H Q E) : t_valleys K C { nx := fun _ H' => Q .non H', rt := Q } (start ["profile", "tops", "left", "right"] vs) H := by
  obtain ⟨p, hs, ws, rfl, P, hp, h60, k⟩ := h
  unfold t_valleys
  walk_at "rv go"
  refine ⟨p, hs, ws, rfl, P, hp, h60, fun r H1 xs L e1 nr hr hP hL60 hS hM => ?_⟩
  walk_at "rv go"
  refine w_lcz ?_
  walk_at "rv go"
  refine w_slL (sq_lst hr) fun r2 n2 => ?_
  have nr2 : r ≠ r2 := ne_of_none hr n2
  have hr' : upd H1 r2 (.lst (cutV xs (some 1) none)) r = some (.lst xs) := by rw [upd_ne nr2]; exact hr
  have hcut : cutV xs (some 1) none = xs.tail := by
    unfold cutV
    rw [show HT.sIx xs.length xs.length none = xs.length from rfl]
    cases xs with
    | nil => rfl
    | cons x s =>
      have e : HT.sIx (x :: s).length 0 (some 1) = 1 := by
        show min 1 (s.length + 1) = 1
        omega
      rw [e]
      show (s.drop 0).take (s.length + 1 - 1) = s
      rw [List.drop_zero, Nat.add_sub_cancel, List.take_length]
  walk_at "rv go"
  rw [hcut] at hr' ⊢
  have e2 : Same H1 (upd H1 r2 (.lst xs.tail)) := same_new (Same.refl H1) n2
  refine ⟨r, r2, xs, xs.tail, rfl, sq_lst hr', sq_lst upd_same, fun D nD => ?_⟩
  refine w_lcZ (fun D i acc H' => ∃ L', H D = none ∧ Same (upd H1 r2 (.lst xs.tail)) H' ∧ upd H1 r2 (.lst xs.tail) D = none ∧ H' D = some (.lst acc) ∧ PrsAt H' acc L' ∧ L' = ((L.zip L.tail).take i).map (fun x => gap x.1 x.2) ∧ acc.length ≤ i)
    ⟨[], (e1.trans e2).free nD, same_new (Same.refl _) nD, nD, upd_same, .nil, by rw [List.take_zero]; rfl, Nat.le_refl _⟩ (fun i acc H' ⟨_, _, e, _⟩ => ⟨sq_lst (e _ _ hr'), sq_lst (e _ _ upd_same)⟩) ?_ ?_
  · rintro i acc x y T H' hx hy ⟨L', nD0, e', nD', hD, hP', hL', hl⟩ nT
    have DT : D ≠ T := ne_of_none hD nT
    obtain ⟨q, hq, T1, rfl, hT1⟩ := hP.get hx
    have hy' : xs[i + 1]? = some y := by
      rw [← hy, List.getElem?_tail]
    obtain ⟨q2, hq2, T2, rfl, hT2⟩ := hP.get hy'
    refine ⟨T, _, rfl, sq_tup upd_same, rfl, _, _, rfl, _, _, rfl, rfl, rfl, ?_⟩
    walk_at "rv go"
    have g1 : upd H' T (.tup [.ref T1, .ref T2]) T1 = some (.tup [.int (q.1 : Int), .int (q.2 : Int)]) := by
      have z := e' _ _ (e2 _ _ hT1)
      rw [upd_ne (ne_of_none z nT)]
      exact z
    have g2 : upd H' T (.tup [.ref T1, .ref T2]) T2 = some (.tup [.int (q2.1 : Int), .int (q2.2 : Int)]) := by
      have z := e' _ _ (e2 _ _ hT2)
      rw [upd_ne (ne_of_none z nT)]
      exact z
    walk_at "rv go"
    refine w_ixT (sq_tup g1) rfl ?_
    walk_at "rv go"
    refine w_ixT (sq_tup g2) rfl ?_
    walk_at "rv go"
    refine ⟨szl (by simp), fun U nU => ?_⟩
    have hD2 : upd H' T (.tup [.ref T1, .ref T2]) D = some (.lst acc) := by rw [upd_ne DT]; exact hD
    have DU : D ≠ U := ne_of_none hD2 nU
    have hz : (L.zip L.tail)[i]? = some (q, q2) := by
      rw [List.getElem?_zip_eq_some]
      exact ⟨hq, by rw [List.getElem?_tail]; exact hq2⟩
    have lt12 : 0 < q2.1 := by
      have hm := (zip_next hS q q2).mp (List.mem_of_getElem? hz)
      omega
    have iL : i < L.length := (List.getElem?_eq_some_iff.mp hq).1
    refine ⟨acc, by rw [upd_ne DU]; exact hD2, Nat.lt_of_lt_of_le (by omega : acc.length < 100001) (by decide), acc ++ [.ref U], L' ++ [gap q q2], nD0, ?_, nD', upd_same, PrsAt.snoc (hP'.mono fun u ys hu => ?_) ⟨U, rfl, ?_⟩, ?_, ?_⟩
    · exact fun b o hb => by
        have z := e' _ _ hb
        rw [upd_ne (ne_of_none hb nD')]
        have z2 : upd H' T (.tup [.ref T1, .ref T2]) b = some o := by rw [upd_ne (ne_of_none z nT)]; exact z
        rw [upd_ne (ne_of_none z2 nU)]
        exact z2
    · have z2 : upd H' T (.tup [.ref T1, .ref T2]) u = some (.tup ys) := by rw [upd_ne (ne_of_none hu nT)]; exact hu
      rw [upd_ne (ne_of hu hD (fun z => nomatch z)), upd_ne (ne_of_none z2 nU)]
      exact z2
    · rw [upd_ne DU.symm, upd_same]
      show some (HO.tup [.int ((q.2 : Int) + 1), .int ((q2.1 : Int) - 1)]) = some (HO.tup [.int (((q.2 + 1 : Nat)) : Int), .int (((q2.1 - 1 : Nat)) : Int)])
      rw [show (((q.2 + 1 : Nat)) : Int) = (q.2 : Int) + 1 by omega, show (((q2.1 - 1 : Nat)) : Int) = (q2.1 : Int) - 1 by omega]
    · rw [List.take_add_one, hz, List.map_append, ← hL']
      rfl
    · rw [List.length_append]
      show acc.length + 1 ≤ i + 1
      omega
  · rintro acc H' ⟨L', nD0, e', nD', hD, hP', hL', hl⟩
    have el : min xs.length xs.tail.length = (L.zip L.tail).length := by
      rw [List.length_zip, List.length_tail, List.length_tail, hP.len]
    rw [el, List.take_length] at hL'
    refine k D H' acc L ((e1.trans e2).trans e') nD0 hD ?_ hS hM
    rw [hL'] at hP'
    exact hP'
theorem p_lIsPeak {K : PySem.W.Frag} {vs : List V} {H : Hp} {Q : VK} {E : XK} (h : spLIsPeak K vs H Q E) : t__law_is_peak K { nx := fun _ H' => Q .non H', rt := Q } (start ["_law_heights_here", "_law_at", "_law_left", "_law_right"] vs) H := by
  obtain ⟨a, hs, i, rfl, ha, h60, hi, k⟩ := h
  have hl := sq_lst (K := K) ha
  unfold t__law_is_peak
  walk_at "rv go"
  refine w_cut (fun σ' H' => ∃ l : Nat, σ' = [some (.ref a), some (.int (i : Int)), some (.int (l : Int)), none] ∧ H' = H ∧ LeftOf (hf hs) i l) (fun N key => ?_) ?_
  · refine w_while (fun m σ' H' => ∃ l : Nat, m = l ∧ σ' = [some (.ref a), some (.int (i : Int)), some (.int (l : Int)), none] ∧ H' = H ∧ l ≤ i ∧ ∀ j, l ≤ j → j ≤ i → hf hs j = hf hs i) (m := i) ⟨i, rfl, rfl, rfl, Nat.le_refl _, fun j x y => by rw [show j = i by omega]⟩ ?_
    rintro m σ' H' ⟨l, rfl, rfl, rfl, hli, hall⟩
    walk_at "rv go"
    refine w_both (fun h1 => ?_) (fun h1 => ?_)
    · walk_at "rv go"
      refine w_ixL hl (at_h (k := m - 1) (by omega) (by omega)) ?_
      walk_at "rv go"
      refine w_ixL hl (at_h (k := i) rfl hi) ?_
      walk_at "rv go"
      refine w_both (fun h2 => ?_) (fun h2 => ?_)
      · refine w_turn ?_
        refine w_asg ?_
        walk_at "rv go"
        refine ⟨m - 1, by omega, m - 1, rfl, ?_, rfl, by omega, fun j x y => ?_⟩
        · show [some (V.ref a), some (V.int (i : Int)), some (V.int ((m : Int) - 1)), none] = _
          rw [show ((m - 1 : Nat) : Int) = (m : Int) - 1 by omega]
        · by_cases z : j = m - 1
          · rw [z]
            exact h2
          · exact hall j (by omega) y
      · exact key _ _ ⟨m, rfl, rfl, hli, hall, .inr h2⟩
    · walk_at "rv go"
      exact key _ _ ⟨m, rfl, rfl, hli, hall, .inl (by omega)⟩
  · rintro σ1 H1 ⟨l, rfl, rfl, hL⟩
    walk_at "rv go"
    refine w_cut (fun σ' H' => ∃ r : Nat, σ' = [some (.ref a), some (.int (i : Int)), some (.int (l : Int)), some (.int (r : Int))] ∧ H' = H1 ∧ RightOf (hf hs) hs.length i r) (fun N key => ?_) ?_
    · refine w_while (fun m σ' H' => ∃ r : Nat, m + r = hs.length ∧ σ' = [some (.ref a), some (.int (i : Int)), some (.int (l : Int)), some (.int (r : Int))] ∧ H' = H1 ∧ i ≤ r ∧ r < hs.length ∧ ∀ j, i ≤ j → j ≤ r → hf hs j = hf hs i) (m := hs.length - i) ⟨i, by omega, rfl, rfl, Nat.le_refl _, hi, fun j x y => by rw [show j = i by omega]⟩ ?_
      rintro m σ' H' ⟨r, hm, rfl, rfl, hir, hrn, hall⟩
      walk_at "rv go"
      refine w_lenL hl ?_
      walk_at "rv go"
      rw [List.length_map]
      refine w_both (fun h1 => ?_) (fun h1 => ?_)
      · walk_at "rv go"
        refine w_ixL hl (at_h (k := r + 1) (by omega) (by omega)) ?_
        walk_at "rv go"
        refine w_ixL hl (at_h (k := i) rfl hi) ?_
        walk_at "rv go"
        refine w_both (fun h2 => ?_) (fun h2 => ?_)
        · refine w_turn ?_
          refine w_asg ?_
          walk_at "rv go"
          refine ⟨m - 1, by omega, r + 1, by omega, rfl, rfl, by omega, by omega, fun j x y => ?_⟩
          by_cases z : j = r + 1
          · rw [z]
            exact h2
          · exact hall j x (by omega)
        · exact key _ _ ⟨r, rfl, rfl, hir, hrn, hall, .inr h2⟩
      · walk_at "rv go"
        exact key _ _ ⟨r, rfl, rfl, hir, hrn, hall, .inl (by omega)⟩
    · rintro σ2 H2 ⟨r, rfl, rfl, hR⟩
      have em : mark (hf hs) hs.length i = PKb (hf hs) hs.length l r := mark_stre (stre_of hL hR) hL.1 hR.1
      rw [em] at k
      obtain ⟨l1, l2, l3⟩ := hL
      obtain ⟨r1, r2, r3, r4⟩ := hR
      have el : hf hs l = hf hs i := l2 l (Nat.le_refl _) l1
      have er : hf hs r = hf hs i := r3 r r1 (Nat.le_refl _)
      have left : l = 0 ∨ hf hs (l - 1) < hf hs l → Q (.bl (decide (r + 1 = hs.length) || decide (hf hs (r + 1) < hf hs r))) H2 := fun z => by
        unfold PKb at k
        have e : (decide (l = 0) || decide (hf hs (l - 1) < hf hs l)) = true := by simp only [Bool.or_eq_true, decide_eq_true_eq]; exact z
        rw [e, Bool.true_and] at k
        exact k
      refine w_cut (fun σ' H' => σ' = [some (.ref a), some (.int (i : Int)), some (.int (l : Int)), some (.int (r : Int))] ∧ H' = H2 ∧ (l = 0 ∨ hf hs (l - 1) < hf hs l)) (fun N key => ?_) ?_
      · refine w_ifs ?_
        walk_at "rv go"
        refine w_both (fun h1 => ?_) (fun h1 => ?_)
        · walk_at "rv go"
          refine w_ixL hl (at_h (k := l - 1) (by omega) (by omega)) ?_
          walk_at "rv go"
          refine w_ixL hl (at_h (k := i) rfl hi) ?_
          walk_at "rv go"
          refine w_both (fun h2 => ?_) (fun h2 => ?_)
          · walk_at "rv go"
            have e : (decide (l = 0) || decide (hf hs (l - 1) < hf hs l)) = false := by
              simp only [Bool.or_eq_false_iff, decide_eq_false_iff_not]
              constructor <;> omega
            unfold PKb at k
            rw [e, Bool.false_and] at k
            exact k
          · walk_at "rv go"
            refine key _ _ ⟨rfl, rfl, .inr ?_⟩
            rcases l3 with z | z <;> omega
        · walk_at "rv go"
          exact key _ _ ⟨rfl, rfl, .inl (by omega)⟩
      · rintro σ3 H3 ⟨rfl, rfl, hz⟩
        have q := left hz
        walk_at "rv go"
        refine w_lenL hl ?_
        walk_at "rv go"
        rw [List.length_map]
        refine w_both (fun h1 => ?_) (fun h1 => ?_)
        · have e : r + 1 = hs.length := by omega
          walk_at "rv go"
          rw [decide_eq_true e, Bool.true_or] at q
          exact q
        · have e : ¬ r + 1 = hs.length := by omega
          rw [decide_eq_false e, Bool.false_or, er] at q
          walk_at "rv go"
          refine w_ixL hl (at_h (k := r + 1) (by omega) (by omega)) ?_
          walk_at "rv go"
          refine w_ixL hl (at_h (k := i) rfl hi) ?_
          walk_at "rv go"
          exact q
theorem at_m {ms : List Bool} {z : Int} {k : Nat} (e : z = (k : Int)) (hk : k < ms.length) : atI (ms.map V.bl) z = some (.bl (mf ms k)) := by
  have q : (ms.map V.bl)[k]? = some (V.bl (mf ms k)) := by
    unfold mf
    rw [List.getElem?_map, List.getD_eq_getElem?_getD, List.getElem?_eq_getElem hk]
    rfl
  exact at_of e q
theorem prs_snoc_inv {H : Hp} {xs : List V} {L : List Pr} {q : Pr} (h : PrsAt H xs (L ++ [q])) : ∃ ys y, xs = ys ++ [y] ∧ PrsAt H ys L ∧ PrAt H y q := by
  have hl := h.len
  rw [List.length_append] at hl
  have hne : xs ≠ [] := fun e => by
    rw [e] at hl
    simp at hl
  have el := List.dropLast_concat_getLast hne
  have key : ∀ {ys : List V} {L : List Pr} {y : V} {q : Pr}, PrsAt H (ys ++ [y]) (L ++ [q]) → PrsAt H ys L ∧ PrAt H y q := by
    intro ys
    induction ys with
    | nil =>
      intro L y q h
      cases L with
      | nil =>
        cases h with
        | cons a b => exact ⟨.nil, a⟩
      | cons l r =>
        have := h.len
        simp at this
    | cons z r ih =>
      intro L y q h
      cases L with
      | nil =>
        have := h.len
        simp at this
      | cons l s =>
        cases h with
        | cons a b =>
          obtain ⟨h1, h2⟩ := ih b
          exact ⟨.cons a h1, h2⟩
  rw [← el] at h
  obtain ⟨h1, h2⟩ := key h
  exact ⟨_, _, el.symm, h1, h2⟩
theorem p_lRuns {K : PySem.W.Frag} {vs : List V} {H : Hp} {Q : VK} {E : XK} (h : spLRuns K vs H Q E) : t__law_runs K { nx := fun _ H' => Q .non H', rt := Q } (start ["_law_marks", "_law_wanted", "_law_found", "_law_at"] vs) H := by
  obtain ⟨a, ms, w, rfl, ha, h60, k⟩ := h
  unfold t__law_runs
  walk_at "rv go"
  refine ⟨szl (by decide), fun p np => ?_⟩
  walk_at "rv go"
  have e1 := same_new (o := .lst []) (Same.refl H) np
  have nap : a ≠ p := ne_of_none ha np
  refine w_seq ?_
  refine w_forR (n := ms.length) (by omega) (fun AQ q => ?_) (fun i σ' H' => ∃ c : Option V, ∃ xs L, σ' = [some (.ref a), some (.bl w), some (.ref p), c] ∧ H' a = some (.lst (ms.map V.bl)) ∧ H' p = some (.lst xs) ∧ Same H H' ∧ PrsAt H' xs L ∧ Srt L ∧ (∀ q : Pr, q ∈ L ↔ MaxRun (mf ms) i w q.1 q.2) ∧ L.length ≤ i)
    ⟨none, [], [], rfl, e1 _ _ ha, upd_same, e1, .nil, List.Pairwise.nil, fun q => ⟨(fun z => nomatch z), fun z => (run_none z).elim⟩, Nat.le_refl _⟩ ?_ ?_
  · walk_at "rv go"
    refine w_lenL (sq_lst (e1 _ _ ha)) ?_
    walk_at "rv go"
    rw [List.length_map]
    exact q
  · rintro i σ' H' hi ⟨c, xs, L, rfl, ha', hp', e', hP, hS, hM, hL⟩
    have hl := sq_lst (K := K) ha'
    -- a run that goes on
    have grow : mf ms i = w → 0 < i → mf ms (i - 1) = w → (tAsg (tTup (tCons (tOp (rIxT K) (tOp (rIxL K) (tVar 2) (tUn (rU fun i => .int (-i)) (tC (.int 1)))) (tC (.int 0))) (tCons (tVar 3) tNil))) (gSub (tVar 2) (tUn (rU fun i => .int (-i)) (tC (.int 1))) rSetL))
        { nx := (fun i σ' H' => ∃ c : Option V, ∃ xs L, σ' = [some (.ref a), some (.bl w), some (.ref p), c] ∧ H' a = some (.lst (ms.map V.bl)) ∧ H' p = some (.lst xs) ∧ Same H H' ∧ PrsAt H' xs L ∧ Srt L ∧ (∀ q : Pr, q ∈ L ↔ MaxRun (mf ms) i w q.1 q.2) ∧ L.length ≤ i) (i + 1), rt := Q } [some (.ref a), some (.bl w), some (.ref p), some (.int (i : Int))] H' := by
      intro h1 h2 h3
      obtain ⟨L0, b, rfl⟩ := run_last hS hM h2 h3
      obtain ⟨ys, y, rfl, hPy, T, rfl, hT⟩ := prs_snoc_inv hP
      refine w_asg ?_
      walk_at "rv go"
      refine w_ixL (sq_lst hp') (atI_last _ _) ?_
      walk_at "rv go"
      refine w_ixT (sq_tup hT) rfl ?_
      walk_at "rv go"
      refine ⟨szl (by simp), fun U nU => ?_⟩
      walk_at "rv go"
      have pU : p ≠ U := ne_of_none hp' nU
      have hj : ixN (ys ++ [V.ref T]).length (-1) = some ys.length := by
        unfold ixN
        rw [if_neg (by decide), if_pos (by rw [List.length_append]; simp; omega)]
        rw [List.length_append, List.length_singleton]
        congr 1
        omega
      refine w_setL (by rw [upd_ne pU]; exact hp') hj ?_
      have eset : (ys ++ [V.ref T]).set ys.length (V.ref U) = ys ++ [V.ref U] := by
        rw [List.set_append_right _ _ (Nat.le_refl _), Nat.sub_self]
        rfl
      rw [eset]
      have aU : a ≠ U := ne_of_none ha' nU
      have tk : ∀ t zs, H' t = some (.tup zs) → upd (upd H' U (.tup [.int (b : Int), .int (i : Int)])) p (.lst (ys ++ [.ref U])) t = some (.tup zs) := fun t zs ht => by
        rw [upd_ne (ne_of ht hp' (fun z => nomatch z)), upd_ne (ne_of_none ht nU)]
        exact ht
      refine ⟨_, _, L0 ++ [(b, i)], rfl, ?_, upd_same, ?_, PrsAt.snoc (hPy.mono tk) ⟨U, rfl, ?_⟩, ?_, fun q => ?_, ?_⟩
      · rw [upd_ne nap, upd_ne aU]
        exact ha'
      · exact fun c o hc => by
          rw [upd_ne (ne_of_none hc np), upd_ne (ne_of_none (e' _ _ hc) nU)]
          exact e' _ _ hc
      · rw [upd_ne pU.symm, upd_same]
      · obtain ⟨g1, g2, g3⟩ := List.pairwise_append.mp hS
        exact srt_app g1 fun q hq => g3 q hq (b, i - 1) (by simp)
      · have hb : MaxRun (mf ms) i w b (i - 1) := (hM (b, i - 1)).mp (by simp)
        rw [run_grow h1 h2 h3, List.mem_append, List.mem_singleton]
        constructor
        · rintro (z | rfl)
          · left
            have hq := (hM q).mp (List.mem_append_left _ z)
            refine ⟨hq, fun e => ?_⟩
            have h4 := (List.pairwise_append.mp hS).2.2 q z (b, i - 1) (by simp)
            have h4' : q.1 < b := h4
            obtain ⟨f1, f2, f3, f4, f5⟩ := hb
            obtain ⟨k1, k2, k3, k4, k5⟩ := hq
            rcases f4 with g | g
            · omega
            · exact g (k3 (b - 1) (by omega) (by omega))
          · right
            exact ⟨rfl, hb⟩
        · rintro (⟨hq, hn⟩ | ⟨e, hq⟩)
          · left
            rcases List.mem_append.mp ((hM q).mpr hq) with z | z
            · exact z
            · exfalso
              rw [List.mem_singleton.mp z] at hn
              apply hn
              show i - 1 + 1 = i
              omega
          · right
            have z := (hM (q.1, i - 1)).mpr hq
            rcases List.mem_append.mp z with y | y
            · exfalso
              have h4 := (List.pairwise_append.mp hS).2.2 _ y (b, i - 1) (by simp)
              have h4' : q.1 < b := h4
              obtain ⟨f1, f2, f3, f4, f5⟩ := hb
              obtain ⟨k1, k2, k3, k4, k5⟩ := hq
              rcases f4 with g | g
              · omega
              · exact g (k3 (b - 1) (by omega) (by omega))
            · have y2 := List.mem_singleton.mp y
              have y3 : q.1 = b := congrArg Prod.fst y2
              exact Prod.ext y3 e
      · rw [List.length_append] at hL ⊢
        simp at hL ⊢
        omega
    -- it begins, or there is none
    have other : (mf ms i = w → i = 0 ∨ mf ms (i - 1) ≠ w) → (tIfS (tTest (tOp rEq (tOp (rIxL K) (tVar 0) (tVar 3)) (tVar 1))) (tDrop (tBM K "list" rAppend (tVar 2) (tCons (tTup (tCons (tVar 3) (tCons (tVar 3) tNil))) tNil))) tNext)
        { nx := (fun i σ' H' => ∃ c : Option V, ∃ xs L, σ' = [some (.ref a), some (.bl w), some (.ref p), c] ∧ H' a = some (.lst (ms.map V.bl)) ∧ H' p = some (.lst xs) ∧ Same H H' ∧ PrsAt H' xs L ∧ Srt L ∧ (∀ q : Pr, q ∈ L ↔ MaxRun (mf ms) i w q.1 q.2) ∧ L.length ≤ i) (i + 1), rt := Q } [some (.ref a), some (.bl w), some (.ref p), some (.int (i : Int))] H' := by
      intro hc
      refine w_ifs ?_
      walk_at "rv go"
      refine w_ixL hl (at_m (k := i) rfl hi) ?_
      walk_at "rv go"
      refine w_eqB ?_
      walk_at "rv go"
      refine w_both (fun h1 => ?_) (fun h1 => ?_)
      · walk_at "rv go"
        refine w_bm rfl hp' ?_
        walk_at "rv go"
        refine ⟨szl (by simp), fun U nU => ?_⟩
        have pU : p ≠ U := ne_of_none hp' nU
        walk_at "rv go"
        refine w_appR (by rw [upd_ne pU]; exact hp') (by rw [hP.len]; omega) ?_
        have aU : a ≠ U := ne_of_none ha' nU
        have tk : ∀ t zs, H' t = some (.tup zs) → upd (upd H' U (.tup [.int (i : Int), .int (i : Int)])) p (.lst (xs ++ [.ref U])) t = some (.tup zs) := fun t zs ht => by
          rw [upd_ne (ne_of ht hp' (fun z => nomatch z)), upd_ne (ne_of_none ht nU)]
          exact ht
        refine ⟨_, _, L ++ [(i, i)], rfl, ?_, upd_same, ?_, PrsAt.snoc (hP.mono tk) ⟨U, rfl, ?_⟩, srt_app hS fun q hq => ?_, fun q => ?_, ?_⟩
        · rw [upd_ne nap, upd_ne aU]
          exact ha'
        · exact fun c o hc => by
            rw [upd_ne (ne_of_none hc np), upd_ne (ne_of_none (e' _ _ hc) nU)]
            exact e' _ _ hc
        · rw [upd_ne pU.symm, upd_same]
        · have h2 := (hM q).mp hq
          have h3 := h2.1
          have h4 := h2.2.1
          show q.1 < i
          omega
        · rw [run_new h1 (hc h1), List.mem_append, hM, List.mem_singleton]
          constructor
          · rintro (z | rfl)
            · exact .inl z
            · exact .inr ⟨rfl, rfl⟩
          · rintro (z | ⟨z1, z2⟩)
            · exact .inl z
            · exact .inr (Prod.ext z1 z2)
        · rw [List.length_append]
          show L.length + 1 ≤ i + 1
          omega
      · walk_at "rv go"
        exact ⟨_, xs, L, rfl, ha', hp', e', hP, hS, fun q => by rw [hM, run_skip h1], by omega⟩
    refine w_ifs ?_
    walk_at "rv go"
    refine w_ixL hl (at_m (k := i) rfl hi) ?_
    walk_at "rv go"
    refine w_eqB ?_
    walk_at "rv go"
    refine w_both (fun h1 => ?_) (fun h1 => ?_)
    · walk_at "rv go"
      refine w_both (fun h2 => ?_) (fun h2 => ?_)
      · walk_at "rv go"
        refine w_ixL hl (at_m (k := i - 1) (by omega) (by omega)) ?_
        walk_at "rv go"
        refine w_eqB ?_
        walk_at "rv go"
        refine w_both (fun h3 => ?_) (fun h3 => ?_)
        · exact grow h1 (by omega) h3
        · exact other fun _ => .inr h3
      · refine iteF ?_
        exact other fun _ => .inl (by omega)
    · refine iteF ?_
      exact other fun z => absurd z h1
  · rintro σ' H' ⟨c, xs, L, rfl, ha', hp', e', hP, hS, hM, hL⟩
    walk_at "rv go"
    exact k p H' xs L e' np hp' hP hS hM
theorem p_lRows {K : PySem.W.Frag} {vs : List V} {H : Hp} {Q : VK} {E : XK} (h : spLRows K vs H Q E) : t__law_rows K { nx := fun _ H' => Q .non H', rt := Q } (start ["_law_value", "_law_row", "_law_end"] vs) H := by
  obtain ⟨a, xs, L, rfl, ha, hP, k⟩ := h
  unfold t__law_rows
  refine w_seq ?_
  refine w_ifs ?_
  walk_at "rv go"
  refine isi_of (.ty "list") (.base (.lst ha)) kit_ll ?_
  walk_at "rv go"
  refine w_seq ?_
  refine w_forL (a := a) (fun Q q => ?_) (sq_lst ha) (fun i σ' H' => ∃ u v : Option V, σ' = [some (.ref a), u, v] ∧ H' = H) ⟨none, none, rfl, rfl⟩ (fun i σ' H' _ ⟨_, _, _, e⟩ => by rw [e]; exact sq_lst ha) ?_ ?_
  · walk_at "rv go"
    exact q
  · rintro i x σ' H' hx ⟨u, v, rfl, rfl⟩
    obtain ⟨q, hq, T, rfl, hT⟩ := hP.get hx
    walk_at "rv go"
    refine w_seq ?_
    refine w_ifs ?_
    walk_at "rv go"
    refine isi_of (.ty "tuple") (.base (.tup hT)) kit_tt ?_
    walk_at "rv go"
    refine w_lenT (sq_tup hT) ?_
    walk_at "rv go"
    refine w_bothN (fun z => absurd rfl z) (fun _ => ?_)
    walk_at "rv go"
    refine w_forT (a := T) (fun Q q => ?_) (sq_tup hT) (fun j σ' H2 => ∃ v : Option V, σ' = [some (.ref a), some (.ref T), v] ∧ H2 = H') ⟨v, rfl, rfl⟩ (fun j σ' H2 _ ⟨_, _, e⟩ => by rw [e]; exact sq_tup hT) ?_ ?_
    · walk_at "rv go"
      exact q
    · rintro j y σ' H2 hy ⟨v, rfl, rfl⟩
      have hi : ∃ z : Int, y = .int z := by
        match j, hy with
        | 0, hy => exact ⟨_, (Option.some.inj hy).symm⟩
        | 1, hy => exact ⟨_, (Option.some.inj hy).symm⟩
        | j + 2, hy => simp at hy
      obtain ⟨z, rfl⟩ := hi
      walk_at "rv go"
      refine isi_of (.ty "int") (.base (.int z)) kit_ii ?_
      walk_at "rv go"
      refine isi_of (.ty "bool") (.base (.int z)) kit_ib ?_
      walk_at "rv go"
      exact ⟨_, rfl, rfl⟩
    · rintro σ' H2 ⟨v, rfl, rfl⟩
      exact ⟨_, _, rfl, rfl⟩
  · rintro σ' H' ⟨u, v, rfl, rfl⟩
    walk_at "rv go"
    exact k
end Rv
namespace Rv
open PySem PySem.Spec PyProof.Rows L2
theorem u1 {k : Nat} {A : Around} (r : Room k A) : A.units + 65 < cLine := by
  have := r.un
  omega
section
variable {K : PySem.W.Frag} {σ : L2.St} {H : Hp} {Q : VK} {D : Ends} {slot : Nat} {tr : TA} {s1 : TS}
/-- for i in range(lo, hi): m turns -/
theorem w_forR2 {lo m : Nat} {hi : Int} (hm : m = (hi - (lo : Int)).toNat) (h1 : lo ≤ 100000) (h2 : -100000 ≤ hi ∧ hi ≤ 1000000) (ha : ∀ AQ : List V → Hp → Prop, AQ [.int (lo : Int), .int hi] H → tr σ H AQ) (Pv : Nat → L2.St → Hp → Prop) (h0 : Pv lo σ H)
    (hs : ∀ i σ' H', lo ≤ i → (i : Int) < hi → Pv i σ' H' → s1 { D with nx := Pv (i + 1), ct := Pv (i + 1), bk := D.nx } (σ'.set slot (some (.int (i : Int)))) H') (hd : ∀ σ' H', Pv (lo + m) σ' H' → D.nx σ' H') : tFor (iRng2 tr) (gName slot) s1 D σ H := by
  refine ha _ ⟨(lo : Int), hi, rfl, ⟨by omega, by omega, by omega, by omega⟩, ?_⟩
  rw [← hm]
  refine for_range (fun k => Pv (lo + k)) h0 (fun i σ' H' hi' q => ?_) hd
  show s1 _ (σ'.set slot (some (.int ((lo : Int) + (i : Int))))) H'
  have e : ((lo : Int) + (i : Int)) = ((lo + i : Nat) : Int) := by omega
  rw [e]
  exact hs (lo + i) σ' H' (Nat.le_add_right _ _) (by omega) q
end
/-! lakes, in plain numbers -/
def bnd (c : Nat → Int) (n p : Nat) (h : Int) : Bool := if p = 0 ∨ p + 1 = n then decide (h ≤ c p) else decide (h < c p)
abbrev Tr : Type := Int × Nat × Nat
def Lk (c : Nat → Int) (n : Nat) (q : Tr) : Prop := q.2.1 < q.2.2 ∧ q.2.2 + 1 < n ∧ (∀ j, q.2.1 < j → j ≤ q.2.2 → c j ≤ q.1) ∧ (∃ j, q.2.1 < j ∧ j ≤ q.2.2 ∧ c j = q.1) ∧ bnd c n q.2.1 q.1 = true ∧ bnd c n (q.2.2 + 1) q.1 = true
def TrAt (H : Hp) (x : V) (q : Tr) : Prop := ∃ t, x = .ref t ∧ H t = some (.tup [.int q.1, .int (q.2.1 : Int), .int (q.2.2 : Int)])
def TrsAt (H : Hp) (xs : List V) (L : List Tr) : Prop := Paired (TrAt H) xs L
theorem TrsAt.mono {H H' : Hp} {xs : List V} {L : List Tr} (h : TrsAt H xs L) (e : ∀ t ys, H t = some (.tup ys) → H' t = some (.tup ys)) : TrsAt H' xs L := Paired.mapP h fun x q ⟨t, h1, h2⟩ => ⟨t, h1, e _ _ h2⟩
theorem TrsAt.len {H : Hp} {xs : List V} {L : List Tr} (h : TrsAt H xs L) : xs.length = L.length := Paired.length h
theorem TrsAt.get {H : Hp} : ∀ {xs : List V} {L : List Tr} {i : Nat} {x : V}, TrsAt H xs L → xs[i]? = some x → ∃ q, L[i]? = some q ∧ TrAt H x q
  | _, _, _, _, .nil, h => by simp at h
  | _, _, 0, x, .cons r t, h => ⟨_, rfl, by simp at h; rw [← h]; exact r⟩
  | _, _, i + 1, x, .cons r t, h => by
    obtain ⟨q, h1, h2⟩ := TrsAt.get (i := i) t (by simpa using h)
    exact ⟨q, by simpa using h1, h2⟩
theorem TrsAt.snoc {H : Hp} {xs : List V} {L : List Tr} {x : V} {q : Tr} (h : TrsAt H xs L) (z : TrAt H x q) : TrsAt H (xs ++ [x]) (L ++ [q]) := Paired.snoc h z
def spBounds (K : PySem.W.Frag) : Sp := fun vs H Q _ => ∃ a, ∃ cs : List Int, ∃ p : Nat, ∃ h : Int, vs = [.ref a, .int (p : Int), .int h] ∧ H a = some (.lst (cs.map V.int)) ∧ p < cs.length ∧ Q (.bl (bnd (hf cs) cs.length p h)) H
def spFrom (K : PySem.W.Frag) : Sp := fun vs H Q _ => ∃ a, ∃ cs : List Int, ∃ f : Nat, vs = [.ref a, .int (f : Int)] ∧ H a = some (.lst (cs.map V.int)) ∧ cs.length ≤ 60 ∧ f + 2 < cs.length ∧
  ∀ r H' xs L, Same H H' → H r = none → H' r = some (.lst xs) → TrsAt H' xs L → L.length ≤ 60 → L.Pairwise (fun p q => p.2.2 < q.2.2) → (∀ q, q ∈ L ↔ Lk (hf cs) cs.length q ∧ q.2.1 = f) → Q (.ref r) H'
def spLake (K : PySem.W.Frag) : Sp := fun vs H Q _ => ∃ a, ∃ cs : List Int, ∃ p : Nat, vs = [.ref a, .int (p : Int)] ∧ H a = some (.lst (cs.map V.int)) ∧ cs.length ≤ 60 ∧ 1 ≤ p ∧ p + 1 < cs.length ∧
  ∀ t (o : Option Tr), H t = none → (∀ q, o = some q → Lk (hf cs) cs.length q) → (∀ q, Lk (hf cs) cs.length q → q.2.1 < p → p ≤ q.2.2 → hf cs p = q.1 → o = some q) →
    Q (.ref t) (upd H t (.tup (match o with
      | none => []
      | some q => [.int q.1, .int (q.2.1 : Int), .int (q.2.2 : Int)])))
def t_bounds (K : PySem.W.Frag) : TS :=
  (tSeq (tIfS (tOr (tTest (tOp rEq (tVar 1) (tC (.int 0)))) (tTest (tOp rEq (tVar 1) (tOp oSub (tCB (cLen K) (tCons (tVar 0) tNil)) (tC (.int 1)))))) (tRet (tOp oGe (tOp (rIxL K) (tVar 0) (tVar 1)) (tVar 2))) tNext)
    (tRet (tOp oGt (tOp (rIxL K) (tVar 0) (tVar 1)) (tVar 2))))
def t_lakes_from (K : PySem.W.Frag) : TS :=
  (tSeq (tAsg (tLst tNil) (gName 2))
    (tSeq (tAsg (tOp (rIxL K) (tVar 0) (tOp oAdd (tVar 1) (tC (.int 1)))) (gName 3))
    (tSeq (tFor (iRng2 (tCons (tOp oAdd (tVar 1) (tC (.int 1))) (tCons (tOp oSub (tCB (cLen K) (tCons (tVar 0) tNil)) (tC (.int 1))) tNil))) (gName 4) (tSeq (tIfS (tTest (tOp oGt (tOp (rIxL K) (tVar 0) (tVar 4)) (tVar 3))) (tAsg (tOp (rIxL K) (tVar 0) (tVar 4)) (gName 3)) tNext)
    (tIfS (tAnd (tB (tCall (spBounds K) [] E0 (tCons (tVar 0) (tCons (tVar 1) (tCons (tVar 3) tNil))))) (tB (tCall (spBounds K) [] E0 (tCons (tVar 0) (tCons (tOp oAdd (tVar 4) (tC (.int 1))) (tCons (tVar 3) tNil)))))) (tDrop (tBM K "list" rAppend (tVar 2) (tCons (tTup (tCons (tVar 3) (tCons (tVar 1) (tCons (tVar 4) tNil)))) tNil))) tNext)))
    (tRet (tVar 2)))))
def t__law_lake (K : PySem.W.Frag) : TS :=
  (tSeq (tAsg (tOp oSub (tVar 1) (tC (.int 1))) (gName 2))
    (tSeq (tWhile (tAnd (tTest (tOp oGt (tVar 2) (tC (.int 0)))) (tTest (tOp oLe (tOp (rIxL K) (tVar 0) (tVar 2)) (tOp (rIxL K) (tVar 0) (tVar 1))))) (tAsg (tOp oSub (tVar 2) (tC (.int 1))) (gName 2)))
    (tSeq (tAsg (tOp oAdd (tVar 1) (tC (.int 1))) (gName 3))
    (tSeq (tWhile (tAnd (tTest (tOp oLt (tVar 3) (tOp oSub (tCB (cLen K) (tCons (tVar 0) tNil)) (tC (.int 1))))) (tTest (tOp oLe (tOp (rIxL K) (tVar 0) (tVar 3)) (tOp (rIxL K) (tVar 0) (tVar 1))))) (tAsg (tOp oAdd (tVar 3) (tC (.int 1))) (gName 3)))
    (tSeq (tIfS (tOr (tTest (tOp oLt (tOp (rIxL K) (tVar 0) (tVar 2)) (tOp (rIxL K) (tVar 0) (tVar 1)))) (tTest (tOp oLt (tOp (rIxL K) (tVar 0) (tVar 3)) (tOp (rIxL K) (tVar 0) (tVar 1))))) (tRet (tTup tNil)) tNext)
    (tRet (tTup (tCons (tOp (rIxL K) (tVar 0) (tVar 1)) (tCons (tVar 2) (tCons (tOp oSub (tVar 3) (tC (.int 1))) tNil))))))))))
local macro_rules | `(tactic| walk_at "rv st") => `(tactic| first
  | with_reducible refine iteT ?_ | with_reducible refine iteF ?_ | with_reducible refine w_nx ?_ | with_reducible refine w_yes ?_ | with_reducible refine w_rt ?_ | with_reducible refine iteNT ?_ | with_reducible refine iteNF ?_ | with_reducible refine iteNRf ?_ | with_reducible refine iteRf ?_ | with_reducible refine w_seqA ?_ | with_reducible refine w_seqD ?_ | with_reducible refine w_seqP ?_ | with_reducible refine w_asg ?_ | with_reducible refine w_ret ?_ | with_reducible refine w_drop ?_ | with_reducible refine w_ifs ?_ | with_reducible refine w_next ?_ | with_reducible refine w_par ?_
  | with_reducible refine w_op ?_ | with_reducible refine w_un ?_ | ((with_reducible show tVar _ _ _ _); refine' w_var ?hv ?_; (case hv => exact rfl)) | with_reducible refine w_c ?_ | with_reducible refine w_test ?_ | with_reducible refine w_tB ?_
  | with_reducible refine w_bl ?_ | with_reducible refine w_I0 ?_ | with_reducible refine w_U ?_ | with_reducible refine w_eqI ?_ | with_reducible refine w_neI ?_
  | with_reducible refine w_cons ?_ | with_reducible refine w_nil ?_ | with_reducible refine w_gn ?_ | with_reducible refine w_gsub ?_ | with_reducible refine w_and ?_ | with_reducible refine w_or ?_ | with_reducible refine w_not ?_
  | with_reducible refine w_andV ?_ | with_reducible refine w_orV ?_ | with_reducible refine w_notV ?_ | with_reducible refine w_if ?_ | with_reducible refine w_cb ?_ | with_reducible refine w_call ?_ | with_reducible refine w_lst ?_ | with_reducible refine w_tup ?_
  | with_reducible refine w_sl ?_ | with_reducible refine w_noPart ?_ | with_reducible refine w_part ?_ | with_reducible refine w_ex1 ?_ | with_reducible refine w_exb ?_ | with_reducible refine w_intB ?_ | with_reducible refine w_intI ?_ | with_reducible refine w_abs ?_)
local macro_rules | `(tactic| walk_at "rv ix") => `(tactic| ((with_reducible show rIxL _ _ _ _ _); refine' w_ixL (sq_lst ?ha) ?hb ?_; (case ha => first | exact upd_same | assumption); (case hb => first | exact rfl | assumption)))
local macro_rules | `(tactic| walk_at "rv ar") => `(tactic| first
  | (refine' w_I ?hc ?_; (case hc => first | (show (0 : Int) < _; first | assumption | decide | omega) | exact pow_c (by decide) (by decide) (by first | decide | omega) (by first | decide | omega) | exact mul_r (by first | decide | omega) (by first | decide | omega) | exact mul_l (by first | decide | omega) (by first | decide | omega) | exact divw (by first | assumption | decide | omega) (by first | assumption | decide | omega))))
local macro_rules | `(tactic| walk_at "rv go") => `(tactic| repeat first | walk_at "rv st" | walk_at "rv ix" | ((with_reducible show rI _ _ _ _ _ _); walk_at "rv ar"))
theorem p_bounds {K : PySem.W.Frag} {vs : List V} {H : Hp} {Q : VK} {E : XK} (h : spBounds K vs H Q E) : t_bounds K { nx := fun _ H' => Q .non H', rt := Q } (start ["tops", "peak", "height"] vs) H := by
  obtain ⟨a, cs, p, h, rfl, hA, hp, q⟩ := h
  unfold t_bounds
  refine w_seq ?_
  walk_at "rv go"
  unfold bnd at q
  refine w_both (fun h1 => ?_) (fun h1 => ?_)
  · walk_at "rv go"
    refine w_ixL (sq_lst hA) (at_h rfl hp) ?_
    walk_at "rv go"
    rw [if_pos (Or.inl (by omega : p = 0))] at q
    exact q
  · walk_at "rv go"
    refine w_lenL (sq_lst hA) ?_
    walk_at "rv go"
    rw [List.length_map]
    refine w_both (fun h2 => ?_) (fun h2 => ?_)
    · walk_at "rv go"
      refine w_ixL (sq_lst hA) (at_h rfl hp) ?_
      walk_at "rv go"
      rw [if_pos (Or.inr (by omega : p + 1 = cs.length))] at q
      exact q
    · walk_at "rv go"
      refine w_ixL (sq_lst hA) (at_h rfl hp) ?_
      walk_at "rv go"
      rw [if_neg (by omega : ¬ (p = 0 ∨ p + 1 = cs.length))] at q
      exact q
theorem p_from {K : PySem.W.Frag} {vs : List V} {H : Hp} {Q : VK} {E : XK} (h : spFrom K vs H Q E) : t_lakes_from K { nx := fun _ H' => Q .non H', rt := Q } (start ["tops", "first", "found", "height", "last"] vs) H := by
  obtain ⟨a, cs, f, rfl, hA, h60, hf2, k⟩ := h
  unfold t_lakes_from
  walk_at "rv go"
  refine ⟨szl (by simp), fun r nr => ?_⟩
  have s1 : Same H (upd H r (.lst [])) := same_new (Same.refl H) nr
  walk_at "rv go"
  refine w_ixL (sq_lst (s1 _ _ hA)) (at_h (k := f + 1) (by omega) (by omega)) ?_
  walk_at "rv go"
  refine w_forR2 (lo := f + 1) (m := cs.length - 1 - (f + 1)) (hi := (cs.length : Int) - 1) (by omega) (by omega) (by omega) (fun AQ q => ?_)
    (fun i σ' H' => ∃ xs L h o4, σ' = [some (.ref a), some (.int (f : Int)), some (.ref r), some (.int h), o4] ∧ Same H H' ∧ H' r = some (.lst xs) ∧ TrsAt H' xs L ∧ L.length ≤ i ∧ (∀ j, f < j → j < i → hf cs j ≤ h) ∧ (∃ j, f < j ∧ (j < i ∨ j = f + 1) ∧ hf cs j = h) ∧
      L.Pairwise (fun p q => p.2.2 < q.2.2) ∧ (∀ q, q ∈ L ↔ Lk (hf cs) cs.length q ∧ q.2.1 = f ∧ q.2.2 < i))
    ⟨[], [], hf cs (f + 1), _, rfl, s1, upd_same, .nil, Nat.zero_le _, fun j h1 h2 => by omega, ⟨f + 1, by omega, .inr rfl, rfl⟩, .nil, fun q => ⟨fun z => absurd z List.not_mem_nil, fun ⟨z, z2, z3⟩ => absurd z.1 (by omega)⟩⟩ ?_ ?_
  · walk_at "rv go"
    refine w_lenL (sq_lst (s1 _ _ hA)) ?_
    walk_at "rv go"
    rw [List.length_map]
    have e : ((f : Int) + 1) = ((f + 1 : Nat) : Int) := by omega
    rw [e]
    exact q
  · rintro i σ' H' hlo hhi ⟨xs, L, h, o4, rfl, e', hr, hP, hl, hmax, hex, hpw, hmem⟩
    refine w_cut (fun σ2 H2 => ∃ h, σ2 = [some (.ref a), some (.int (f : Int)), some (.ref r), some (.int h), some (.int (i : Int))] ∧ H2 = H' ∧ (∀ j, f < j → j ≤ i → hf cs j ≤ h) ∧ (∃ j, f < j ∧ j ≤ i ∧ hf cs j = h)) (fun N key => ?_) ?_
    · refine w_ifs ?_
      walk_at "rv go"
      refine w_ixL (sq_lst (e' _ _ hA)) (at_h rfl (by omega)) ?_
      walk_at "rv go"
      refine w_both (fun h1 => ?_) (fun h1 => ?_)
      · walk_at "rv go"
        refine w_ixL (sq_lst (e' _ _ hA)) (at_h rfl (by omega)) ?_
        walk_at "rv go"
        refine key _ _ ⟨_, rfl, rfl, fun j a1 a2 => ?_, ⟨i, by omega, Nat.le_refl _, rfl⟩⟩
        by_cases hj : j = i
        · rw [hj]
          exact Int.le_refl _
        · have := hmax j a1 (by omega)
          omega
      · walk_at "rv go"
        refine key _ _ ⟨_, rfl, rfl, fun j a1 a2 => ?_, ?_⟩
        · by_cases hj : j = i
          · rw [hj]
            omega
          · exact hmax j a1 (by omega)
        · obtain ⟨j, b1, b2, b3⟩ := hex
          exact ⟨j, b1, by omega, b3⟩
    · rintro σ2 H2 ⟨h, rfl, rfl, hmax, hex⟩
      have hno : ¬ (bnd (hf cs) cs.length f h = true ∧ bnd (hf cs) cs.length (i + 1) h = true) → ∀ q, q ∈ L ↔ Lk (hf cs) cs.length q ∧ q.2.1 = f ∧ q.2.2 < i + 1 := fun hn q => by
        rw [hmem]
        constructor
        · rintro ⟨z1, z2, z3⟩
          exact ⟨z1, z2, by omega⟩
        · rintro ⟨z1, z2, z3⟩
          refine ⟨z1, z2, ?_⟩
          by_cases hi : q.2.2 = i
          · exfalso
            apply hn
            obtain ⟨y1, y2, y3, y4, y5, y6⟩ := z1
            rw [z2] at y3 y4 y5
            rw [hi] at y3 y4 y6
            have eh : q.1 = h := by
              obtain ⟨j, u1, u2, u3⟩ := y4
              obtain ⟨j', v1, v2, v3⟩ := hex
              have m1 := hmax j u1 u2
              have m2 := y3 j' v1 v2
              omega
            rw [eh] at y5 y6
            exact ⟨y5, y6⟩
          · omega
      refine w_ifs ?_
      walk_at "rv go"
      refine ⟨a, cs, f, h, rfl, e' _ _ hA, by omega, ?_⟩
      walk_at "rv go"
      have fin : ∀ L', L' = L → (¬ (bnd (hf cs) cs.length f h = true ∧ bnd (hf cs) cs.length (i + 1) h = true)) → ∃ xs L h1 o4, ([some (.ref a), some (.int (f : Int)), some (.ref r), some (.int h), some (.int (i : Int))] : L2.St) = [some (.ref a), some (.int (f : Int)), some (.ref r), some (.int h1), o4] ∧ Same H H2 ∧ H2 r = some (.lst xs) ∧ TrsAt H2 xs L ∧ L.length ≤ i + 1 ∧ (∀ j, f < j → j < i + 1 → hf cs j ≤ h1) ∧ (∃ j, f < j ∧ (j < i + 1 ∨ j = f + 1) ∧ hf cs j = h1) ∧
          L.Pairwise (fun p q => p.2.2 < q.2.2) ∧ (∀ q, q ∈ L ↔ Lk (hf cs) cs.length q ∧ q.2.1 = f ∧ q.2.2 < i + 1) := fun L' _ hn => ⟨xs, L, h, _, rfl, e', hr, hP, by omega, fun j a1 a2 => hmax j a1 (by omega), by
            obtain ⟨j, b1, b2, b3⟩ := hex
            exact ⟨j, b1, .inl (by omega), b3⟩, hpw, hno hn⟩
      refine w_bool (fun h1 => ?_) (fun h1 => ?_)
      · walk_at "rv go"
        refine ⟨a, cs, i + 1, h, by rw [show (((i + 1 : Nat)) : Int) = (i : Int) + 1 by omega]; rfl, e' _ _ hA, by omega, ?_⟩
        walk_at "rv go"
        refine w_bool (fun h2 => ?_) (fun h2 => ?_)
        · walk_at "rv go"
          refine w_bm rfl hr ?_
          walk_at "rv go"
          refine ⟨szl (by simp), fun u nu => ?_⟩
          walk_at "rv go"
          have ru : r ≠ u := ne_of_none hr nu
          refine w_appR (xs := xs) (by rw [upd_ne ru]; exact hr) (by rw [hP.len]; omega) ?_
          walk_at "rv go"
          refine ⟨xs ++ [.ref u], L ++ [(h, f, i)], h, _, rfl, ?_, upd_same, TrsAt.snoc (hP.mono fun t ys ht => ?_) ⟨u, rfl, ?_⟩, ?_, fun j a1 a2 => hmax j a1 (by omega), ?_, ?_, fun q => ?_⟩
          · exact fun b o hb => by
              rw [upd_ne (ne_of_none hb nr), upd_ne (ne_of_none (e' _ _ hb) nu)]
              exact e' _ _ hb
          · rw [upd_ne (ne_of ht hr (fun z => nomatch z)), upd_ne (ne_of_none ht nu)]
            exact ht
          · rw [upd_ne ru.symm, upd_same]
          · rw [List.length_append, List.length_singleton]
            omega
          · obtain ⟨j, b1, b2, b3⟩ := hex
            exact ⟨j, b1, .inl (by omega), b3⟩
          · refine List.pairwise_append.mpr ⟨hpw, List.pairwise_singleton _ _, fun p hp q hq => ?_⟩
            rw [List.mem_singleton.mp hq]
            exact ((hmem p).mp hp).2.2
          · rw [List.mem_append, List.mem_singleton, hmem]
            constructor
            · rintro (⟨z1, z2, z3⟩ | z)
              · exact ⟨z1, z2, by omega⟩
              · rw [z]
                exact ⟨⟨by show f < i; omega, by show i + 1 < _; omega, hmax, hex, h1, h2⟩, rfl, by show i < i + 1; omega⟩
            · rintro ⟨z1, z2, z3⟩
              by_cases hi : q.2.2 = i
              · right
                obtain ⟨y1, y2, y3, y4, y5, y6⟩ := z1
                rw [z2] at y3 y4
                rw [hi] at y3 y4
                have eh : q.1 = h := by
                  obtain ⟨j, u1, u2, u3⟩ := y4
                  obtain ⟨j', v1, v2, v3⟩ := hex
                  have m1 := hmax j u1 u2
                  have m2 := y3 j' v1 v2
                  omega
                obtain ⟨q1, q2, q3⟩ := q
                subst z2 eh hi
                rfl
              · left
                exact ⟨z1, z2, by omega⟩
        · walk_at "rv go"
          exact fin L rfl (fun z => by rw [h2] at z; exact Bool.false_ne_true z.2)
      · walk_at "rv go"
        exact fin L rfl (fun z => by rw [h1] at z; exact Bool.false_ne_true z.1)
  · rintro σ' H' ⟨xs, L, h, o4, rfl, e', hr, hP, hl, hmax, hex, hpw, hmem⟩
    walk_at "rv go"
    refine k r H' xs L e' nr hr hP (by omega) hpw fun q => ?_
    rw [hmem]
    constructor
    · rintro ⟨z1, z2, _⟩
      exact ⟨z1, z2⟩
    · rintro ⟨z1, z2⟩
      refine ⟨z1, z2, ?_⟩
      have := z1.2.1
      omega
/-- from p down: the first place that is 0 or higher -/
def LftL (c : Nat → Int) (p l : Nat) : Prop := l < p ∧ (∀ j, l < j → j < p → c j ≤ c p) ∧ (l = 0 ∨ c p < c l)
def RgtL (c : Nat → Int) (n p r : Nat) : Prop := p < r ∧ r < n ∧ (∀ j, p < j → j < r → c j ≤ c p) ∧ (r + 1 = n ∨ c p < c r)
theorem lk_of {c : Nat → Int} {n p l r : Nat} (hl : LftL c p l) (hr : RgtL c n p r) (h1 : ¬ c l < c p) (h2 : ¬ c r < c p) : Lk c n (c p, l, r - 1) := by
  obtain ⟨a1, a2, a3⟩ := hl
  obtain ⟨b1, b2, b3, b4⟩ := hr
  refine ⟨show l < r - 1 + 0 by omega, show r - 1 + 1 < n by omega, fun j y1 y2 => ?_, ⟨p, a1, show p ≤ r - 1 by omega, rfl⟩, ?_, ?_⟩
  · have y3 : j ≤ r - 1 := y2
    have y4 : l < j := y1
    show c j ≤ c p
    by_cases e : j = p
    · rw [e]
      exact Int.le_refl _
    · by_cases g : j < p
      · exact a2 j y4 g
      · exact b3 j (by omega) (by omega)
  · show bnd c n l (c p) = true
    unfold bnd
    split
    · exact decide_eq_true (by omega)
    · exact decide_eq_true (by omega)
  · show bnd c n (r - 1 + 1) (c p) = true
    have e : r - 1 + 1 = r := by omega
    rw [e]
    unfold bnd
    split
    · exact decide_eq_true (by omega)
    · exact decide_eq_true (by omega)
theorem lk_is {c : Nat → Int} {n p l r : Nat} (hl : LftL c p l) (hr : RgtL c n p r) {q : Tr} (k : Lk c n q) (h1 : q.2.1 < p) (h2 : p ≤ q.2.2) (h3 : c p = q.1) : ¬ c l < c p ∧ ¬ c r < c p ∧ q = (c p, l, r - 1) := by
  obtain ⟨h, f, t⟩ := q
  obtain ⟨k1, k2, k3, _, k5, k6⟩ := k
  dsimp only at k1 k2 k3 k5 k6 h1 h2 h3
  subst h3
  obtain ⟨a1, a2, a3⟩ := hl
  obtain ⟨b1, b2, b3, b4⟩ := hr
  have e1 : l = f := by
    rcases Nat.lt_trichotomy l f with g | g | g
    · have z := a2 f g h1
      unfold bnd at k5
      by_cases q0 : f = 0 ∨ f + 1 = n
      · omega
      · rw [if_neg q0] at k5
        have := of_decide_eq_true k5
        omega
    · exact g
    · have z := k3 l g (by omega)
      omega
  have e2 : r = t + 1 := by
    rcases Nat.lt_trichotomy r (t + 1) with g | g | g
    · have z := k3 r (by omega) (by omega)
      omega
    · exact g
    · have z := b3 (t + 1) (by omega) g
      unfold bnd at k6
      by_cases q0 : t + 1 = 0 ∨ t + 1 + 1 = n
      · omega
      · rw [if_neg q0] at k6
        have := of_decide_eq_true k6
        omega
  subst e1 e2
  unfold bnd at k5 k6
  refine ⟨?_, ?_, rfl⟩
  · split at k5
    · have := of_decide_eq_true k5
      omega
    · have := of_decide_eq_true k5
      omega
  · split at k6
    · have := of_decide_eq_true k6
      omega
    · have := of_decide_eq_true k6
      omega
theorem p_lake {K : PySem.W.Frag} {vs : List V} {H : Hp} {Q : VK} {E : XK} (h : spLake K vs H Q E) : t__law_lake K { nx := fun _ H' => Q .non H', rt := Q } (start ["_law_crests_here", "_law_peak", "_law_left", "_law_right"] vs) H := by
  obtain ⟨a, cs, p, rfl, hA, h60, hp1, hpn, k⟩ := h
  have hp : p < cs.length := by omega
  unfold t__law_lake
  walk_at "rv go"
  refine w_cut (fun σ2 H2 => ∃ l : Nat, σ2 = [some (.ref a), some (.int (p : Int)), some (.int (l : Int)), none] ∧ H2 = H ∧ LftL (hf cs) p l) (fun N key => ?_) ?_
  · refine w_while (fun m σ2 H2 => ∃ l : Nat, m = l ∧ σ2 = [some (.ref a), some (.int (p : Int)), some (.int (l : Int)), none] ∧ H2 = H ∧ l < p ∧ (∀ j, l < j → j < p → hf cs j ≤ hf cs p)) (m := p - 1) ⟨p - 1, rfl, by rw [show ((p - 1 : Nat) : Int) = (p : Int) - 1 by omega]; rfl, rfl, by omega, fun j a1 a2 => by omega⟩ ?_
    rintro m σ2 H2 ⟨l, rfl, rfl, rfl, hl, hmax⟩
    walk_at "rv go"
    refine w_both (fun h1 => ?_) (fun h1 => ?_)
    · walk_at "rv go"
      refine w_ixL (sq_lst hA) (at_h rfl (by omega)) ?_
      walk_at "rv go"
      refine w_ixL (sq_lst hA) (at_h rfl hp) ?_
      walk_at "rv go"
      refine w_both (fun h2 => ?_) (fun h2 => ?_)
      · refine w_turn ?_
        walk_at "rv go"
        refine ⟨m - 1, by omega, m - 1, rfl, by rw [show ((m - 1 : Nat) : Int) = (m : Int) - 1 by omega]; rfl, rfl, by omega, fun j a1 a2 => ?_⟩
        by_cases e : j = m
        · rw [e]
          exact h2
        · exact hmax j (by omega) a2
      · exact key _ _ ⟨m, rfl, rfl, hl, hmax, .inr (by omega)⟩
    · walk_at "rv go"
      exact key _ _ ⟨m, rfl, rfl, hl, hmax, .inl (by omega)⟩
  · rintro σ2 H2 ⟨l, rfl, rfl, hL⟩
    walk_at "rv go"
    refine w_cut (fun σ2 H3 => ∃ r : Nat, σ2 = [some (.ref a), some (.int (p : Int)), some (.int (l : Int)), some (.int (r : Int))] ∧ H3 = H2 ∧ RgtL (hf cs) cs.length p r) (fun N key => ?_) ?_
    · refine w_while (fun m σ2 H3 => ∃ r : Nat, m = cs.length - r ∧ σ2 = [some (.ref a), some (.int (p : Int)), some (.int (l : Int)), some (.int (r : Int))] ∧ H3 = H2 ∧ p < r ∧ r < cs.length ∧ (∀ j, p < j → j < r → hf cs j ≤ hf cs p)) (m := cs.length - (p + 1)) ⟨p + 1, rfl, by rw [show ((p + 1 : Nat) : Int) = (p : Int) + 1 by omega]; rfl, rfl, by omega, hpn, fun j a1 a2 => by omega⟩ ?_
      rintro m σ2 H3 ⟨r, rfl, rfl, rfl, hr, hrn, hmax⟩
      walk_at "rv go"
      refine w_lenL (sq_lst hA) ?_
      walk_at "rv go"
      rw [List.length_map]
      refine w_both (fun h1 => ?_) (fun h1 => ?_)
      · walk_at "rv go"
        refine w_ixL (sq_lst hA) (at_h rfl (by omega)) ?_
        walk_at "rv go"
        refine w_ixL (sq_lst hA) (at_h rfl hp) ?_
        walk_at "rv go"
        refine w_both (fun h2 => ?_) (fun h2 => ?_)
        · refine w_turn ?_
          walk_at "rv go"
          refine ⟨cs.length - (r + 1), by omega, r + 1, rfl, by rw [show ((r + 1 : Nat) : Int) = (r : Int) + 1 by omega]; rfl, rfl, by omega, by omega, fun j a1 a2 => ?_⟩
          by_cases e : j = r
          · rw [e]
            exact h2
          · exact hmax j a1 (by omega)
        · exact key _ _ ⟨r, rfl, rfl, hr, hrn, hmax, .inr (by omega)⟩
      · walk_at "rv go"
        exact key _ _ ⟨r, rfl, rfl, hr, hrn, hmax, .inl (by omega)⟩
    · rintro σ2 H3 ⟨r, rfl, rfl, hR⟩
      have hl' := hL.1
      have hr' := hR.2.1
      refine w_seq ?_
      walk_at "rv go"
      refine w_ixL (sq_lst hA) (at_h rfl (by omega)) ?_
      walk_at "rv go"
      refine w_ixL (sq_lst hA) (at_h rfl hp) ?_
      walk_at "rv go"
      refine w_both (fun h1 => ?_) (fun h1 => ?_)
      · walk_at "rv go"
        refine ⟨szl (by simp), fun t nt => ?_⟩
        exact k t none nt (fun q z => nomatch z) fun q y1 y2 y3 y4 => absurd h1 (lk_is hL hR y1 y2 y3 y4).1
      · walk_at "rv go"
        refine w_ixL (sq_lst hA) (at_h rfl hr') ?_
        walk_at "rv go"
        refine w_ixL (sq_lst hA) (at_h rfl hp) ?_
        walk_at "rv go"
        refine w_both (fun h2 => ?_) (fun h2 => ?_)
        · walk_at "rv go"
          refine ⟨szl (by simp), fun t nt => ?_⟩
          exact k t none nt (fun q z => nomatch z) fun q y1 y2 y3 y4 => absurd h2 (lk_is hL hR y1 y2 y3 y4).2.1
        · walk_at "rv go"
          refine w_ixL (sq_lst hA) (at_h rfl hp) ?_
          walk_at "rv go"
          refine ⟨szl (by simp), fun t nt => ?_⟩
          have z := k t (some (hf cs p, l, r - 1)) nt (fun q z => by cases z; exact lk_of hL hR h1 h2) fun q y1 y2 y3 y4 => by rw [(lk_is hL hR y1 y2 y3 y4).2.2]
          have e : ((r - 1 : Nat) : Int) = (r : Int) - 1 := by
            have := hR.1
            omega
          dsimp only at z
          rw [e] at z
          exact z
end Rv
namespace Rv
open PySem PySem.Spec PyProof.Rows L2
def spTops (K : PySem.W.Frag) (C : Addr) : Sp := fun vs H Q _ => ∃ p, ∃ hs ws : List Int, vs = [.ref p] ∧ PCls K C ∧ ProfAt K C H p hs ws ∧ hs.length ≤ 60 ∧
  ∀ r H' (L : List Pr), Same H H' → H r = none → H' r = some (.lst ((L.map fun q => hf hs q.1).map V.int)) → L.length ≤ 60 → Srt L → (∀ q : Pr, q ∈ L ↔ MaxRun (mark (hf hs) hs.length) hs.length true q.1 q.2) → Q (.ref r) H'
def spCrests (K : PySem.W.Frag) : Sp := fun vs H Q _ => ∃ a, ∃ hs : List Int, vs = [.ref a] ∧ H a = some (.lst (hs.map V.int)) ∧ hs.length ≤ 60 ∧ (∀ z ∈ hs, -10000000000000000000000000000000 < z) ∧
  ∀ r H' (L : List Pr), Same H H' → H r = none → H' r = some (.lst ((L.map fun q => hf hs q.1).map V.int)) → L.length ≤ 60 → Srt L → (∀ q : Pr, q ∈ L ↔ MaxRun (mark (hf hs) hs.length) hs.length true q.1 q.2) → Q (.ref r) H'
def GOk (z : Int) : Prop := 0 ≤ z ∧ z ≤ 200000000000000000000000000000
def spGround (K : PySem.W.Frag) : Sp := fun vs H Q _ => ∃ d c, vs = [.ref d] ∧ DrawsAt H d c ∧
  ∀ p H' (hs : List Int), 1 ≤ hs.length → hs.length ≤ 60 → (∀ z ∈ hs, GOk z) → But d H H' → DrawsAt H' d c → H p = none → H' p = some (.lst (hs.map V.int)) → Q (.ref p) H'
def spRows3 (K : PySem.W.Frag) : Sp := fun vs H Q _ => ∃ a xs L, vs = [.ref a] ∧ H a = some (.lst xs) ∧ TrsAt H xs L ∧ Q (.bl true) H
def t_peak_heights (K : PySem.W.Frag) (C_Profile : Addr) : TS :=
  (tRet (tLc (iList K (tCall (spPeaks K C_Profile) [] E0 (tCons (tVar 0) tNil))) (gTup K 2 (gCons (gName 1) (gCons (gName 2) gNil))) tYes (tOp (rIxT K) (tProp C_Profile (getSp C_Profile "column_heights") [] E0 (tVar 0)) (tVar 1)) [1, 2]))
def t__law_crests (K : PySem.W.Frag) : TS :=
  (tSeq (tAsg (tLst tNil) (gName 1))
    (tSeq (tAsg (tC (.bl true)) (gName 2))
    (tSeq (tFor (iRng1 (tCons (tCB (cLen K) (tCons (tVar 0) tNil)) tNil)) (gName 3) (tSeq (tAsg (tLst (tCons (tOp oSub (tC (.int 0)) (tOp oPow (tC (.int 10)) (tC (.int 31)))) tNil)) (gName 4))
    (tSeq (tIfS (tTest (tOp oLt (tOp oAdd (tVar 3) (tC (.int 1))) (tCB (cLen K) (tCons (tVar 0) tNil)))) (tAsg (tLst (tCons (tOp (rIxL K) (tVar 0) (tOp oAdd (tVar 3) (tC (.int 1)))) tNil)) (gName 4)) tNext)
    (tSeq (tIfS (tTest (tOp oGt (tOp (rIxL K) (tVar 4) (tC (.int 0))) (tOp (rIxL K) (tVar 0) (tVar 3)))) (tAsg (tC (.bl true)) (gName 2)) tNext)
    (tIfS (tTest (tOp oLt (tOp (rIxL K) (tVar 4) (tC (.int 0))) (tOp (rIxL K) (tVar 0) (tVar 3)))) (tSeq (tIfS (tB (tVar 2)) (tDrop (tBM K "list" rAppend (tVar 1) (tCons (tOp (rIxL K) (tVar 0) (tVar 3)) tNil))) tNext)
    (tAsg (tC (.bl false)) (gName 2))) tNext)))))
    (tRet (tVar 1)))))
def t__law_ground (K : PySem.W.Frag) : TS :=
  (tSeq (tAsg (tOp oAdd (tC (.int 3)) (tCall (spDraw K) [] E0 (tCons (tVar 0) (tCons (tOp (rIxL K) (tLst (tCons (tC (.int 9)) (tCons (tC (.int 58)) tNil))) (tCB cInt (tCons (tOp rEq (tCall (spDraw K) [] E0 (tCons (tVar 0) (tCons (tC (.int 4)) tNil))) (tC (.int 3))) tNil))) tNil)))) (gName 1))
    (tSeq (tAsg (tOp (rIxL K) (tLst (tCons (tC (.int 2)) (tCons (tC (.int 4)) (tCons (tC (.int 7)) (tCons (tOp oPow (tC (.int 10)) (tC (.int 29))) tNil))))) (tCall (spDraw K) [] E0 (tCons (tVar 0) (tCons (tC (.int 4)) tNil)))) (gName 2))
    (tSeq (tAsg (tLc (iRng1 (tCons (tVar 1) tNil)) (gName 4) tYes (tCall (spDraw K) [] E0 (tCons (tVar 0) (tCons (tVar 2) tNil))) [4]) (gName 3))
    (tSeq (tIfS (tTest (tOp oGt (tCall (spDraw K) [] E0 (tCons (tVar 0) (tCons (tC (.int 4)) tNil))) (tC (.int 0)))) (tAsg (tLc (iRng1 (tCons (tVar 1) tNil)) (gName 4) tYes (tOp oAdd (tOp (rIxL K) (tVar 3) (tVar 4)) (tOp oMul (tVar 2) (tOp oMod (tVar 4) (tC (.int 2))))) [4]) (gName 3)) tNext)
    (tRet (tVar 3))))))
def t__law_rows3 (K : PySem.W.Frag) : TS :=
  (tSeq (tIfS (tNot (tB (tCB (rIsi K) (tCons (tVar 0) (tCons (tC (.ty "list")) tNil))))) (tRet (tC (.bl false))) tNext)
    (tSeq (tFor (iList K (tVar 0)) (gName 1) (tSeq (tIfS (tOr (tNot (tB (tCB (rIsi K) (tCons (tVar 1) (tCons (tC (.ty "tuple")) tNil))))) (tTest (tOp rNe (tCB (cLen K) (tCons (tVar 1) tNil)) (tC (.int 3))))) (tRet (tC (.bl false))) tNext)
    (tFor (iTup K (tVar 1)) (gName 2) (tIfS (tOr (tNot (tB (tCB (rIsi K) (tCons (tVar 2) (tCons (tC (.ty "int")) tNil))))) (tB (tCB (rIsi K) (tCons (tVar 2) (tCons (tC (.ty "bool")) tNil))))) (tRet (tC (.bl false))) tNext))))
    (tRet (tC (.bl true)))))
local macro_rules | `(tactic| walk_at "rv st") => `(tactic| first
  | with_reducible refine iteT ?_ | with_reducible refine iteF ?_ | with_reducible refine w_nx ?_ | with_reducible refine w_yes ?_ | with_reducible refine w_rt ?_ | with_reducible refine iteNT ?_ | with_reducible refine iteNF ?_ | with_reducible refine iteNRf ?_ | with_reducible refine iteRf ?_ | with_reducible refine w_seqA ?_ | with_reducible refine w_seqD ?_ | with_reducible refine w_seqP ?_ | with_reducible refine w_asg ?_ | with_reducible refine w_ret ?_ | with_reducible refine w_drop ?_ | with_reducible refine w_ifs ?_ | with_reducible refine w_next ?_ | with_reducible refine w_par ?_
  | with_reducible refine w_op ?_ | with_reducible refine w_un ?_ | ((with_reducible show tVar _ _ _ _); refine' w_var ?hv ?_; (case hv => exact rfl)) | with_reducible refine w_c ?_ | with_reducible refine w_test ?_ | with_reducible refine w_tB ?_
  | with_reducible refine w_bl ?_ | with_reducible refine w_I0 ?_ | with_reducible refine w_U ?_ | with_reducible refine w_eqI ?_ | with_reducible refine w_neI ?_
  | with_reducible refine w_cons ?_ | with_reducible refine w_nil ?_ | with_reducible refine w_gn ?_ | with_reducible refine w_gsub ?_ | with_reducible refine w_and ?_ | with_reducible refine w_or ?_ | with_reducible refine w_not ?_
  | with_reducible refine w_andV ?_ | with_reducible refine w_orV ?_ | with_reducible refine w_notV ?_ | with_reducible refine w_if ?_ | with_reducible refine w_cb ?_ | with_reducible refine w_call ?_ | with_reducible refine w_lst ?_ | with_reducible refine w_tup ?_
  | with_reducible refine w_sl ?_ | with_reducible refine w_noPart ?_ | with_reducible refine w_part ?_ | with_reducible refine w_ex1 ?_ | with_reducible refine w_exb ?_ | with_reducible refine w_intB ?_ | with_reducible refine w_intI ?_ | with_reducible refine w_abs ?_)
local macro_rules | `(tactic| walk_at "rv ix") => `(tactic| ((with_reducible show rIxL _ _ _ _ _); refine' w_ixL (sq_lst ?ha) ?hb ?_; (case ha => first | exact upd_same | assumption); (case hb => first | exact rfl | assumption)))
local macro_rules | `(tactic| walk_at "rv ar") => `(tactic| first
  | (refine' w_I ?hc ?_; (case hc => first | (show (0 : Int) < _; first | assumption | decide | omega) | exact pow_c (by decide) (by decide) (by first | decide | omega) (by first | decide | omega) | exact mul_r (by first | decide | omega) (by first | decide | omega) | exact mul_l (by first | decide | omega) (by first | decide | omega) | exact divw (by first | assumption | decide | omega) (by first | assumption | decide | omega))))
local macro_rules | `(tactic| walk_at "rv go") => `(tactic| repeat first | walk_at "rv st" | walk_at "rv ix" | ((with_reducible show rI _ _ _ _ _ _); walk_at "rv ar"))
theorem p_tops {K : PySem.W.Frag} {C : Addr} {vs : List V} {H : Hp} {Q : VK} {E : XK} (h : spTops K C vs H Q E) : t_peak_heights K C { nx := fun _ H' => Q .non H', rt := Q } (start ["profile", "first", "last"] vs) H := by
  obtain ⟨p, hs, ws, rfl, P, ⟨dx, t1, t2, hp, h1, h2⟩, h60, k⟩ := h
  unfold t_peak_heights
  walk_at "rv go"
  refine w_lcl ?_
  walk_at "rv go"
  refine ⟨p, hs, ws, rfl, P, ⟨dx, t1, t2, hp, h1, h2⟩, h60, fun r H1 xs L e1 nr hr hP hL60 hS hM => ?_⟩
  refine ⟨r, rfl, ?_⟩
  refine w_lcA (sq_lst hr) (fun D i acc H' => H D = none ∧ Same H1 H' ∧ H1 D = none ∧ H' D = some (.lst acc) ∧ acc = ((L.take i).map fun q => hf hs q.1).map V.int ∧ acc.length ≤ i)
    (fun D nD => ⟨e1.free nD, same_new (Same.refl H1) nD, nD, upd_same, by rw [List.take_zero]; rfl, Nat.le_refl _⟩) (fun D i acc H' ⟨_, e, _⟩ => sq_lst (e _ _ hr)) ?_ ?_
  · rintro D i acc x H' hx ⟨nD0, e', nD, hD, hacc, hl⟩
    obtain ⟨q, hq, T, rfl, hT⟩ := hP.get hx
    refine ⟨T, _, rfl, sq_tup (e' _ _ hT), rfl, _, _, rfl, _, _, rfl, rfl, rfl, ?_⟩
    walk_at "rv go"
    have hqL : q ∈ L := List.mem_of_getElem? hq
    have s := (hM q).mp hqL
    have il : i < L.length := (List.getElem?_eq_some_iff.mp hq).1
    have etk : L.take (i + 1) = L.take i ++ [q] := by rw [List.take_add_one, hq]; rfl
    refine w_prop rfl (e' _ _ (e1 _ _ hp)) ?_
    refine ⟨p, dx, _, _, rfl, e' _ _ (e1 _ _ hp), pfl_h _ _, ?_⟩
    walk_at "rv go"
    refine w_ixT (sq_tup (e' _ _ (e1 _ _ h1))) (at_h rfl (by have := s.1; have := s.2.1; omega)) ?_
    refine ⟨acc, hD, Nat.lt_of_lt_of_le (by omega : acc.length < 100001) (by decide), acc ++ [.int (hf hs q.1)], nD0, ?_, nD, upd_same, ?_, ?_⟩
    · exact fun b o hb => by
        rw [upd_ne (ne_of_none hb nD)]
        exact e' _ _ hb
    · rw [etk, List.map_append, List.map_append, ← hacc]
      rfl
    · rw [List.length_append]
      show acc.length + 1 ≤ i + 1
      omega
  · rintro D acc H' ⟨nD0, e', nD, hD, hacc, hl⟩
    rw [hP.len, List.take_length] at hacc
    rw [hacc] at hD
    exact k D H' L (e1.trans e') nD0 hD hL60 hS hM
/-- what the law's crests know before column i -/
def CAcc (h : Nat → Int) (n i : Nat) (acc : List Int) (up : Bool) : Prop := ∃ first : Nat, ∃ L : List Pr, SInv h n i first L ∧ L.length ≤ i ∧ acc = (L.filter fun q => PKb h n q.1 q.2).map (fun q => h q.1) ∧ (first < n → up = (decide (first = 0) || decide (h (first - 1) < h first)))
theorem SInv.flat {h : Nat → Int} {n i first : Nat} {L : List Pr} (s : SInv h n i first L) (hi : i < n) : h i = h first := by
  have l := s.le
  by_cases w : first = i
  · rw [w]
  · have h1 := s.nxt (by omega) hi
    rw [h1]
    exact s.run _ (by omega) (by omega)
theorem crest_on {h : Nat → Int} {n i : Nat} {acc : List Int} {up : Bool} (s : CAcc h n i acc up) (hi : i + 1 < n) (c : h (i + 1) = h i) : CAcc h n (i + 1) acc up := by
  obtain ⟨f, L, s1, s2, s3, s4⟩ := s
  exact ⟨f, L, s1.on hi c, by omega, s3, s4⟩
theorem crest_up {h : Nat → Int} {n i : Nat} {acc : List Int} {up : Bool} (s : CAcc h n i acc up) (hi : i + 1 < n) (c : h i < h (i + 1)) : CAcc h n (i + 1) acc true := by
  obtain ⟨f, L, s1, s2, s3, s4⟩ := s
  refine ⟨i + 1, L ++ [(f, i)], s1.cut (by omega) (.inr (by omega)), by rw [List.length_append]; show L.length + 1 ≤ i + 1; omega, ?_, fun _ => ?_⟩
  · rw [List.filter_append, s3]
    have e : PKb h n f i = false := by
      unfold PKb
      rw [decide_eq_false (by omega : ¬ (i + 1 = n)), decide_eq_false (by omega : ¬ (h (i + 1) < h i)), Bool.or_false, Bool.and_false]
    rw [List.filter_cons_of_neg (by show ¬ (PKb h n f i = true); rw [e]; exact Bool.false_ne_true), List.filter_nil, List.append_nil]
  · rw [decide_eq_true (by rw [Nat.add_sub_cancel]; exact c : h (i + 1 - 1) < h (i + 1)), Bool.or_true]
theorem crest_down {h : Nat → Int} {n i : Nat} {acc : List Int} {up : Bool} (s : CAcc h n i acc up) (hi : i < n) (c : i + 1 = n ∨ h (i + 1) < h i) : CAcc h n (i + 1) (if up = true then acc ++ [h i] else acc) false := by
  obtain ⟨f, L, s1, s2, s3, s4⟩ := s
  have hf := s1.flat hi
  have s4 := s4 (by have := s1.le; omega)
  have e : PKb h n f i = up := by
    unfold PKb
    rw [s4]
    have : (decide (i + 1 = n) || decide (h (i + 1) < h i)) = true := by
      rcases c with c | c
      · rw [decide_eq_true c, Bool.true_or]
      · rw [decide_eq_true c, Bool.or_true]
    rw [this, Bool.and_true]
  refine ⟨i + 1, L ++ [(f, i)], s1.cut hi (c.imp id fun c => by omega), by rw [List.length_append]; show L.length + 1 ≤ i + 1; omega, ?_, fun hn => ?_⟩
  · rw [List.filter_append, s3]
    cases up with
    | true =>
      rw [List.filter_cons_of_pos (by exact e), List.filter_nil, List.map_append, if_pos rfl, hf]
      rfl
    | false =>
      rw [List.filter_cons_of_neg (by show ¬ (PKb h n f i = true); rw [e]; exact Bool.false_ne_true), List.filter_nil, List.append_nil, if_neg Bool.false_ne_true]
  · have c2 : h (i + 1) < h i := by
      rcases c with c | c
      · omega
      · exact c
    rw [decide_eq_false (by omega : ¬ (i + 1 = 0)), decide_eq_false (by rw [Nat.add_sub_cancel]; omega : ¬ (h (i + 1 - 1) < h (i + 1))), Bool.or_false]
theorem p_crests {K : PySem.W.Frag} {vs : List V} {H : Hp} {Q : VK} {E : XK} (h : spCrests K vs H Q E) : t__law_crests K { nx := fun _ H' => Q .non H', rt := Q } (start ["_law_heights", "_law_found", "_law_rising", "_law_at", "_law_after"] vs) H := by
  obtain ⟨a, hs, rfl, hA, h60, hok, k⟩ := h
  unfold t__law_crests
  walk_at "rv go"
  refine ⟨szl (by simp), fun r nr => ?_⟩
  have s1 : Same H (upd H r (.lst [])) := same_new (Same.refl H) nr
  walk_at "rv go"
  refine w_forR (n := hs.length) (by omega) (fun AQ q => ?_) (fun i σ' H' => ∃ acc up o3 o4, σ' = [some (.ref a), some (.ref r), some (.bl up), o3, o4] ∧ Same H H' ∧ H' r = some (.lst (acc.map V.int)) ∧ acc.length ≤ i ∧ CAcc (hf hs) hs.length i acc up)
    ⟨[], true, _, _, rfl, s1, upd_same, Nat.zero_le _, 0, [], SInv.zero _ _, Nat.zero_le _, rfl, fun _ => rfl⟩ ?_ ?_
  · walk_at "rv go"
    refine w_lenL (sq_lst (s1 _ _ hA)) ?_
    walk_at "rv go"
    rw [List.length_map]
    exact q
  · rintro i σ' H' hi ⟨acc, up, o3, o4, rfl, e', hr, hl, hC⟩
    walk_at "rv go"
    refine ⟨szl (by simp), fun v nv => ?_⟩
    walk_at "rv go"
    have hA1 : upd H' v (.lst [.int (0 - 10 ^ Int.toNat 31)]) a = some (.lst (hs.map V.int)) := by rw [upd_ne (ne_of_none (e' _ _ hA) nv)]; exact e' _ _ hA
    refine w_cut (fun σ2 H2 => ∃ v x, σ2 = [some (.ref a), some (.ref r), some (.bl up), some (.int (i : Int)), some (.ref v)] ∧ H2 v = some (.lst [.int x]) ∧ Same H' H2 ∧ ((i + 1 < hs.length ∧ x = hf hs (i + 1)) ∨ (i + 1 = hs.length ∧ x = -10000000000000000000000000000000))) (fun N key => ?_) ?_
    · refine w_ifs ?_
      walk_at "rv go"
      refine w_lenL (sq_lst hA1) ?_
      walk_at "rv go"
      rw [List.length_map]
      refine w_both (fun h1 => ?_) (fun h1 => ?_)
      · walk_at "rv go"
        refine w_ixL (sq_lst hA1) (at_h (k := i + 1) (by omega) (by omega)) ?_
        walk_at "rv go"
        refine ⟨szl (by simp), fun u nu => ?_⟩
        walk_at "rv go"
        exact key _ _ ⟨u, _, rfl, upd_same, same_new (same_new (Same.refl H') nv) nu, .inl ⟨by omega, rfl⟩⟩
      · walk_at "rv go"
        exact key _ _ ⟨v, _, rfl, upd_same, same_new (Same.refl H') nv, .inr ⟨by omega, by decide⟩⟩
    · rintro σ2 H2 ⟨v, x, rfl, hv, e2, hx⟩
      have hA2 := e2 _ _ (e' _ _ hA)
      have hr2 := e2 _ _ hr
      have e02 := e'.trans e2
      have hz : -10000000000000000000000000000000 < hf hs i := by
        refine hok _ ?_
        unfold hf
        rw [List.getD_eq_getElem?_getD, List.getElem?_eq_getElem hi]
        exact List.getElem_mem _
      refine w_seq ?_
      walk_at "rv go"
      refine w_ixL (sq_lst hA2) (at_h rfl hi) ?_
      walk_at "rv go"
      refine w_both (fun h1 => ?_) (fun h1 => ?_)
      · have hx1 : i + 1 < hs.length ∧ x = hf hs (i + 1) := by
          rcases hx with h | h
          · exact h
          · omega
        walk_at "rv go"
        refine w_ixL (sq_lst hA2) (at_h rfl hi) ?_
        walk_at "rv go"
        refine w_both (fun h2 => by omega) (fun h2 => ?_)
        walk_at "rv go"
        exact ⟨acc, true, _, _, rfl, e02, hr2, by omega, crest_up hC hx1.1 (by omega)⟩
      · walk_at "rv go"
        refine w_ixL (sq_lst hA2) (at_h rfl hi) ?_
        walk_at "rv go"
        refine w_both (fun h2 => ?_) (fun h2 => ?_)
        · have hx1 : i + 1 = hs.length ∨ hf hs (i + 1) < hf hs i := by
            rcases hx with h | h
            · exact .inr (by omega)
            · exact .inl h.1
          have cd := crest_down hC hi hx1
          refine w_seq ?_
          walk_at "rv go"
          refine w_bool (fun h3 => ?_) (fun h3 => ?_)
          · rw [h3, if_pos rfl] at cd
            walk_at "rv go"
            refine w_bm rfl hr2 ?_
            walk_at "rv go"
            refine w_ixL (sq_lst hA2) (at_h rfl hi) ?_
            walk_at "rv go"
            refine w_appR hr2 (by rw [List.length_map]; omega) ?_
            walk_at "rv go"
            refine ⟨acc ++ [hf hs i], false, _, _, rfl, ?_, ?_, by rw [List.length_append]; show acc.length + 1 ≤ i + 1; omega, cd⟩
            · exact fun b o hb => by
                rw [upd_ne (ne_of_none hb nr)]
                exact e02 _ _ hb
            · rw [upd_same, map_app]
          · rw [h3, if_neg Bool.false_ne_true] at cd
            walk_at "rv go"
            exact ⟨acc, false, _, _, rfl, e02, hr2, by omega, cd⟩
        · have hx1 : i + 1 < hs.length ∧ hf hs (i + 1) = hf hs i := by
            rcases hx with h | h
            · exact ⟨h.1, by omega⟩
            · omega
          walk_at "rv go"
          exact ⟨acc, up, _, _, rfl, e02, hr2, by omega, crest_on hC hx1.1 hx1.2⟩
  · rintro σ' H' ⟨acc, up, o3, o4, rfl, e', hr, hl, f, L, s1, s2, s3, s4⟩
    walk_at "rv go"
    rw [s3] at hr
    refine k r H' _ e' nr hr (Nat.le_trans (List.length_filter_le _ _) (by omega)) (List.Pairwise.filter _ s1.srt) fun q => ?_
    rw [List.mem_filter, s1.mem, ← peak_run]
    constructor
    · rintro ⟨⟨z1, z2⟩, z3⟩
      exact ⟨z1, z3⟩
    · rintro ⟨z1, z2⟩
      exact ⟨⟨z1, z1.2.1⟩, z2⟩
theorem p_rows3 {K : PySem.W.Frag} {vs : List V} {H : Hp} {Q : VK} {E : XK} (h : spRows3 K vs H Q E) : t__law_rows3 K { nx := fun _ H' => Q .non H', rt := Q } (start ["_law_value", "_law_row", "_law_part"] vs) H := by
  obtain ⟨a, xs, L, rfl, ha, hP, k⟩ := h
  unfold t__law_rows3
  refine w_seq ?_
  refine w_ifs ?_
  walk_at "rv go"
  refine isi_of (.ty "list") (.base (.lst ha)) kit_ll ?_
  walk_at "rv go"
  refine w_seq ?_
  refine w_forL (a := a) (fun Q q => ?_) (sq_lst ha) (fun i σ' H' => ∃ u v : Option V, σ' = [some (.ref a), u, v] ∧ H' = H) ⟨none, none, rfl, rfl⟩ (fun i σ' H' _ ⟨_, _, _, e⟩ => by rw [e]; exact sq_lst ha) ?_ ?_
  · walk_at "rv go"
    exact q
  · rintro i x σ' H' hx ⟨u, v, rfl, rfl⟩
    obtain ⟨q, hq, T, rfl, hT⟩ := hP.get hx
    walk_at "rv go"
    refine w_seq ?_
    refine w_ifs ?_
    walk_at "rv go"
    refine isi_of (.ty "tuple") (.base (.tup hT)) kit_tt ?_
    walk_at "rv go"
    refine w_lenT (sq_tup hT) ?_
    walk_at "rv go"
    refine w_bothN (fun z => absurd rfl z) (fun _ => ?_)
    walk_at "rv go"
    refine w_forT (a := T) (fun Q q => ?_) (sq_tup hT) (fun j σ' H2 => ∃ v : Option V, σ' = [some (.ref a), some (.ref T), v] ∧ H2 = H') ⟨v, rfl, rfl⟩ (fun j σ' H2 _ ⟨_, _, e⟩ => by rw [e]; exact sq_tup hT) ?_ ?_
    · walk_at "rv go"
      exact q
    · rintro j y σ' H2 hy ⟨v, rfl, rfl⟩
      have hi : ∃ z : Int, y = .int z := by
        match j, hy with
        | 0, hy => exact ⟨_, (Option.some.inj hy).symm⟩
        | 1, hy => exact ⟨_, (Option.some.inj hy).symm⟩
        | 2, hy => exact ⟨_, (Option.some.inj hy).symm⟩
        | j + 3, hy => simp at hy
      obtain ⟨z, rfl⟩ := hi
      walk_at "rv go"
      refine isi_of (.ty "int") (.base (.int z)) kit_ii ?_
      walk_at "rv go"
      refine isi_of (.ty "bool") (.base (.int z)) kit_ib ?_
      walk_at "rv go"
      exact ⟨_, rfl, rfl⟩
    · rintro σ' H2 ⟨v, rfl, rfl⟩
      exact ⟨_, _, rfl, rfl⟩
  · rintro σ' H' ⟨u, v, rfl, rfl⟩
    walk_at "rv go"
    exact k
end Rv
namespace Rv
open PySem PySem.Spec PyProof.Rows L2
/-- three own exceptions -/
structure OX3 (K : PySem.W.Frag) (CL CC CN : Addr) : Prop where
  oL : OexG K CL "OverflowError" "OverflowError.__new__" "OverflowError.__init__" bm_OverflowError
  oC : OexG K CC "IndexError" "IndexError.__new__" "IndexError.__init__" bm_IndexError
  oN : OexG K CN "ValueError" "ValueError.__new__" "ValueError.__init__" bm_ValueError
  fL : PySem.W.findIn K (.ref CL) "limit" = some none
  fC : PySem.W.findIn K (.ref CC) "value" = some none
  fN : PySem.W.findIn K (.ref CN) "value" = some none
/-- which clause takes which -/
structure EM3 (K : PySem.W.Frag) (CL CC CN : Addr) : Prop where
  cc : PySem.W.exmOne K (.ref CC) (.ref CC) = some true
  nc : PySem.W.exmOne K (.ref CN) (.ref CC) = some false
  nn : PySem.W.exmOne K (.ref CN) (.ref CN) = some true
  lc : PySem.W.exmOne K (.ref CL) (.ref CC) = some false
  ln : PySem.W.exmOne K (.ref CL) (.ref CN) = some false
  ll : PySem.W.exmOne K (.ref CL) (.ref CL) = some true
/-- what they are -/
structure KI3 (K : PySem.W.Frag) (CL CC CN CR : Addr) : Prop where
  cI : PySem.W.kitOne K (.ref CC) (.type "IndexError") = some true
  cR : PySem.W.kitOne K (.ref CC) (.ref CR) = some false
  nR : PySem.W.kitOne K (.ref CN) (.ref CR) = some true
  nI : PySem.W.kitOne K (.ref CN) (.type "IndexError") = some false
  lO : PySem.W.kitOne K (.ref CL) (.type "OverflowError") = some true
  lR : PySem.W.kitOne K (.ref CL) (.ref CR) = some false
def em3B (K : PySem.W.Frag) : Bool :=
  let CL := Value.ref (He.ga K "LimitExceeded")
  let CC := Value.ref (He.ga K "InvalidColumn")
  let CN := Value.ref (He.ga K "InvalidNumber")
  decide (PySem.W.exmOne K CC CC = some true) && (decide (PySem.W.exmOne K CN CC = some false) && (decide (PySem.W.exmOne K CN CN = some true) && (decide (PySem.W.exmOne K CL CC = some false) && (decide (PySem.W.exmOne K CL CN = some false) && decide (PySem.W.exmOne K CL CL = some true)))))
def ki3B (K : PySem.W.Frag) : Bool :=
  let CL := Value.ref (He.ga K "LimitExceeded")
  let CC := Value.ref (He.ga K "InvalidColumn")
  let CN := Value.ref (He.ga K "InvalidNumber")
  let CR := Value.ref (He.ga K "RainError")
  decide (PySem.W.kitOne K CC (.type "IndexError") = some true) && (decide (PySem.W.kitOne K CC CR = some false) && (decide (PySem.W.kitOne K CN CR = some true) && (decide (PySem.W.kitOne K CN (.type "IndexError") = some false) && (decide (PySem.W.kitOne K CL (.type "OverflowError") = some true) && decide (PySem.W.kitOne K CL CR = some false)))))
theorem em3_of {K : PySem.W.Frag} (h : em3B K = true) : EM3 K (He.ga K "LimitExceeded") (He.ga K "InvalidColumn") (He.ga K "InvalidNumber") := by
  obtain ⟨h1, h⟩ := He.ba h
  obtain ⟨h2, h⟩ := He.ba h
  obtain ⟨h3, h⟩ := He.ba h
  obtain ⟨h4, h⟩ := He.ba h
  obtain ⟨h5, h6⟩ := He.ba h
  exact ⟨of_decide_eq_true h1, of_decide_eq_true h2, of_decide_eq_true h3, of_decide_eq_true h4, of_decide_eq_true h5, of_decide_eq_true h6⟩
theorem ki3_of {K : PySem.W.Frag} (h : ki3B K = true) : KI3 K (He.ga K "LimitExceeded") (He.ga K "InvalidColumn") (He.ga K "InvalidNumber") (He.ga K "RainError") := by
  obtain ⟨h1, h⟩ := He.ba h
  obtain ⟨h2, h⟩ := He.ba h
  obtain ⟨h3, h⟩ := He.ba h
  obtain ⟨h4, h⟩ := He.ba h
  obtain ⟨h5, h6⟩ := He.ba h
  exact ⟨of_decide_eq_true h1, of_decide_eq_true h2, of_decide_eq_true h3, of_decide_eq_true h4, of_decide_eq_true h5, of_decide_eq_true h6⟩
theorem ox3_of {K : PySem.W.Frag} (h1 : oxB K "LimitExceeded" "OverflowError.__new__" bm_OverflowError = true) (h2 : oxB K "InvalidColumn" "IndexError.__new__" bm_IndexError = true) (h3 : oxB K "InvalidNumber" "ValueError.__new__" bm_ValueError = true)
    (n1 : decide (PySem.W.findIn K (.ref (He.ga K "LimitExceeded")) "limit" = some none) = true) (n2 : decide (PySem.W.findIn K (.ref (He.ga K "InvalidColumn")) "value" = some none) = true) (n3 : decide (PySem.W.findIn K (.ref (He.ga K "InvalidNumber")) "value" = some none) = true) :
    OX3 K (He.ga K "LimitExceeded") (He.ga K "InvalidColumn") (He.ga K "InvalidNumber") :=
  ⟨ox_ok PySem.F.excBase_OverflowError mok_oe h1, ox_ok PySem.F.excBase_IndexError mok_ie h2, ox_ok PySem.F.excBase_ValueError mok_ve h3, of_decide_eq_true n1, of_decide_eq_true n2, of_decide_eq_true n3⟩
theorem rki_of {K : PySem.W.Frag} {x : Str} (h : decide (PySem.W.kitOne K (.ref (He.ga K x)) (.type "int") = some false) = true) : RKi K (He.ga K x) := (of_decide_eq_true h : PySem.W.kitOne K (.ref (He.ga K x)) (.type "int") = some false)
theorem inI_int {lo hi : Int} {v : V} (h : inI lo hi v = true) : ∃ i, v = .int i ∧ lo ≤ i ∧ i ≤ hi := by
  cases v with
  | int i =>
    replace h : (decide (lo ≤ i) && decide (i ≤ hi)) = true := h
    rw [Bool.and_eq_true, decide_eq_true_eq, decide_eq_true_eq] at h
    exact ⟨i, rfl, h.1, h.2⟩
  | _ => exact Bool.noConfusion (show false = true from h)
theorem inI_not {lo hi : Int} {v : V} (h : isI v = false) : inI lo hi v = false := by
  cases v with
  | int i => exact Bool.noConfusion (show true = false from h)
  | _ => rfl
theorem isI_int {v : V} (h : isI v = true) : ∃ i, v = .int i := by
  cases v with
  | int i => exact ⟨i, rfl⟩
  | _ => exact Bool.noConfusion (show false = true from h)
theorem inI_yes {lo hi i : Int} (h1 : lo ≤ i) (h2 : i ≤ hi) : inI lo hi (.int i) = true := by
  show (decide (lo ≤ i) && decide (i ≤ hi)) = true
  rw [decide_eq_true h1, decide_eq_true h2]
  rfl
/-- what is told of a column raised -/
def dR (hs ws : List Int) (v w : V) (y y' : Str) : PyData :=
  if inI 0 ((hs.length : Int) - 1) v = true then
    if inI 0 1000000000000000000000000000000 w = true then
      match v, w with
      | .int i, .int j => if hN hs i.toNat + j ≤ 1000000000000000000000000000000 then .tuple [.tuple ((rsX hs i.toNat j).map PyData.int), .tuple (ws.map PyData.int)] else .tuple [.str "limit", .int 1000000000000000000000000000000, .bool true, .bool false]
      | _, _ => .none
    else .tuple [.str "number", .str y', .bool true, .bool false]
  else .tuple [.str "column", .str y, .bool true, .bool false]
theorem dR_c {hs ws : List Int} {v w : V} {y y' : Str} (h : inI 0 ((hs.length : Int) - 1) v = false) : dR hs ws v w y y' = .tuple [.str "column", .str y, .bool true, .bool false] := by
  unfold dR
  rw [h]
  rfl
theorem dR_n {hs ws : List Int} {v w : V} {y y' : Str} (h : inI 0 ((hs.length : Int) - 1) v = true) (g : inI 0 1000000000000000000000000000000 w = false) : dR hs ws v w y y' = .tuple [.str "number", .str y', .bool true, .bool false] := by
  unfold dR
  rw [h, g]
  rfl
theorem dR_i {hs ws : List Int} {c : Nat} {r : Int} {y y' : Str} (hc : c < hs.length) (h0 : 0 ≤ r) (h1 : r ≤ 1000000000000000000000000000000) : dR hs ws (.int (c : Int)) (.int r) y y' =
    if hN hs c + r ≤ 1000000000000000000000000000000 then .tuple [.tuple ((rsX hs c r).map PyData.int), .tuple (ws.map PyData.int)] else .tuple [.str "limit", .int 1000000000000000000000000000000, .bool true, .bool false] := by
  unfold dR
  rw [inI_yes (show (0 : Int) ≤ (c : Int) by omega) (show (c : Int) ≤ (hs.length : Int) - 1 by omega), inI_yes h0 h1]
  rfl
theorem sh4 {a y : Str} (h1 : PyData.strOk a = true) (h2 : PyData.strOk y = true) : SeqAt.shaped (.tuple [.str a, .str y, .bool true, .bool false]) = true := by
  simp [SeqAt.shaped, PyData.canLay0, PyData.canLayAll0, PyData.depth, PyData.depthAll, h1, h2]
theorem sh_dR {hs ws : List Int} {v w : V} {y y' : Str} (h : PyData.strOk y = true) (h' : PyData.strOk y' = true) : SeqAt.shaped (dR hs ws v w y y') = true := by
  unfold dR
  split
  · split
    · split
      · rename_i i j _ _
        split
        · have h := lay_ints (rsX hs i.toNat j)
          have g := lay_ints ws
          simp [SeqAt.shaped, PyData.canLay0, PyData.canLayAll0, PyData.depth, PyData.depthAll, h.1, h.2, g.1, g.2]
        · have s1 : PyData.strOk (Str.ofString "limit") = true := sok_str _
          simp [SeqAt.shaped, PyData.canLay0, PyData.canLayAll0, PyData.depth, PyData.depthAll, s1]
      · rfl
    · exact sh4 (sok_str _) h'
  · exact sh4 (sok_str _) h
def spRaisX (K : PySem.W.Frag) (CP CL CC CN : Addr) : Sp := fun vs H Q E => ∃ p v w hs ws, vs = [.ref p, v, w] ∧ PCls K CP ∧ OX3 K CL CC CN ∧ ProfAt K CP H p hs ws ∧ PrOk hs ws ∧ Whole K H v ∧ Whole K H w ∧
  (inI 0 ((hs.length : Int) - 1) v = false → ∀ d H', H d = none → Same H H' → H' d = some (.xd [("value", v)]) → E (.ref CC) (some d) H') ∧
  (inI 0 ((hs.length : Int) - 1) v = true → inI 0 1000000000000000000000000000000 w = false → ∀ d H', H d = none → Same H H' → H' d = some (.xd [("value", w)]) → E (.ref CN) (some d) H') ∧
  (∀ (c : Nat) (r : Int), v = .int (c : Int) → w = .int r → c < hs.length → 0 ≤ r → r ≤ 1000000000000000000000000000000 →
    (hN hs c + r ≤ 1000000000000000000000000000000 → ∀ q H', H q = none → Same H H' → ProfAt K CP H' q (rsX hs c r) ws → Q (.ref q) H') ∧
    (1000000000000000000000000000000 < hN hs c + r → ∀ d H', H d = none → Same H H' → H' d = some (.xd [("limit", .int 1000000000000000000000000000000)]) → E (.ref CL) (some d) H'))
def spTold16 (K : PySem.W.Frag) (CP CR CL CC CN CE : Addr) : Sp := fun vs H Q _ => ∃ p v w y y' hs ws, vs = [.ref p, v, w] ∧ PCls K CP ∧ RCls K CR ∧ RKi K CR ∧ OX3 K CL CC CN ∧ EM3 K CL CC CN ∧ KI3 K CL CC CN CE ∧ ProfAt K CP H p hs ws ∧ PrOk hs ws ∧ Odd CR H v y ∧ Odd CR H w y' ∧ ∀ r H', Same H H' → Dp K H' (.ref r) (dR hs ws v w y y') → Q (.ref r) H'
def spPlace16 (K : PySem.W.Frag) (CR : Addr) : Sp := fun vs H Q _ => ∃ (d c : Addr) (n : Int), vs = [.ref d, .int n] ∧ RCls K CR ∧ DrawsAt H d c ∧ 0 < n ∧ n ≤ 60 ∧ ∀ v y H', But d H H' → DrawsAt H' d c → Odd CR H' v y → Q v H'
def spRise16 (K : PySem.W.Frag) (CR : Addr) : Sp := fun vs H Q _ => ∃ (d c : Addr), vs = [.ref d] ∧ RCls K CR ∧ DrawsAt H d c ∧ ∀ v y H', But d H H' → DrawsAt H' d c → Odd CR H' v y → Q v H'
def spDue16 (K : PySem.W.Frag) (CR : Addr) : Sp := fun vs H Q _ => ∃ a b v w y y' hs ws, vs = [.ref a, .ref b, v, w] ∧ RCls K CR ∧ RKi K CR ∧ H a = some (.lst (hs.map V.int)) ∧ H b = some (.lst (ws.map V.int)) ∧ PrOk hs ws ∧ Odd CR H v y ∧ Odd CR H w y' ∧ ∀ r H', Same H H' → Dp K H' (.ref r) (dR hs ws v w y y') → Q (.ref r) H'
def spLaw16 (K : PySem.W.Frag) (CP CR CL CC CN CE : Addr) : Sp := fun vs H Q _ => ∃ (a : Addr) (ns : List Int), vs = [.ref a] ∧ SqL K H a (ns.map V.int) ∧ PCls K CP ∧ RCls K CR ∧ RKi K CR ∧ OX3 K CL CC CN ∧ EM3 K CL CC CN ∧ KI3 K CL CC CN CE ∧ ∀ H', Q (.bl true) H'
def t_InvalidColumn___init__ (K : PySem.W.Frag) (C_InvalidColumn : Addr) : TS :=
  (tSeq (tDrop (tBaseI K C_InvalidColumn "IndexError" "IndexError.__new__" "IndexError.__init__" bm_IndexError (tCons (tVar 0) (tCons (tC (.str "not a column")) tNil))))
    (tFst K C_InvalidColumn "IndexError" "IndexError.__new__" "IndexError.__init__" bm_IndexError "value" (tVar 0) (tVar 1)))
def t_InvalidNumber___init__ (K : PySem.W.Frag) (C_InvalidNumber : Addr) : TS :=
  (tSeq (tDrop (tBaseI K C_InvalidNumber "ValueError" "ValueError.__new__" "ValueError.__init__" bm_ValueError (tCons (tVar 0) (tCons (tC (.str "not a valid number here")) tNil))))
    (tFst K C_InvalidNumber "ValueError" "ValueError.__new__" "ValueError.__init__" bm_ValueError "value" (tVar 0) (tVar 1)))
def t_Profile_raisedX (K : PySem.W.Frag) (C_Profile : Addr) (C_LimitExceeded : Addr) (C_InvalidColumn : Addr) (C_InvalidNumber : Addr) (E : XK) : TS :=
  (tSeq (tIfS (tNot (tB (tCall (spWithin K) [] E0 (tCons (tVar 1) (tCons (tC (.int 0)) (tCons (tOp oSub (tCB (cLenO C_Profile (spPLen K C_Profile) E0) (tCons (tVar 0) tNil)) (tC (.int 1))) tNil)))))) (tRaise (tMkO C_InvalidColumn (spExc K C_InvalidColumn "IndexError" "IndexError.__new__" "IndexError.__init__" bm_IndexError "value") [] (tCons (tVar 1) tNil)) E) tNext)
    (tSeq (tIfS (tNot (tB (tCall (spWithin K) [] E0 (tCons (tVar 2) (tCons (tC (.int 0)) (tCons (tC (.int 1000000000000000000000000000000)) tNil)))))) (tRaise (tMkO C_InvalidNumber (spExc K C_InvalidNumber "ValueError" "ValueError.__new__" "ValueError.__init__" bm_ValueError "value") [] (tCons (tVar 2) tNil)) E) tNext)
    (tSeq (tAsg (tCB (cList K) (tCons (tFld K (tVar 0) "column_heights") tNil)) (gName 3))
    (tSeq (tAsg (tOp oAdd (tOp (rIxL K) (tVar 3) (tVar 1)) (tVar 2)) (gSub (tVar 3) (tVar 1) rSetL))
    (tRet (tCall (spGrownX K C_Profile C_LimitExceeded) [] E (tCons (tVar 3) (tCons (tFld K (tVar 0) "column_widths") tNil))))))))
def t__law_raised (K : PySem.W.Frag) (C_Profile : Addr) (C_Ratio : Addr) (C_LimitExceeded : Addr) (C_InvalidColumn : Addr) (C_InvalidNumber : Addr) (C_RainError : Addr) : TS :=
  (tSeq (tAsg (tTup tNil) (gName 3))
    (tSeq (tTryL K 5 (fun W => (tSeq (tAsg (tMethD C_Profile "raised" (spRaisX K C_Profile C_LimitExceeded C_InvalidColumn C_InvalidNumber) [] (WE W) (tVar 0) (tCons (tVar 1) (tCons (tVar 2) tNil))) (gName 4))
    (tAsg (tTup (tCons (tProp C_Profile (getSp C_Profile "column_heights") [] E0 (tVar 4)) (tCons (tProp C_Profile (getSp C_Profile "column_widths") [] E0 (tVar 4)) tNil))) (gName 3)))) [(.ref C_InvalidColumn, fun xa xcls xd => (tAsg (tTup (tCons (tC (.str "column")) (tCons (tCB (cReprA K C_Ratio (spRRepr K C_Ratio)) (tCons (tXf xa xcls xd C_InvalidColumn "value" (tVar 5)) tNil)) (tCons (tCB (rIsD K C_InvalidColumn xa xcls xd) (tCons (tVar 5) (tCons (tC (.ty "IndexError")) tNil))) (tCons (tCB (rIsD K C_InvalidColumn xa xcls xd) (tCons (tVar 5) (tCons (tC (.ref C_RainError)) tNil))) tNil))))) (gName 3))), (.ref C_InvalidNumber, fun xa xcls xd => (tAsg (tTup (tCons (tC (.str "number")) (tCons (tCB (cReprA K C_Ratio (spRRepr K C_Ratio)) (tCons (tXf xa xcls xd C_InvalidNumber "value" (tVar 5)) tNil)) (tCons (tCB (rIsD K C_InvalidNumber xa xcls xd) (tCons (tVar 5) (tCons (tC (.ref C_RainError)) tNil))) (tCons (tCB (rIsD K C_InvalidNumber xa xcls xd) (tCons (tVar 5) (tCons (tC (.ty "IndexError")) tNil))) tNil))))) (gName 3))), (.ref C_LimitExceeded, fun xa xcls xd => (tAsg (tTup (tCons (tC (.str "limit")) (tCons (tXf xa xcls xd C_LimitExceeded "limit" (tVar 5)) (tCons (tCB (rIsD K C_LimitExceeded xa xcls xd) (tCons (tVar 5) (tCons (tC (.ty "OverflowError")) tNil))) (tCons (tCB (rIsD K C_LimitExceeded xa xcls xd) (tCons (tVar 5) (tCons (tC (.ref C_RainError)) tNil))) tNil))))) (gName 3)))] (fun _ _ _ _ => False))
    (tRet (tVar 3))))
def t__law_is_int (K : PySem.W.Frag) : TS :=
  (tRet (tAndV (tCB (rIsi K) (tCons (tVar 0) (tCons (tC (.ty "int")) tNil))) (tNotV (tCB (rIsi K) (tCons (tVar 0) (tCons (tC (.ty "bool")) tNil))))))
def t__law_place (K : PySem.W.Frag) (C_Ratio : Addr) : TS :=
  (tSeq (tIfS (tTest (tOp rEq (tCall (spDraw K) [] E0 (tCons (tVar 0) (tCons (tC (.int 4)) tNil))) (tC (.int 3)))) (tSeq (tAsg (tOp oAdd (tVar 1) (tCall (spDraw K) [] E0 (tCons (tVar 0) (tCons (tOp oPow (tC (.int 10)) (tC (.int 9))) tNil)))) (gName 2))
    (tSeq (tAsg (tOp oSub (tOp oSub (tC (.int 0)) (tC (.int 1))) (tCall (spDraw K) [] E0 (tCons (tVar 0) (tCons (tVar 1) tNil)))) (gName 3))
    (tRet (tOp (rIxL K) (tLst (tCons (tC .non) (tCons (tC (.bl true)) (tCons (tC (.bl false)) (tCons (tC (.str "0")) (tCons (tTup tNil) (tCons (tLst (tCons (tC (.int 0)) tNil)) (tCons (tVar 3) (tCons (tOp oSub (tC (.int 0)) (tVar 2)) (tCons (tVar 2) (tCons (tVar 1) (tCons (tMake C_Ratio (spRInit K C_Ratio) [.int 1] E0 (tCons (tC (.int 0)) tNil)) tNil)))))))))))) (tCall (spDraw K) [] E0 (tCons (tVar 0) (tCons (tC (.int 11)) tNil))))))) tNext)
    (tRet (tCall (spDraw K) [] E0 (tCons (tVar 0) (tCons (tVar 1) tNil)))))
def t__law_rise (K : PySem.W.Frag) (C_Ratio : Addr) : TS :=
  (tSeq (tAsg (tCall (spDraw K) [] E0 (tCons (tVar 0) (tCons (tC (.int 6)) tNil))) (gName 1))
    (tSeq (tIfS (tTest (tOp rEq (tVar 1) (tC (.int 0)))) (tSeq (tAsg (tOp oAdd (tOp oAdd (tOp oPow (tC (.int 10)) (tC (.int 30))) (tC (.int 1))) (tCall (spDraw K) [] E0 (tCons (tVar 0) (tCons (tOp oPow (tC (.int 10)) (tC (.int 9))) tNil)))) (gName 2))
    (tSeq (tAsg (tOp oSub (tOp oSub (tC (.int 0)) (tC (.int 1))) (tCall (spDraw K) [] E0 (tCons (tVar 0) (tCons (tC (.int 9)) tNil)))) (gName 3))
    (tRet (tOp (rIxL K) (tLst (tCons (tC .non) (tCons (tC (.bl true)) (tCons (tC (.bl false)) (tCons (tC (.str "2")) (tCons (tC (.str "")) (tCons (tTup tNil) (tCons (tLst (tCons (tC (.int 2)) tNil)) (tCons (tVar 3) (tCons (tOp oSub (tC (.int 0)) (tVar 2)) (tCons (tVar 2) (tCons (tMake C_Ratio (spRInit K C_Ratio) [.int 1] E0 (tCons (tC (.int 2)) tNil)) tNil)))))))))))) (tCall (spDraw K) [] E0 (tCons (tVar 0) (tCons (tC (.int 11)) tNil))))))) tNext)
    (tSeq (tIfS (tTest (tOp rEq (tVar 1) (tC (.int 1)))) (tRet (tOp oSub (tOp oPow (tC (.int 10)) (tC (.int 30))) (tCall (spDraw K) [] E0 (tCons (tVar 0) (tCons (tC (.int 2)) tNil))))) tNext)
    (tRet (tCall (spDraw K) [] E0 (tCons (tVar 0) (tCons (tOp (rIxL K) (tLst (tCons (tC (.int 1)) (tCons (tC (.int 5)) (tCons (tOp oPow (tC (.int 10)) (tC (.int 6))) (tCons (tOp oAdd (tOp oPow (tC (.int 10)) (tC (.int 30))) (tC (.int 1))) tNil))))) (tCall (spDraw K) [] E0 (tCons (tVar 0) (tCons (tC (.int 4)) tNil)))) tNil)))))))
def t__law_due16 (K : PySem.W.Frag) (C_Ratio : Addr) : TS :=
  (tSeq (tIfS (tOr (tNot (tB (tCall (spWhole K) [] E0 (tCons (tVar 2) tNil)))) (tNot (tTest (tChain oLe oLt (tC (.int 0)) (tVar 2) (tCB (cLen K) (tCons (tVar 0) tNil)))))) (tRet (tTup (tCons (tC (.str "column")) (tCons (tCB (cReprA K C_Ratio (spRRepr K C_Ratio)) (tCons (tVar 2) tNil)) (tCons (tC (.bl true)) (tCons (tC (.bl false)) tNil)))))) tNext)
    (tSeq (tIfS (tOr (tNot (tB (tCall (spWhole K) [] E0 (tCons (tVar 3) tNil)))) (tNot (tTest (tChain oLe oLe (tC (.int 0)) (tVar 3) (tOp oPow (tC (.int 10)) (tC (.int 30))))))) (tRet (tTup (tCons (tC (.str "number")) (tCons (tCB (cReprA K C_Ratio (spRRepr K C_Ratio)) (tCons (tVar 3) tNil)) (tCons (tC (.bl true)) (tCons (tC (.bl false)) tNil)))))) tNext)
    (tSeq (tIfS (tTest (tOp oGt (tOp oAdd (tOp (rIxL K) (tVar 0) (tVar 2)) (tVar 3)) (tOp oPow (tC (.int 10)) (tC (.int 30))))) (tRet (tTup (tCons (tC (.str "limit")) (tCons (tOp oPow (tC (.int 10)) (tC (.int 30))) (tCons (tC (.bl true)) (tCons (tC (.bl false)) tNil)))))) tNext)
    (tSeq (tAsg (tCB (cList K) (tCons (tVar 0) tNil)) (gName 4))
    (tSeq (tAsg (tOp oAdd (tOp (rIxL K) (tVar 4) (tVar 2)) (tVar 3)) (gSub (tVar 4) (tVar 2) rSetL))
    (tRet (tTup (tCons (tCB (cTuple K) (tCons (tVar 4) tNil)) (tCons (tCB (cTuple K) (tCons (tVar 1) tNil)) tNil)))))))))
def t_law16b (K : PySem.W.Frag) (C_Profile : Addr) (C_Ratio : Addr) (C_LimitExceeded : Addr) (C_InvalidColumn : Addr) (C_InvalidNumber : Addr) (C_RainError : Addr) : TS :=
  (tSeq (tAsg (tMake C_Profile (spInit K C_Profile) [] E0 (tCons (tVar 3) (tCons (tVar 5) tNil))) (gName 6))
    (tSeq (tAsg (tCB (cReprO C_Profile (spPRepr K C_Profile) E0) (tCons (tVar 6) tNil)) (gName 7))
    (tSeq (tAsg (tCall (spDue16 K C_Ratio) [] E0 (tCons (tVar 3) (tCons (tVar 5) (tCons (tVar 4) (tCons (tVar 2) tNil))))) (gName 8))
    (tSeq (tFor (iRng1 (tCons (tC (.int 2)) tNil)) (gName 9) (tIfS (tOr (tTest (tOp (rNeD K) (tCall (spTold16 K C_Profile C_Ratio C_LimitExceeded C_InvalidColumn C_InvalidNumber C_RainError) [] E0 (tCons (tVar 6) (tCons (tVar 4) (tCons (tVar 2) tNil)))) (tVar 8))) (tTest (tOp rNe (tCB (cReprO C_Profile (spPRepr K C_Profile) E0) (tCons (tVar 6) tNil)) (tVar 7)))) (tRet (tC (.bl false))) tNext))
    (tSeq (tAsg (tOp oSub (tCB (cLen K) (tCons (tVar 3) tNil)) (tC (.int 1))) (gName 10))
    (tRet (tOp (rEqD K) (tCall (spTold16 K C_Profile C_Ratio C_LimitExceeded C_InvalidColumn C_InvalidNumber C_RainError) [] E0 (tCons (tVar 6) (tCons (tVar 10) (tCons (tC (.int 0)) tNil)))) (tTup (tCons (tCB (cTuple K) (tCons (tVar 3) tNil)) (tCons (tCB (cTuple K) (tCons (tVar 5) tNil)) tNil))))))))))
def t_law16 (K : PySem.W.Frag) (C_Profile : Addr) (C_Ratio : Addr) (C_LimitExceeded : Addr) (C_InvalidColumn : Addr) (C_InvalidNumber : Addr) (C_RainError : Addr) : TS :=
  (tSeq (tAsg (tCall (spDraws K) [] E0 (tCons (tVar 0) tNil)) (gName 1))
    (tSeq (tAsg (tCall (spRise16 K C_Ratio) [] E0 (tCons (tVar 1) tNil)) (gName 2))
    (tSeq (tAsg (tCall (spHeights K) [] E0 (tCons (tVar 1) tNil)) (gName 3))
    (tSeq (tAsg (tCall (spPlace16 K C_Ratio) [] E0 (tCons (tVar 1) (tCons (tCB (cLen K) (tCons (tVar 3) tNil)) tNil))) (gName 4))
    (tSeq (tAsg (tCall (spWidths K) [] E0 (tCons (tVar 1) (tCons (tCB (cLen K) (tCons (tVar 3) tNil)) tNil))) (gName 5))
    (tSeq (tIfS (tAnd (tTest (tOp rEq (tCall (spDraw K) [] E0 (tCons (tVar 1) (tCons (tC (.int 5)) tNil))) (tC (.int 4)))) (tAnd (tB (tCall (spWhole K) [] E0 (tCons (tVar 4) tNil))) (tTest (tChain oLe oLt (tC (.int 0)) (tVar 4) (tCB (cLen K) (tCons (tVar 3) tNil)))))) (tIfS (tAnd (tB (tCall (spWhole K) [] E0 (tCons (tVar 2) tNil))) (tTest (tChain oLe oLe (tC (.int 0)) (tVar 2) (tOp oPow (tC (.int 10)) (tC (.int 30)))))) (tAsg (tOp oAdd (tOp oSub (tOp oPow (tC (.int 10)) (tC (.int 30))) (tVar 2)) (tOp oMul (tCall (spDraw K) [] E0 (tCons (tVar 1) (tCons (tC (.int 2)) tNil))) (tCB cInt (tCons (tOp oGt (tVar 2) (tC (.int 0))) tNil)))) (gSub (tVar 3) (tVar 4) rSetL)) tNext) tNext)
    (t_law16b K C_Profile C_Ratio C_LimitExceeded C_InvalidColumn C_InvalidNumber C_RainError)))))))
local macro_rules | `(tactic| walk_at "rv st") => `(tactic| first
  | with_reducible refine iteT ?_ | with_reducible refine iteF ?_ | with_reducible refine w_nx ?_ | with_reducible refine w_yes ?_ | with_reducible refine w_rt ?_ | with_reducible refine iteNT ?_ | with_reducible refine iteNF ?_ | with_reducible refine iteNRf ?_ | with_reducible refine iteRf ?_ | with_reducible refine w_seqA ?_ | with_reducible refine w_seqD ?_ | with_reducible refine w_seqP ?_ | with_reducible refine w_asg ?_ | with_reducible refine w_ret ?_ | with_reducible refine w_drop ?_ | with_reducible refine w_ifs ?_ | with_reducible refine w_next ?_ | with_reducible refine w_par ?_
  | with_reducible refine w_op ?_ | with_reducible refine w_un ?_ | ((with_reducible show tVar _ _ _ _); refine' w_var ?hv ?_; (case hv => exact rfl)) | with_reducible refine w_c ?_ | with_reducible refine w_test ?_ | with_reducible refine w_tB ?_
  | with_reducible refine w_bl ?_ | with_reducible refine w_I0 ?_ | with_reducible refine w_U ?_ | with_reducible refine w_eqI ?_ | with_reducible refine w_neI ?_
  | with_reducible refine w_cons ?_ | with_reducible refine w_nil ?_ | with_reducible refine w_gn ?_ | with_reducible refine w_gsub ?_ | with_reducible refine w_and ?_ | with_reducible refine w_or ?_ | with_reducible refine w_not ?_
  | with_reducible refine w_andV ?_ | with_reducible refine w_orV ?_ | with_reducible refine w_notV ?_ | with_reducible refine w_if ?_ | with_reducible refine w_cb ?_ | with_reducible refine w_call ?_ | with_reducible refine w_lst ?_ | with_reducible refine w_tup ?_
  | with_reducible refine w_sl ?_ | with_reducible refine w_noPart ?_ | with_reducible refine w_part ?_ | with_reducible refine w_ex1 ?_ | with_reducible refine w_exb ?_ | with_reducible refine w_intB ?_ | with_reducible refine w_intI ?_ | with_reducible refine w_abs ?_)
local macro_rules | `(tactic| walk_at "rv ix") => `(tactic| ((with_reducible show rIxL _ _ _ _ _); refine' w_ixL (sq_lst ?ha) ?hb ?_; (case ha => first | exact upd_same | assumption); (case hb => first | exact rfl | assumption)))
local macro_rules | `(tactic| walk_at "rv ar") => `(tactic| first
  | (refine' w_I ?hc ?_; (case hc => first | (show (0 : Int) < _; first | assumption | decide | omega) | exact pow_c (by decide) (by decide) (by first | decide | omega) (by first | decide | omega) | exact mul_r (by first | decide | omega) (by first | decide | omega) | exact mul_l (by first | decide | omega) (by first | decide | omega) | exact divw (by first | assumption | decide | omega) (by first | assumption | decide | omega))))
local macro_rules | `(tactic| walk_at "rv go") => `(tactic| repeat first | walk_at "rv st" | walk_at "rv ix" | ((with_reducible show rI _ _ _ _ _ _); walk_at "rv ar"))
theorem p_colI {K : PySem.W.Frag} {C : Addr} {vs : List V} {H : Hp} {Q : VK} {E : XK} (h : spExc K C "IndexError" "IndexError.__new__" "IndexError.__init__" bm_IndexError "value" vs H Q E) : t_InvalidColumn___init__ K C { nx := fun _ H' => Q .non H', rt := Q } (start ["self", "value"] vs) H := p_exc "not a column" h fun _ _ => rfl
theorem p_numI {K : PySem.W.Frag} {C : Addr} {vs : List V} {H : Hp} {Q : VK} {E : XK} (h : spExc K C "ValueError" "ValueError.__new__" "ValueError.__init__" bm_ValueError "value" vs H Q E) : t_InvalidNumber___init__ K C { nx := fun _ H' => Q .non H', rt := Q } (start ["self", "value"] vs) H := p_exc "not a valid number here" h fun _ _ => rfl
theorem p_raisX {K : PySem.W.Frag} {CP CL CC CN : Addr} {vs : List V} {H : Hp} {Q : VK} {E : XK} (h : spRaisX K CP CL CC CN vs H Q E) : t_Profile_raisedX K CP CL CC CN E { nx := fun _ H' => Q .non H', rt := Q } (start ["self", "column", "height", "heights"] vs) H := by
  obtain ⟨p, v, w, hs, ws, rfl, P, X, hp, ok, hv, hw, k1, k2, k3⟩ := h
  obtain ⟨dx, t1, t2, h0, h1, h2⟩ := id hp
  unfold t_Profile_raisedX
  have l60 := ok.le
  refine w_seq ?_
  walk_at "rv go"
  refine w_lenO h0 ?_
  refine ⟨p, hs, ws, rfl, P, hp, _, rfl, ⟨by omega, Int.lt_of_le_of_lt (b := 60) (by omega) (by decide)⟩, ?_⟩
  walk_at "rv go"
  refine ⟨v, 0, _, rfl, hv, ?_⟩
  cases e1 : inI 0 ((hs.length : Int) - 1) v with
  | false =>
    walk_at "rv go"
    refine w_raise ?_
    refine w_mkO ?_
    walk_at "rv go"
    exact exc_new X.oC X.fC fun d H' nd e hd => k1 e1 d H' nd e hd
  | true =>
    walk_at "rv go"
    refine w_seq ?_
    walk_at "rv go"
    refine ⟨w, 0, 1000000000000000000000000000000, rfl, hw, ?_⟩
    cases e2 : inI 0 1000000000000000000000000000000 w with
    | false =>
      walk_at "rv go"
      refine w_raise ?_
      refine w_mkO ?_
      walk_at "rv go"
      exact exc_new X.oN X.fN fun d H' nd e hd => k2 e1 e2 d H' nd e hd
    | true =>
      obtain ⟨i, rfl, i0, i1⟩ := inI_int e1
      obtain ⟨r, rfl, r0, r1⟩ := inI_int e2
      obtain ⟨c, rfl⟩ : ∃ c : Nat, i = (c : Int) := ⟨i.toNat, by omega⟩
      have hc : c < hs.length := by omega
      obtain ⟨k4, k5⟩ := k3 c r rfl rfl hc r0 r1
      walk_at "rv go"
      refine w_fld rfl h0 P.cl P.nH (pfl_h _ _) ?_
      walk_at "rv go"
      refine lst_callR (.inr h1) fun l nl => ?_
      walk_at "rv go"
      refine w_ixL (sq_lst upd_same) (at_hN hc) ?_
      walk_at "rv go"
      refine w_setL (xs := hs.map V.int) (j := c) upd_same (by rw [List.length_map]; exact ixN_nat hc) ?_
      rw [map_set]
      have eS : Same H (upd (upd H l (.lst (hs.map V.int))) l (.lst ((hs.set c (hN hs c + r)).map V.int))) := fun b o hb => by
        have n : b ≠ l := ne_of_none hb nl
        rw [upd_ne n, upd_ne n]
        exact hb
      walk_at "rv go"
      refine w_fld rfl (eS _ _ h0) P.cl P.nW (pfl_w _ _) ?_
      walk_at "rv go"
      have hN1 := ok.hh _ (hN_mem hc)
      refine ⟨l, t2, rsX hs c r, ws, rfl, P, X.oL, X.fL, .inl upd_same, .inr (eS _ _ h2), by rw [rsX_len]; exact ok.pos, by rw [rsX_len]; exact ok.le, by rw [rsX_len]; exact ok.eq, fun a1 a2 q H3 nq e3 hq => ?_, fun a1 d H3 nd e3 hd => ?_⟩
      · refine k4 ?_ q H3 (free_same eS nq) (eS.trans e3) hq
        refine Classical.byContradiction fun g => rsX_bad hc (fun z => g z.2) a1
      · refine k5 ?_ d H3 (free_same eS nd) (eS.trans e3) hd
        refine Classical.byContradiction fun g => a1 ⟨(rsX_ok ok hc ⟨by have := hN1.1; omega, by omega⟩).hh, ok.ww⟩
theorem p_isint16 {K : PySem.W.Frag} {vs : List V} {H : Hp} {Q : VK} {E : XK} (h : spWhole K vs H Q E) : t__law_is_int K { nx := fun _ H' => Q .non H', rt := Q } (start ["_law_value"] vs) H := p_whole h
theorem wA {K : PySem.W.Frag} {D : Ends} {i : Nat} {Wo : WX} {c : Value} {ts : Addr → Value → Option Addr → TS} {r : List Cl} {cls : Value} {d : Option Addr} {σ : L2.St} {H : Hp} (em : PySem.W.exmOne K cls c = some true)
    (q : ∀ a, H a = none → ts a cls d { nx := fun σ' H' => D.nx (σ'.set i none) H', rt := D.rt, bk := fun σ' H' => D.bk (σ'.set i none) H', ct := fun σ' H' => D.ct (σ'.set i none) H' } (σ.set i (some (.ref a))) H) : wAsL K i Wo D ((c, ts) :: r) cls d σ H := ⟨true, em, (fun _ => q), fun z => Bool.noConfusion z⟩
theorem wB {K : PySem.W.Frag} {D : Ends} {i : Nat} {Wo : WX} {c : Value} {ts : Addr → Value → Option Addr → TS} {r : List Cl} {cls : Value} {d : Option Addr} {σ : L2.St} {H : Hp} (em : PySem.W.exmOne K cls c = some false) (q : wAsL K i Wo D r cls d σ H) : wAsL K i Wo D ((c, ts) :: r) cls d σ H := ⟨false, em, (fun z => Bool.noConfusion z), fun _ => q⟩
theorem dp4 {K : PySem.W.Frag} {H : Hp} {r : Addr} {a y : Str} (hr : H r = some (.tup [.str a, .str y, .bl true, .bl false])) : Dp K H (.ref r) (.tuple [.str a, .str y, .bool true, .bool false]) := .tup (sq_tup hr) (.cons (.str _) (.cons (.str _) (.cons (.bl _) (.cons (.bl _) .nil))))
theorem dp4i {K : PySem.W.Frag} {H : Hp} {r : Addr} {a : Str} {i : Int} (hr : H r = some (.tup [.str a, .int i, .bl true, .bl false])) : Dp K H (.ref r) (.tuple [.str a, .int i, .bool true, .bool false]) := .tup (sq_tup hr) (.cons (.str _) (.cons (.int _) (.cons (.bl _) (.cons (.bl _) .nil))))
theorem dp2 {K : PySem.W.Frag} {H : Hp} {r t1 t2 : Addr} {hs ws : List Int} (hr : H r = some (.tup [.ref t1, .ref t2])) (h1 : H t1 = some (.tup (hs.map V.int))) (h2 : H t2 = some (.tup (ws.map V.int))) : Dp K H (.ref r) (.tuple [.tuple (hs.map PyData.int), .tuple (ws.map PyData.int)]) := .tup (sq_tup hr) (.cons (.tup (sq_tup h1) (dp_ints hs)) (.cons (.tup (sq_tup h2) (dp_ints ws)) .nil))
theorem p_told16 {K : PySem.W.Frag} {CP CR CL CC CN CE : Addr} {vs : List V} {H : Hp} {Q : VK} {E : XK} (h : spTold16 K CP CR CL CC CN CE vs H Q E) : t__law_raised K CP CR CL CC CN CE { nx := fun _ H' => Q .non H', rt := Q } (start ["_law_profile", "_law_place_here", "_law_rise_here", "_law_found", "_law_made", "e"] vs) H := by
  obtain ⟨p, v, w, y, y', hs, ws, rfl, P, R, rk, X, M, I, hp, ok, ov, ow, k⟩ := h
  have l60 := ok.le
  unfold t__law_raised
  walk_at "rv go"
  refine ⟨szl (by show 0 ≤ 100000; omega), fun p0 n0 => ?_⟩
  have e0 : Same H (upd H p0 (.tup [])) := same_new (Same.refl H) n0
  generalize upd H p0 (.tup []) = H0 at e0 ⊢
  walk_at "rv go"
  refine w_seq ?_
  refine st_is [some (.ref p), some v, some w, some (.ref p0), none, none] rfl ?_
  have hp0 := hp.same e0
  obtain ⟨dx, t1, t2, ha, h1, h2⟩ := id hp0
  show tSeq (tAsg _ _) (tAsg _ _) _ _ _
  walk_at "rv go"
  refine ⟨_, rfl, ?_⟩
  refine ⟨p, dx, _, rfl, ha, pfl_none _ _ (by decide +kernel) (by decide +kernel), ?_⟩
  walk_at "rv go"
  refine ⟨p, v, w, hs, ws, rfl, P, X, hp0, ok, (ov.same e0).wh R rk, (ow.same e0).wh R rk, fun a1 d H1 nd e1 hd => ?_, fun a1 a2 d H1 nd e1 hd => ?_, fun c r ev ew hc r0 r1 => ⟨fun a1 q H1 nq e1 hq => ?_, fun a1 d H1 nd e1 hd => ?_⟩⟩
  · refine wA M.cc fun x nx => ?_
    have oz := (ov.same e0).same e1
    walk_at "rv go"
    refine w_xf rfl hd rfl ?_
    walk_at "rv go"
    refine oz.rp R ?_
    walk_at "rv go"
    refine w_isD (cv := .type "IndexError") (fun u r => r) hd I.cI ?_
    walk_at "rv go"
    refine w_isD (cv := .ref CE) (fun u r => r) hd I.cR ?_
    walk_at "rv go"
    refine ⟨szl (by show 4 ≤ 100000; omega), fun r nr => ?_⟩
    walk_at "rv go"
    have e2 := same_new (o := .tup [.str "column", .str y, .bl true, .bl false]) (Same.refl H1) nr
    refine k r _ ((e0.trans e1).trans e2) ?_
    rw [dR_c a1]
    exact dp4 upd_same
  · refine wB M.nc (wA M.nn fun x nx => ?_)
    have oz := (ow.same e0).same e1
    walk_at "rv go"
    refine w_xf rfl hd rfl ?_
    walk_at "rv go"
    refine oz.rp R ?_
    walk_at "rv go"
    refine w_isD (cv := .ref CE) (fun u r => r) hd I.nR ?_
    walk_at "rv go"
    refine w_isD (cv := .type "IndexError") (fun u r => r) hd I.nI ?_
    walk_at "rv go"
    refine ⟨szl (by show 4 ≤ 100000; omega), fun r nr => ?_⟩
    walk_at "rv go"
    have e2 := same_new (o := .tup [.str "number", .str y', .bl true, .bl false]) (Same.refl H1) nr
    refine k r _ ((e0.trans e1).trans e2) ?_
    rw [dR_n a1 a2]
    exact dp4 upd_same
  · obtain ⟨dz, v1, v2, hpi, q1, q2⟩ := id hq
    walk_at "rv go"
    refine w_prop rfl hpi ?_
    refine ⟨q, dz, _, _, rfl, hpi, pfl_h _ _, ?_⟩
    walk_at "rv go"
    refine w_prop rfl hpi ?_
    refine ⟨q, dz, _, _, rfl, hpi, pfl_w _ _, ?_⟩
    walk_at "rv go"
    refine ⟨szl (by show 2 ≤ 100000; omega), fun x nx => ?_⟩
    walk_at "rv go"
    have e2 := same_new (o := .tup [.ref v1, .ref v2]) (Same.refl H1) nx
    refine k x _ ((e0.trans e1).trans e2) ?_
    subst ev
    subst ew
    rw [dR_i hc r0 r1, if_pos a1]
    exact dp2 upd_same (e2 _ _ q1) (e2 _ _ q2)
  · refine wB M.lc (wB M.ln (wA M.ll fun x nx => ?_))
    walk_at "rv go"
    refine w_xf rfl hd rfl ?_
    walk_at "rv go"
    refine w_isD (cv := .type "OverflowError") (fun u r => r) hd I.lO ?_
    walk_at "rv go"
    refine w_isD (cv := .ref CE) (fun u r => r) hd I.lR ?_
    walk_at "rv go"
    refine ⟨szl (by show 4 ≤ 100000; omega), fun r nr => ?_⟩
    walk_at "rv go"
    have e2 := same_new (o := .tup [.str "limit", .int 1000000000000000000000000000000, .bl true, .bl false]) (Same.refl H1) nr
    refine k r _ ((e0.trans e1).trans e2) ?_
    subst ev
    subst ew
    rw [dR_i hc r0 r1, if_neg (by omega)]
    exact dp4i upd_same
section
variable {K : PySem.W.Frag} {σ : L2.St} {H : Hp} {n : Nat} {v : V} {o : R2} {te : TE} {hi m : Int} {TQ : Bool → Hp → Prop}
/-- is it no int, or not within? -/
theorem w_outI (W : Whole K H v) (hv : σ[n]? = some (some v)) (hte : ∀ Q : VK, Q (.int m) H → te σ H Q) (ho : ∀ (i : Int) (Q : VK), Q (.bl (decide (i ≤ hi))) H → o (.int i) (.int m) H Q) (q : TQ (!(inI 0 hi v)) H) :
    tOr (tNot (tB (tCall (spWhole K) [] E0 (tCons (tVar n) tNil)))) (tNot (tTest (tChain oLe o (tC (.int 0)) (tVar n) te))) σ H TQ := by
  refine w_or ?_
  refine w_not ?_
  refine w_tB ?_
  refine w_call ?_
  refine w_cons ?_
  refine w_var hv ?_
  refine w_nil ?_
  refine ⟨v, rfl, W, _, rfl, ?_⟩
  cases z : isI v with
  | false =>
    rw [inI_not z] at q
    exact iteT q
  | true =>
    obtain ⟨i, rfl⟩ := isI_int z
    refine iteF ?_
    refine w_not ?_
    refine w_test ?_
    refine w_chain ?_
    refine w_c ?_
    refine w_var hv ?_
    refine w_I0 ?_
    refine ⟨_, rfl, ?_⟩
    refine w_both (fun c0 => ?_) (fun c0 => ?_)
    · refine hte _ ?_
      refine ho _ _ ?_
      refine ⟨_, rfl, ?_⟩
      replace q : TQ (!(decide ((0 : Int) ≤ i) && decide (i ≤ hi))) H := q
      rw [decide_eq_true c0, Bool.true_and] at q
      exact q
    · refine ⟨_, rfl, ?_⟩
      replace q : TQ (!(decide ((0 : Int) ≤ i) && decide (i ≤ hi))) H := q
      rw [decide_eq_false c0, Bool.false_and] at q
      exact q
theorem w_inI (W : Whole K H v) (hv : σ[n]? = some (some v)) (hte : ∀ Q : VK, Q (.int m) H → te σ H Q) (ho : ∀ (i : Int) (Q : VK), Q (.bl (decide (i ≤ hi))) H → o (.int i) (.int m) H Q) (q : TQ (inI 0 hi v) H) :
    tAnd (tB (tCall (spWhole K) [] E0 (tCons (tVar n) tNil))) (tTest (tChain oLe o (tC (.int 0)) (tVar n) te)) σ H TQ := by
  refine w_and ?_
  refine w_tB ?_
  refine w_call ?_
  refine w_cons ?_
  refine w_var hv ?_
  refine w_nil ?_
  refine ⟨v, rfl, W, _, rfl, ?_⟩
  cases z : isI v with
  | false =>
    rw [inI_not z] at q
    exact iteF q
  | true =>
    obtain ⟨i, rfl⟩ := isI_int z
    refine iteT ?_
    refine w_test ?_
    refine w_chain ?_
    refine w_c ?_
    refine w_var hv ?_
    refine w_I0 ?_
    refine ⟨_, rfl, ?_⟩
    refine w_both (fun c0 => ?_) (fun c0 => ?_)
    · refine hte _ ?_
      refine ho _ _ ?_
      refine ⟨_, rfl, ?_⟩
      replace q : TQ (decide ((0 : Int) ≤ i) && decide (i ≤ hi)) H := q
      rw [decide_eq_true c0, Bool.true_and] at q
      exact q
    · refine ⟨_, rfl, ?_⟩
      replace q : TQ (decide ((0 : Int) ≤ i) && decide (i ≤ hi)) H := q
      rw [decide_eq_false c0, Bool.false_and] at q
      exact q
end
theorem lt_len {H : Hp} {n i : Int} {Q : VK} (q : Q (.bl (decide (i ≤ n - 1))) H) : oLt (.int i) (.int n) H Q := by
  refine w_I0 ?_
  have e : decide (i < n) = decide (i ≤ n - 1) := decide_eq_decide.mpr (by omega)
  rw [e]
  exact q
theorem le_big {H : Hp} {i : Int} {Q : VK} (q : Q (.bl (decide (i ≤ 1000000000000000000000000000000))) H) : oLe (.int i) (.int (10 ^ Int.toNat 30)) H Q := w_I0 q
theorem te_big {σ : L2.St} {H : Hp} {Q : VK} (q : Q (.int (10 ^ Int.toNat 30)) H) : tOp oPow (tC (.int 10)) (tC (.int 30)) σ H Q := w_op (w_c (w_c (w_I (pow_c (by decide) (by decide) (by decide) (by decide)) q)))
theorem te_len {K : PySem.W.Frag} {σ : L2.St} {H : Hp} {Q : VK} {n : Nat} {a : Addr} {hs : List Int} (hv : σ[n]? = some (some (.ref a))) (h : H a = some (.lst (hs.map V.int))) (q : Q (.int hs.length) H) : tCB (cLen K) (tCons (tVar n) tNil) σ H Q := by
  refine w_cb ?_
  refine w_cons ?_
  refine w_var hv ?_
  refine w_nil ?_
  refine w_lenL (sq_lst h) ?_
  rw [List.length_map]
  exact q
theorem e30 : (10 : Int) ^ Int.toNat 30 = 1000000000000000000000000000000 := rfl
theorem p_due16 {K : PySem.W.Frag} {CR : Addr} {vs : List V} {H : Hp} {Q : VK} {E : XK} (h : spDue16 K CR vs H Q E) : t__law_due16 K CR { nx := fun _ H' => Q .non H', rt := Q } (start ["_law_heights_here", "_law_widths_here", "_law_place_here", "_law_rise_here", "_law_tall"] vs) H := by
  obtain ⟨a, b, v, w, y, y', hs, ws, rfl, R, rk, ha, hb, ok, ov, ow, k⟩ := h
  have l60 := ok.le
  unfold t__law_due16
  refine w_seq ?_
  refine w_ifs ?_
  refine st_is [some (.ref a), some (.ref b), some v, some w, none] (s := fun D σ H => tOr _ _ σ H _) (D := { nx := fun _ _ => True, rt := fun _ _ => True }) rfl ?_
  refine w_outI (ov.wh R rk) rfl (fun Q q => te_len rfl ha q) (fun i Q q => lt_len q) ?_
  cases e1 : inI 0 ((hs.length : Int) - 1) v with
  | false =>
    walk_at "rv go"
    refine ov.rp R ?_
    walk_at "rv go"
    refine ⟨szl (by show 4 ≤ 100000; omega), fun r nr => ?_⟩
    refine k r _ (same_new (Same.refl H) nr) ?_
    rw [dR_c e1]
    exact dp4 upd_same
  | true =>
    refine iteNT ?_
    refine w_next ?_
    refine w_nx ?_
    refine w_seq ?_
    refine w_ifs ?_
    refine w_outI (ow.wh R rk) rfl (fun Q q => te_big q) (fun i Q q => le_big q) ?_
    cases e2 : inI 0 1000000000000000000000000000000 w with
    | false =>
      walk_at "rv go"
      refine ow.rp R ?_
      walk_at "rv go"
      refine ⟨szl (by show 4 ≤ 100000; omega), fun r nr => ?_⟩
      refine k r _ (same_new (Same.refl H) nr) ?_
      rw [dR_n e1 e2]
      exact dp4 upd_same
    | true =>
      obtain ⟨i, rfl, i0, i1⟩ := inI_int e1
      obtain ⟨r, rfl, r0, r1⟩ := inI_int e2
      obtain ⟨c, rfl⟩ : ∃ c : Nat, i = (c : Int) := ⟨i.toNat, by omega⟩
      have hc : c < hs.length := by omega
      refine iteNT ?_
      refine w_next ?_
      refine w_nx ?_
      refine w_seq ?_
      walk_at "rv go"
      refine w_ixL (sq_lst ha) (at_hN hc) ?_
      walk_at "rv go"
      rw [e30]
      refine w_both (fun z => ?_) (fun z => ?_)
      · walk_at "rv go"
        refine ⟨szl (by show 4 ≤ 100000; omega), fun x nx => ?_⟩
        refine k x _ (same_new (Same.refl H) nx) ?_
        rw [dR_i hc r0 r1, if_neg (by omega)]
        exact dp4i upd_same
      · walk_at "rv go"
        refine lst_callR (.inl ha) fun l nl => ?_
        walk_at "rv go"
        refine w_ixL (sq_lst upd_same) (at_hN hc) ?_
        walk_at "rv go"
        refine w_setL (xs := hs.map V.int) (j := c) upd_same (by rw [List.length_map]; exact ixN_nat hc) ?_
        rw [map_set]
        have eS : Same H (upd (upd H l (.lst (hs.map V.int))) l (.lst ((hs.set c (hN hs c + r)).map V.int))) := fun b o hb => by
          have n : b ≠ l := ne_of_none hb nl
          rw [upd_ne n, upd_ne n]
          exact hb
        walk_at "rv go"
        refine tup_call (.inl upd_same) fun q1 H1 f1 g1 => ?_
        walk_at "rv go"
        refine tup_call (.inl (f1 _ _ (eS _ _ hb))) fun q2 H2 f2 g2 => ?_
        walk_at "rv go"
        refine ⟨szl (by show 2 ≤ 100000; omega), fun x nx => ?_⟩
        have f3 := same_new (o := .tup [.ref q1, .ref q2]) (Same.refl H2) nx
        refine k x _ (((eS.trans f1).trans f2).trans f3) ?_
        rw [dR_i hc r0 r1, if_pos (by omega)]
        exact dp2 upd_same (f3 _ _ (f2 _ _ g1)) (f3 _ _ g2)
theorem odd_s {C : Addr} {H : Hp} {x : Str} (h1 : PyData.strOk (reprText x) = true := by decide +kernel) (h2 : (reprText x).length ≤ 1000 := by decide +kernel) : Odd C H (.str x) (PyData.str x).shown := .str x h1 h2
theorem odd_t {C : Addr} {H : Hp} {a : Addr} (zs : List Int) (h : H a = some (.tup (zs.map V.int))) (hl : zs.length ≤ 1 := by decide) (hz : ∀ z ∈ zs, z.natAbs < 10 ^ 32 := by decide) (h1 : PyData.strOk (PyData.tuple (zs.map PyData.int)).shown = true := by decide +kernel) (h2 : (PyData.tuple (zs.map PyData.int)).shown.length ≤ 1000 := by decide +kernel) : Odd C H (.ref a) (PyData.tuple (zs.map PyData.int)).shown := .tup zs h hl hz h1 h2
theorem odd_l {C : Addr} {H : Hp} {a : Addr} (zs : List Int) (h : H a = some (.lst (zs.map V.int))) (hl : zs.length ≤ 1 := by decide) (hz : ∀ z ∈ zs, z.natAbs < 10 ^ 32 := by decide) (h1 : PyData.strOk (PyData.list (zs.map PyData.int)).shown = true := by decide +kernel) (h2 : (PyData.list (zs.map PyData.int)).shown.length ≤ 1000 := by decide +kernel) : Odd C H (.ref a) (PyData.list (zs.map PyData.int)).shown := .lst zs h hl hz h1 h2
theorem odd_i {C : Addr} {H : Hp} {i : Int} (h1 : -1000000000000000000000000000000000 ≤ i) (h2 : i ≤ 1000000000000000000000000000000000) : Odd C H (.int i) (PyData.int i).shown := .int i (Nat.lt_of_le_of_lt (m := 1000000000000000000000000000000000) (by omega) (by decide))
theorem p_place16 {K : PySem.W.Frag} {CR : Addr} {vs : List V} {H : Hp} {Q : VK} {E : XK} (h : spPlace16 K CR vs H Q E) : t__law_place K CR { nx := fun _ H' => Q .non H', rt := Q } (start ["_law_draws_here", "_law_many", "_law_far", "_law_less"] vs) H := by
  obtain ⟨d, c, n, rfl, R, D, n0, n60, k⟩ := h
  unfold t__law_place
  refine w_seq ?_
  walk_at "rv go"
  refine draw_call D (by decide) (by decide) fun r H1 ra rb b1 D1 => ?_
  walk_at "rv go"
  refine w_both (fun _ => ?_) (fun _ => ?_)
  · walk_at "rv go"
    refine draw_call D1 (by decide) (by decide) fun f H2 fa fb b2 D2 => ?_
    replace fb : f < 1000000000 := fb
    walk_at "rv go"
    refine draw_call D2 n0 (Int.lt_of_le_of_lt n60 (by decide)) fun g H3 ga gb b3 D3 => ?_
    walk_at "rv go"
    refine ⟨szl (by show 0 ≤ 100000; omega), fun pt nt => ?_⟩
    have e4 := same_new (o := .tup []) (Same.refl H3) nt
    have ht : (upd H3 pt (.tup [])) pt = some (.tup (([] : List Int).map V.int)) := upd_same
    generalize upd H3 pt (.tup []) = H4 at e4 ht ⊢
    walk_at "rv go"
    refine ⟨szl (by show 1 ≤ 100000; omega), fun pl nl => ?_⟩
    have e5 := same_new (o := .lst [.int 0]) (Same.refl H4) nl
    have hl : (upd H4 pl (.lst [.int 0])) pl = some (.lst (([0] : List Int).map V.int)) := upd_same
    generalize upd H4 pl (.lst [.int 0]) = H5 at e5 hl ⊢
    walk_at "rv go"
    refine w_make ?_
    walk_at "rv go"
    refine mk_rat (us := [.int 0]) (dvs := [.int 1]) rfl R (by decide) (sz_one (by decide)) fun q H6 t e e6 hr hq => ?_
    obtain ⟨rfl, rfl⟩ := hr.one
    walk_at "rv go"
    refine ⟨szl (by show 11 ≤ 100000; omega), fun px nx => ?_⟩
    have e7 := same_new (o := .lst [.non, .bl true, .bl false, .str "0", .ref pt, .ref pl, .int (0 - 1 - g), .int (0 - (n + f)), .int (n + f), .int n, .ref q]) (Same.refl H6) nx
    have hx : (upd H6 px (.lst [.non, .bl true, .bl false, .str "0", .ref pt, .ref pl, .int (0 - 1 - g), .int (0 - (n + f)), .int (n + f), .int n, .ref q])) px = some (.lst [.non, .bl true, .bl false, .str "0", .ref pt, .ref pl, .int (0 - 1 - g), .int (0 - (n + f)), .int (n + f), .int n, .ref q]) := upd_same
    generalize upd H6 px (.lst [.non, .bl true, .bl false, .str "0", .ref pt, .ref pl, .int (0 - 1 - g), .int (0 - (n + f)), .int (n + f), .int n, .ref q]) = H7 at e7 hx ⊢
    have e37 := ((e4.trans e5).trans e6).trans e7
    have D7 := D3.new e37
    have nxd : px ≠ d := (D3.new ((e4.trans e5).trans e6)).nd nx
    have O : ∀ r : Int, 0 ≤ r → r < 11 → ∃ v y, atI [.non, .bl true, .bl false, .str "0", .ref pt, .ref pl, .int (0 - 1 - g), .int (0 - (n + f)), .int (n + f), .int n, .ref q] r = some v ∧ Odd CR H7 v y := fun r h0 h1 => by
      rcases (show r = 0 ∨ r = 1 ∨ r = 2 ∨ r = 3 ∨ r = 4 ∨ r = 5 ∨ r = 6 ∨ r = 7 ∨ r = 8 ∨ r = 9 ∨ r = 10 by omega) with rfl | rfl | rfl | rfl | rfl | rfl | rfl | rfl | rfl | rfl | rfl
      · exact ⟨_, _, rfl, .non⟩
      · exact ⟨_, _, rfl, .bl _⟩
      · exact ⟨_, _, rfl, .bl _⟩
      · exact ⟨_, _, rfl, odd_s⟩
      · exact ⟨_, _, rfl, odd_t [] (((e5.trans e6).trans e7) _ _ ht)⟩
      · exact ⟨_, _, rfl, odd_l [0] ((e6.trans e7) _ _ hl)⟩
      · exact ⟨_, _, rfl, odd_i (by omega) (by omega)⟩
      · exact ⟨_, _, rfl, odd_i (by omega) (by omega)⟩
      · exact ⟨_, _, rfl, odd_i (by omega) (by omega)⟩
      · exact ⟨_, _, rfl, odd_i (by omega) (by omega)⟩
      · exact ⟨_, _, rfl, .rat 0 1 (hq.same e7) (by decide) (by decide)⟩
    walk_at "rv go"
    refine draw_call D7 (by decide) (by decide) fun z H8 za zb b8 D8 => ?_
    obtain ⟨v, y, ev, ov⟩ := O z za zb
    refine w_ixL (sq_lst (b8 _ _ nxd hx)) ev ?_
    refine k v y H8 ?_ D8 (ov.but D7 b8)
    exact ((b1.trans b2).trans b3).trans (But.trans (fun b o _ hb => e37 _ _ hb) b8)
  · walk_at "rv go"
    refine draw_call D1 n0 (Int.lt_of_le_of_lt n60 (by decide)) fun f H2 fa fb b2 D2 => ?_
    exact k _ _ H2 (b1.trans b2) D2 (odd_i (by omega) (by omega))
theorem p_rise16 {K : PySem.W.Frag} {CR : Addr} {vs : List V} {H : Hp} {Q : VK} {E : XK} (h : spRise16 K CR vs H Q E) : t__law_rise K CR { nx := fun _ H' => Q .non H', rt := Q } (start ["_law_draws_here", "_law_kind", "_law_far", "_law_less"] vs) H := by
  obtain ⟨d, c, rfl, R, D, k⟩ := h
  unfold t__law_rise
  walk_at "rv go"
  refine draw_call D (by decide) (by decide) fun r H1 ra rb b1 D1 => ?_
  walk_at "rv go"
  refine w_seq ?_
  walk_at "rv go"
  refine w_both (fun _ => ?_) (fun _ => ?_)
  · walk_at "rv go"
    refine draw_call D1 (by decide) (by decide) fun f H2 fa fb b2 D2 => ?_
    replace fb : f < 1000000000 := fb
    walk_at "rv go"
    refine draw_call D2 (by decide) (by decide) fun g H3 ga gb b3 D3 => ?_
    walk_at "rv go"
    rw [e30]
    refine ⟨szl (by show 0 ≤ 100000; omega), fun pt nt => ?_⟩
    have e4 := same_new (o := .tup []) (Same.refl H3) nt
    have ht : (upd H3 pt (.tup [])) pt = some (.tup (([] : List Int).map V.int)) := upd_same
    generalize upd H3 pt (.tup []) = H4 at e4 ht ⊢
    walk_at "rv go"
    refine ⟨szl (by show 1 ≤ 100000; omega), fun pl nl => ?_⟩
    have e5 := same_new (o := .lst [.int 2]) (Same.refl H4) nl
    have hl : (upd H4 pl (.lst [.int 2])) pl = some (.lst (([2] : List Int).map V.int)) := upd_same
    generalize upd H4 pl (.lst [.int 2]) = H5 at e5 hl ⊢
    walk_at "rv go"
    refine w_make ?_
    walk_at "rv go"
    refine mk_rat (us := [.int 2]) (dvs := [.int 1]) rfl R (by decide) (sz_one (by decide)) fun q H6 t e e6 hr hq => ?_
    obtain ⟨rfl, rfl⟩ := hr.one
    walk_at "rv go"
    refine ⟨szl (by show 11 ≤ 100000; omega), fun px nx => ?_⟩
    obtain ⟨xs, exs⟩ : ∃ xs : List V, xs = [.non, .bl true, .bl false, .str "2", .str "", .ref pt, .ref pl, .int (0 - 1 - g), .int (0 - (1000000000000000000000000000000 + 1 + f)), .int (1000000000000000000000000000000 + 1 + f), .ref q] := ⟨_, rfl⟩
    rw [← exs]
    have e7 := same_new (o := .lst xs) (Same.refl H6) nx
    have hx : (upd H6 px (.lst xs)) px = some (.lst xs) := upd_same
    generalize upd H6 px (.lst xs) = H7 at e7 hx ⊢
    have e37 := ((e4.trans e5).trans e6).trans e7
    have D7 := D3.new e37
    have nxd : px ≠ d := (D3.new ((e4.trans e5).trans e6)).nd nx
    have O : ∀ r : Int, 0 ≤ r → r < 11 → ∃ v y, atI xs r = some v ∧ Odd CR H7 v y := fun r h0 h1 => by
      rw [exs]
      rcases (show r = 0 ∨ r = 1 ∨ r = 2 ∨ r = 3 ∨ r = 4 ∨ r = 5 ∨ r = 6 ∨ r = 7 ∨ r = 8 ∨ r = 9 ∨ r = 10 by omega) with rfl | rfl | rfl | rfl | rfl | rfl | rfl | rfl | rfl | rfl | rfl
      · exact ⟨_, _, rfl, .non⟩
      · exact ⟨_, _, rfl, .bl _⟩
      · exact ⟨_, _, rfl, .bl _⟩
      · exact ⟨_, _, rfl, odd_s⟩
      · exact ⟨_, _, rfl, odd_s⟩
      · exact ⟨_, _, rfl, odd_t [] (((e5.trans e6).trans e7) _ _ ht)⟩
      · exact ⟨_, _, rfl, odd_l [2] ((e6.trans e7) _ _ hl)⟩
      · exact ⟨_, _, rfl, odd_i (by omega) (by omega)⟩
      · exact ⟨_, _, rfl, odd_i (by omega) (by omega)⟩
      · exact ⟨_, _, rfl, odd_i (by omega) (by omega)⟩
      · exact ⟨_, _, rfl, .rat 2 1 (hq.same e7) (by decide) (by decide)⟩
    walk_at "rv go"
    refine draw_call D7 (by decide) (by decide) fun z H8 za zb b8 D8 => ?_
    obtain ⟨v, y, ev, ov⟩ := O z za zb
    refine w_ixL (sq_lst (b8 _ _ nxd hx)) ev ?_
    refine k v y H8 ?_ D8 (ov.but D7 b8)
    exact ((b1.trans b2).trans b3).trans (But.trans (fun b o _ hb => e37 _ _ hb) b8)
  · walk_at "rv go"
    refine w_seq ?_
    walk_at "rv go"
    refine w_both (fun _ => ?_) (fun _ => ?_)
    · walk_at "rv go"
      refine draw_call D1 (by decide) (by decide) fun f H2 fa fb b2 D2 => ?_
      walk_at "rv go"
      rw [e30]
      exact k _ _ H2 (b1.trans b2) D2 (odd_i (by omega) (by omega))
    · walk_at "rv go"
      refine ⟨szl (by show 4 ≤ 100000; omega), fun px nx => ?_⟩
      have e2 := same_new (o := .lst [.int 1, .int 5, .int (10 ^ Int.toNat 6), .int (10 ^ Int.toNat 30 + 1)]) (Same.refl H1) nx
      have hx : (upd H1 px (.lst [.int 1, .int 5, .int (10 ^ Int.toNat 6), .int (10 ^ Int.toNat 30 + 1)])) px = some (.lst [.int 1, .int 5, .int (10 ^ Int.toNat 6), .int (10 ^ Int.toNat 30 + 1)]) := upd_same
      generalize upd H1 px (.lst [.int 1, .int 5, .int (10 ^ Int.toNat 6), .int (10 ^ Int.toNat 30 + 1)]) = H2 at e2 hx ⊢
      have nxd : px ≠ d := D1.nd nx
      have D2 := D1.new e2
      walk_at "rv go"
      refine draw_call D2 (by decide) (by decide) fun f H3 fa fb b3 D3 => ?_
      have hz : ∃ z : Int, 0 < z ∧ z ≤ 1000000000000000000000000000001 ∧ atI [V.int 1, V.int 5, V.int (10 ^ Int.toNat 6), V.int (10 ^ Int.toNat 30 + 1)] f = some (.int z) := by
        have c : f = 0 ∨ f = 1 ∨ f = 2 ∨ f = 3 := by omega
        rcases c with rfl | rfl | rfl | rfl
        · exact ⟨1, by decide, by decide, rfl⟩
        · exact ⟨5, by decide, by decide, rfl⟩
        · exact ⟨10 ^ Int.toNat 6, by decide, by decide, rfl⟩
        · exact ⟨10 ^ Int.toNat 30 + 1, by decide, by decide, rfl⟩
      obtain ⟨z, z0, z1, ez⟩ := hz
      refine w_ixL (sq_lst (b3 _ _ nxd hx)) ez ?_
      walk_at "rv go"
      refine draw_call D3 z0 (Int.lt_of_le_of_lt z1 (by decide)) fun g H4 ga gb b4 D4 => ?_
      exact k _ _ H4 ((b1.trans (But.trans (fun b o _ hb => e2 _ _ hb) b3)).trans b4) D4 (odd_i (by omega) (by omega))
theorem set_ok {hs ws : List Int} {c : Nat} {z : Int} (ok : PrOk hs ws) (k : HOk1 z) : PrOk (hs.set c z) ws := by
  refine ⟨by rw [List.length_set]; exact ok.pos, by rw [List.length_set]; exact ok.le, by rw [List.length_set]; exact ok.eq, fun y hy => ?_, ok.ww⟩
  rcases List.mem_or_eq_of_mem_set hy with q | q
  · exact ok.hh y q
  · rw [q]
    exact k
theorem eqD_same {K : PySem.W.Frag} {H : Hp} {Q : VK} {x y : V} {d : PyData} (h1 : Dp K H x d) (h2 : Dp K H y d) (s : SeqAt.shaped d = true) (q : Q (.bl true) H) : rEqD K x y H Q := by
  refine ⟨d, d, h1, h2, s, s, ?_⟩
  rw [SeqAt.eqv_refl _ (SeqAt.canLay_of_shaped s)]
  exact q
theorem p_law16b {K : PySem.W.Frag} {CP CR CL CC CN CE : Addr} {Q : VK} {H : Hp} {a d ha hw : Addr} {v w : V} {y y' : Str} {hs ws : List Int} (P : PCls K CP) (R : RCls K CR) (rk : RKi K CR) (X : OX3 K CL CC CN) (M : EM3 K CL CC CN) (I : KI3 K CL CC CN CE)
    (hha : H ha = some (.lst (hs.map V.int))) (hhw : H hw = some (.lst (ws.map V.int))) (ok : PrOk hs ws) (ov : Odd CR H v y) (ow : Odd CR H w y') (k : ∀ H', Q (.bl true) H') :
    t_law16b K CP CR CL CC CN CE { nx := fun _ H' => Q .non H', rt := Q } [some (.ref a), some (.ref d), some w, some (.ref ha), some v, some (.ref hw), none, none, none, none, none] H := by
  have l60 := ok.le
  have lp := ok.pos
  have sh := small_h ok.hh ok.le
  have sw := small_w ok.ww (by rw [ok.eq]; exact ok.le)
  unfold t_law16b
  walk_at "rv go"
  refine w_make ?_
  walk_at "rv go"
  refine mk_profR (us := [.ref ha, .ref hw]) (dvs := []) rfl P (.inl hha) ok.pos ok.le ok.hh (.inr ⟨hw, rfl, .inl hhw, ok.eq, ok.ww⟩) fun p H1 np e1 hp => ?_
  walk_at "rv go"
  obtain ⟨dx, t1, t2, hpi, _, _⟩ := id hp
  refine ⟨p, dx, _, rfl, hpi, p, hs, ws, rfl, P, hp, sh, sw, fun H2 e2 => ⟨_, rfl, ?_⟩⟩
  have e12 := e1.trans e2
  walk_at "rv go"
  refine ⟨ha, hw, v, w, y, y', hs, ws, rfl, R, rk, e12 _ _ hha, e12 _ _ hhw, ok, ov.same e12, ow.same e12, fun r H3 e3 dr => ?_⟩
  have e13 := e12.trans e3
  have hp3 := hp.same (e2.trans e3)
  have hha3 := e13 _ _ hha
  have hhw3 := e13 _ _ hhw
  have ov3 := ov.same e13
  have ow3 := ow.same e13
  walk_at "rv go"
  refine st_is [some (.ref a), some (.ref d), some w, some (.ref ha), some v, some (.ref hw), some (.ref p), some (.str (ptext hs ws)), some (.ref r), none, none] rfl ?_
  refine w_seq ?_
  refine w_forR (n := 2) (by decide) (fun AQ q => by walk_at "rv go"; exact q) (fun i σ' H' => Same H3 H' ∧ ∃ x0, σ' = [some (.ref a), some (.ref d), some w, some (.ref ha), some v, some (.ref hw), some (.ref p), some (.str (ptext hs ws)), some (.ref r), x0, none]) ⟨Same.refl H3, none, rfl⟩ ?_ ?_
  · rintro i σ' H4 _ ⟨e4, y0, rfl⟩
    refine st_is [some (.ref a), some (.ref d), some w, some (.ref ha), some v, some (.ref hw), some (.ref p), some (.str (ptext hs ws)), some (.ref r), some (.int i), none] rfl ?_
    have hp4 := hp3.same e4
    obtain ⟨dy, u1, u2, hpi4, _, _⟩ := id hp4
    walk_at "rv go"
    refine ⟨p, v, w, y, y', hs, ws, rfl, P, R, rk, X, M, I, hp4, ok, ov3.same e4, ow3.same e4, fun r2 H5 e5 d5 => ?_⟩
    walk_at "rv go"
    refine neD_same d5 (dp_same (e4.trans e5) _ _ dr) (sh_dR ov.ok ow.ok) ?_
    walk_at "rv go"
    have hp5 := hp4.same e5
    refine ⟨p, dy, _, rfl, e5 _ _ hpi4, p, hs, ws, rfl, P, hp5, sh, sw, fun H6 e6 => ⟨_, rfl, ?_⟩⟩
    walk_at "rv go"
    refine ⟨rfl, ?_⟩
    rw [decide_eq_true rfl]
    walk_at "rv go"
    exact ⟨(e4.trans e5).trans e6, _, rfl⟩
  rintro σ' H4 ⟨e4, y0, rfl⟩
  have hp4 := hp3.same e4
  obtain ⟨m, hm⟩ : ∃ m : Nat, hs.length = m + 1 := ⟨hs.length - 1, by omega⟩
  refine w_nx ?_
  walk_at "rv go"
  refine w_lenL (sq_lst (e4 _ _ hha3)) ?_
  walk_at "rv go"
  rw [List.length_map, show ((hs.length : Int) - 1) = (m : Int) by omega]
  refine ⟨p, .int (m : Int), .int 0, _, _, hs, ws, rfl, P, R, rk, X, M, I, hp4, ok, odd_i (by omega) (by omega), odd_i (by omega) (by omega), fun r2 H5 e5 d5 => ?_⟩
  rw [dR_i (by omega) (by decide) (by decide), rsX_zero (by omega), Int.add_zero, if_pos (ok.hh _ (hN_mem (by omega))).2] at d5
  walk_at "rv go"
  refine tup_call (.inl (e5 _ _ (e4 _ _ hha3))) fun q1 H6 f1 g1 => ?_
  walk_at "rv go"
  refine tup_call (.inl (f1 _ _ (e5 _ _ (e4 _ _ hhw3)))) fun q2 H7 f2 g2 => ?_
  walk_at "rv go"
  refine ⟨szl (by show 2 ≤ 100000; omega), fun x nx => ?_⟩
  have f3 := same_new (o := .tup [.ref q1, .ref q2]) (Same.refl H7) nx
  walk_at "rv go"
  refine eqD_same (dp_same ((f1.trans f2).trans f3) _ _ d5) (dp2 upd_same (f3 _ _ (f2 _ _ g1)) (f3 _ _ g2)) ?_ ?_
  · have h := lay_ints hs
    have g := lay_ints ws
    simp [SeqAt.shaped, PyData.canLay0, PyData.canLayAll0, PyData.depth, PyData.depthAll, h.1, h.2, g.1, g.2]
  · exact k _
theorem p_law16 {K : PySem.W.Frag} {CP CR CL CC CN CE : Addr} {vs : List V} {H : Hp} {Q : VK} {E : XK} (h : spLaw16 K CP CR CL CC CN CE vs H Q E) : t_law16 K CP CR CL CC CN CE { nx := fun _ H' => Q .non H', rt := Q } (start ["_law_script", "_law_draws_here", "_law_rise_here", "_law_heights_here", "_law_place_here", "_law_widths_here", "_law_profile", "_law_kept", "_law_due_here", "_law_turn", "_law_again"] vs) H := by
  obtain ⟨a, ns, rfl, hS, P, R, rk, X, M, I, k⟩ := h
  unfold t_law16
  walk_at "rv go"
  refine ⟨a, ns, rfl, hS, fun d c H1 nd nc e1 D1 => ?_⟩
  walk_at "rv go"
  refine ⟨d, c, rfl, R, D1, fun w y' H2 b2 D2 ow => ?_⟩
  walk_at "rv go"
  refine ⟨d, c, rfl, D2, fun ha H3 hs l1 l60 hok b3 D3 nha hh => ?_⟩
  have had : ha ≠ d := D2.nd nha
  have hac : ha ≠ c := D2.nc nha
  have ow3 := ow.but D2 b3
  walk_at "rv go"
  refine w_lenL (sq_lst hh) ?_
  walk_at "rv go"
  rw [List.length_map]
  refine ⟨d, c, _, rfl, R, D3, by omega, by omega, fun v y H4 b4 D4 ov => ?_⟩
  have hh4 := b4 _ _ had hh
  have ow4 := ow3.but D3 b4
  walk_at "rv go"
  refine w_lenL (sq_lst hh4) ?_
  walk_at "rv go"
  rw [List.length_map]
  refine ⟨d, c, _, rfl, l60, D4, fun hw H5 ws hlw wok b5 D5 nhw hhw => ?_⟩
  have hwd : hw ≠ d := D4.nd nhw
  have hh5 := b5 _ _ had hh4
  have hwa : hw ≠ ha := fun z => by
    rw [z, hh4] at nhw
    cases nhw
  have ow5 := ow4.but D4 b5
  have ov5 := ov.but D4 b5
  have ok : PrOk hs ws := ⟨l1, l60, hlw, hok, wok⟩
  walk_at "rv go"
  refine st_is [some (.ref a), some (.ref d), some w, some (.ref ha), some v, some (.ref hw), none, none, none, none, none] rfl ?_
  refine w_cut (fun σ' H' => ∃ (hs : List Int) (y y' : Str), σ' = [some (.ref a), some (.ref d), some w, some (.ref ha), some v, some (.ref hw), none, none, none, none, none] ∧ PrOk hs ws ∧ H' ha = some (.lst (hs.map V.int)) ∧ H' hw = some (.lst (ws.map V.int)) ∧ Odd CR H' v y ∧ Odd CR H' w y') (fun N hX => ?_) ?_
  · walk_at "rv go"
    refine draw_call D5 (by decide) (by decide) fun r H6 ra rb b6 D6 => ?_
    have hh6 := b6 _ _ had hh5
    have hw6 := b6 _ _ hwd hhw
    have ow6 := ow5.but D5 b6
    have ov6 := ov5.but D5 b6
    have stay : N [some (.ref a), some (.ref d), some w, some (.ref ha), some v, some (.ref hw), none, none, none, none, none] H6 := hX _ _ ⟨hs, y, y', rfl, ok, hh6, hw6, ov6, ow6⟩
    walk_at "rv go"
    refine w_both (fun _ => ?_) (fun _ => ?_)
    · refine w_inI (ov6.wh R rk) rfl (fun Q q => te_len rfl hh6 q) (fun i Q q => lt_len q) ?_
      cases g1 : inI 0 ((hs.length : Int) - 1) v with
      | false => exact stay
      | true =>
        refine iteT ?_
        refine w_ifs ?_
        refine w_inI (ow6.wh R rk) rfl (fun Q q => te_big q) (fun i Q q => le_big q) ?_
        cases g2 : inI 0 1000000000000000000000000000000 w with
        | false => exact stay
        | true =>
          obtain ⟨i, rfl, i0, i1⟩ := inI_int g1
          obtain ⟨j, rfl, j0, j1⟩ := inI_int g2
          obtain ⟨n, rfl⟩ : ∃ n : Nat, i = (n : Int) := ⟨i.toNat, by omega⟩
          walk_at "rv go"
          refine draw_call D6 (by decide) (by decide) fun s H7 sa sb b7 D7 => ?_
          have hh7 := b7 _ _ had hh6
          have hw7 := b7 _ _ hwd hw6
          walk_at "rv go"
          refine w_setL (xs := hs.map V.int) (j := n) hh7 (by rw [List.length_map]; exact ixN_nat (by omega)) ?_
          rw [map_set]
          refine hX _ _ ⟨_, _, _, rfl, set_ok ok ?_, upd_same, ?_, odd_i (by omega) (by omega), odd_i (by omega) (by omega)⟩
          · rw [e30]
            by_cases z : (0 : Int) < j
            · rw [decide_eq_true z]
              show HOk1 (1000000000000000000000000000000 - j + s * 1)
              exact ⟨by omega, by omega⟩
            · rw [decide_eq_false z]
              show HOk1 (1000000000000000000000000000000 - j + s * 0)
              exact ⟨by omega, by omega⟩
          · rw [upd_ne hwa]
            exact hw7
    · walk_at "rv go"
      exact stay
  rintro _ H6 ⟨hs6, y6, y6', rfl, ok6, hh6, hw6, ov6, ow6⟩
  exact p_law16b P R rk X M I hh6 hw6 ok6 ov6 ow6 k
end Rv
namespace Rv
open PySem PySem.Spec PyProof.Rows L2
/-- the exception InvalidValley -/
structure VX (K : PySem.W.Frag) (CV CC CE : Addr) : Prop where
  ox : OexG K CV "IndexError" "IndexError.__new__" "IndexError.__init__" bm_IndexError
  no : PySem.W.findIn K (.ref CV) "value" = some none
  em : PySem.W.exmOne K (.ref CV) (.ref CV) = some true
  vI : PySem.W.kitOne K (.ref CV) (.type "IndexError") = some true
  vR : PySem.W.kitOne K (.ref CV) (.ref CE) = some false
  vC : PySem.W.kitOne K (.ref CV) (.ref CC) = some false
def vxB (K : PySem.W.Frag) : Bool :=
  let CV := Value.ref (He.ga K "InvalidValley")
  decide (PySem.W.exmOne K CV CV = some true) && (decide (PySem.W.kitOne K CV (.type "IndexError") = some true) && (decide (PySem.W.kitOne K CV (.ref (He.ga K "RainError")) = some false) && decide (PySem.W.kitOne K CV (.ref (He.ga K "InvalidColumn")) = some false)))
theorem vx_of {K : PySem.W.Frag} (h1 : oxB K "InvalidValley" "IndexError.__new__" bm_IndexError = true) (n1 : decide (PySem.W.findIn K (.ref (He.ga K "InvalidValley")) "value" = some none) = true) (h : vxB K = true) : VX K (He.ga K "InvalidValley") (He.ga K "InvalidColumn") (He.ga K "RainError") := by
  obtain ⟨h2, h⟩ := He.ba h
  obtain ⟨h3, h⟩ := He.ba h
  obtain ⟨h4, h5⟩ := He.ba h
  exact ⟨ox_ok PySem.F.excBase_IndexError mok_ie h1, of_decide_eq_true n1, of_decide_eq_true h2, of_decide_eq_true h3, of_decide_eq_true h4, of_decide_eq_true h5⟩
/-- the peaks of a profile, from left to right -/
structure Tops (hs : List Int) (L : List Pr) : Prop where
  srt : Srt L
  mem : ∀ q : Pr, q ∈ L ↔ MaxRun (mark (hf hs) hs.length) hs.length true q.1 q.2
/-- the heights of the peaks -/
def tpH (hs : List Int) (L : List Pr) : List Int := L.map fun q => hf hs q.1
theorem Tops.pos {hs : List Int} {L : List Pr} (T : Tops hs L) (h : 0 < hs.length) : 1 ≤ L.length := by
  obtain ⟨i, hi, hm⟩ := some_peak (hf hs) h
  obtain ⟨s, _, _⟩ := stre_at (hf hs) hi
  have := (T.mem (lft (hf hs) i, rgt (hf hs) hs.length i)).mpr (peak_run.mp ⟨s, hm⟩)
  exact List.length_pos_of_mem this
def spRims (K : PySem.W.Frag) (CP CV : Addr) : Sp := fun vs H Q E => ∃ p v hs ws L, vs = [.ref p, v] ∧ PCls K CP ∧ OexG K CV "IndexError" "IndexError.__new__" "IndexError.__init__" bm_IndexError ∧ PySem.W.findIn K (.ref CV) "value" = some none ∧ ProfAt K CP H p hs ws ∧ hs.length ≤ 60 ∧ Tops hs L ∧ Whole K H v ∧
  (inI 0 ((L.length : Int) - 2) v = false → ∀ d H', H d = none → Same H H' → H' d = some (.xd [("value", v)]) → E (.ref CV) (some d) H') ∧
  (∀ n : Nat, v = .int (n : Int) → n + 1 < L.length → ∀ r H', Same H H' → H' r = some (.tup [.int (hN (tpH hs L) n), .int (hN (tpH hs L) (n + 1))]) → Q (.ref r) H')
def spTold18 (K : PySem.W.Frag) (CP CR CV CC CE : Addr) : Sp := fun vs H Q _ => ∃ p v y hs ws L, vs = [.ref p, v] ∧ PCls K CP ∧ RCls K CR ∧ RKi K CR ∧ VX K CV CC CE ∧ ProfAt K CP H p hs ws ∧ hs.length ≤ 60 ∧ Tops hs L ∧ Odd CR H v y ∧
  (inI 0 ((L.length : Int) - 2) v = false → ∀ r H', Same H H' → H' r = some (.tup [.str "valley", .str y, .bl true, .bl false]) → Q (.ref r) H') ∧
  (∀ n : Nat, v = .int (n : Int) → n + 1 < L.length → ∀ r H', Same H H' → H' r = some (.tup [.int (hN (tpH hs L) n), .int (hN (tpH hs L) (n + 1))]) → Q (.ref r) H')
def spLaw18 (K : PySem.W.Frag) (CP CR CV CC CE : Addr) : Sp := fun vs H Q _ => ∃ (a : Addr) (ns : List Int), vs = [.ref a] ∧ SqL K H a (ns.map V.int) ∧ PCls K CP ∧ RCls K CR ∧ RKi K CR ∧ VX K CV CC CE ∧ ∀ H', Q (.bl true) H'
def t_InvalidValley___init__ (K : PySem.W.Frag) (C_InvalidValley : Addr) : TS :=
  (tSeq (tDrop (tBaseI K C_InvalidValley "IndexError" "IndexError.__new__" "IndexError.__init__" bm_IndexError (tCons (tVar 0) (tCons (tC (.str "not the number of a valley")) tNil))))
    (tFst K C_InvalidValley "IndexError" "IndexError.__new__" "IndexError.__init__" bm_IndexError "value" (tVar 0) (tVar 1)))
def t_rims (K : PySem.W.Frag) (C_Profile : Addr) (C_InvalidValley : Addr) (E : XK) : TS :=
  (tSeq (tAsg (tCall (spTops K C_Profile) [] E0 (tCons (tVar 0) tNil)) (gName 2))
    (tSeq (tIfS (tNot (tB (tCall (spWithin K) [] E0 (tCons (tVar 1) (tCons (tC (.int 0)) (tCons (tOp oSub (tCB (cLen K) (tCons (tVar 2) tNil)) (tC (.int 2))) tNil)))))) (tRaise (tMkO C_InvalidValley (spExc K C_InvalidValley "IndexError" "IndexError.__new__" "IndexError.__init__" bm_IndexError "value") [] (tCons (tVar 1) tNil)) E) tNext)
    (tRet (tTup (tCons (tOp (rIxL K) (tVar 2) (tVar 1)) (tCons (tOp (rIxL K) (tVar 2) (tOp oAdd (tVar 1) (tC (.int 1)))) tNil))))))
def t__law_rims (K : PySem.W.Frag) (C_Profile : Addr) (C_Ratio : Addr) (C_InvalidValley : Addr) (C_InvalidColumn : Addr) (C_RainError : Addr) : TS :=
  (tSeq (tAsg (tTup tNil) (gName 2))
    (tSeq (tTryAs K (.ref C_InvalidValley) 3 (fun W => (tAsg (tCallD (spRims K C_Profile C_InvalidValley) [] (WE W) (tCons (tVar 0) (tCons (tVar 1) tNil))) (gName 2))) (fun xa xcls xd => (tSeq (tAsg (tOrV (tCB (rIsD K C_InvalidValley xa xcls xd) (tCons (tVar 3) (tCons (tC (.ref C_RainError)) tNil))) (tCB (rIsD K C_InvalidValley xa xcls xd) (tCons (tVar 3) (tCons (tC (.ref C_InvalidColumn)) tNil)))) (gName 4))
    (tAsg (tTup (tCons (tC (.str "valley")) (tCons (tCB (cReprA K C_Ratio (spRRepr K C_Ratio)) (tCons (tXf xa xcls xd C_InvalidValley "value" (tVar 3)) tNil)) (tCons (tCB (rIsD K C_InvalidValley xa xcls xd) (tCons (tVar 3) (tCons (tC (.ty "IndexError")) tNil))) (tCons (tVar 4) tNil))))) (gName 2)))) (fun _ _ _ _ => False))
    (tRet (tVar 2))))
def t_law18b (K : PySem.W.Frag) (C_Profile : Addr) (C_Ratio : Addr) (C_InvalidValley : Addr) (C_InvalidColumn : Addr) (C_RainError : Addr) : TS :=
    (tSeq (tAsg (tMake C_Profile (spInit K C_Profile) [] E0 (tCons (tVar 2) (tCons (tCall (spWidths K) [] E0 (tCons (tVar 1) (tCons (tCB (cLen K) (tCons (tVar 2) tNil)) tNil))) tNil))) (gName 3))
    (tSeq (tAsg (tCall (spCrests K) [] E0 (tCons (tVar 2) tNil)) (gName 4))
    (tSeq (tAsg (tOp oSub (tCB (cLen K) (tCons (tVar 4) tNil)) (tC (.int 1))) (gName 5))
    (tSeq (tFor (iRng1 (tCons (tVar 5) tNil)) (gName 6) (tSeq (tAsg (tCall (spTold18 K C_Profile C_Ratio C_InvalidValley C_InvalidColumn C_RainError) [] E0 (tCons (tVar 3) (tCons (tVar 6) tNil))) (gName 7))
    (tSeq (tIfS (tOr (tNot (tB (tCB (rIsi K) (tCons (tVar 7) (tCons (tC (.ty "tuple")) tNil))))) (tTest (tOp (rNeD K) (tVar 7) (tTup (tCons (tOp (rIxL K) (tVar 4) (tVar 6)) (tCons (tOp (rIxL K) (tVar 4) (tOp oAdd (tVar 6) (tC (.int 1)))) tNil)))))) (tRet (tC (.bl false))) tNext)
    (tIfS (tTest (tOp (rNeD K) (tLc (iTup K (tVar 7)) (gName 11) (tOr (tNot (tB (tCB (rIsi K) (tCons (tVar 11) (tCons (tC (.ty "int")) tNil))))) (tB (tCB (rIsi K) (tCons (tVar 11) (tCons (tC (.ty "bool")) tNil))))) (tVar 11) [11]) (tLst tNil))) (tRet (tC (.bl false))) tNext))))
    (tSeq (tAsg (tOp oAdd (tOp oAdd (tVar 5) (tC (.int 1))) (tCall (spDraw K) [] E0 (tCons (tVar 1) (tCons (tOp oPow (tC (.int 10)) (tC (.int 18))) tNil)))) (gName 8))
    (tSeq (tFor (iList K (tLst (tCons (tC .non) (tCons (tC (.bl true)) (tCons (tC (.bl false)) (tCons (tC (.str "0")) (tCons (tC (.str "")) (tCons (tTup tNil) (tCons (tLst (tCons (tC (.int 0)) tNil)) (tCons (tUn (rU fun i => .int (-i)) (tC (.int 1))) (tCons (tOp oSub (tC (.int 0)) (tVar 8)) (tCons (tVar 8) (tCons (tVar 5) (tCons (tMake C_Ratio (spRInit K C_Ratio) [.int 1] E0 (tCons (tC (.int 0)) tNil)) tNil)))))))))))))) (gName 9) (tIfS (tTest (tOp (rNeD K) (tCall (spTold18 K C_Profile C_Ratio C_InvalidValley C_InvalidColumn C_RainError) [] E0 (tCons (tVar 3) (tCons (tVar 9) tNil))) (tTup (tCons (tC (.str "valley")) (tCons (tCB (cReprA K C_Ratio (spRRepr K C_Ratio)) (tCons (tVar 9) tNil)) (tCons (tC (.bl true)) (tCons (tC (.bl false)) tNil))))))) (tRet (tC (.bl false))) tNext))
    (tRet (tOp (rEqD K) (tProp C_Profile (getSp C_Profile "column_heights") [] E0 (tVar 3)) (tCB (cTuple K) (tCons (tVar 2) tNil))))))))))
def t_law18 (K : PySem.W.Frag) (C_Profile : Addr) (C_Ratio : Addr) (C_InvalidValley : Addr) (C_InvalidColumn : Addr) (C_RainError : Addr) : TS :=
  (tSeq (tAsg (tCall (spDraws K) [] E0 (tCons (tVar 0) tNil)) (gName 1))
    (tSeq (tAsg (tCall (spHeights K) [] E0 (tCons (tVar 1) tNil)) (gName 2))
    (tSeq (tIfS (tTest (tOp rEq (tCall (spDraw K) [] E0 (tCons (tVar 1) (tCons (tC (.int 2)) tNil))) (tC (.int 1)))) (tSeq (tAsg (tLc (iRng1 (tCons (tCB (cLen K) (tCons (tVar 2) tNil)) tNil)) (gName 10) tYes (tOp oAdd (tOp (rIxL K) (tVar 2) (tOp oSub (tVar 10) (tOp oMod (tVar 10) (tC (.int 2))))) (tOp oMul (tOp oMod (tVar 10) (tC (.int 2))) (tCB cInt (tCons (tOp rEq (tOp oMod (tVar 10) (tC (.int 4))) (tC (.int 1))) tNil)))) [10]) (gName 2))
    (tAsg (tLc (iList K (tVar 2)) (gName 11) tYes (tOp oSub (tVar 11) (tCB cInt (tCons (tOp oGt (tVar 11) (tOp oPow (tC (.int 10)) (tC (.int 30)))) tNil))) [11]) (gName 2))) tNext)
    (t_law18b K C_Profile C_Ratio C_InvalidValley C_InvalidColumn C_RainError))))
local macro_rules | `(tactic| walk_at "rv st") => `(tactic| first
  | with_reducible refine iteT ?_ | with_reducible refine iteF ?_ | with_reducible refine w_nx ?_ | with_reducible refine w_yes ?_ | with_reducible refine w_rt ?_ | with_reducible refine iteNT ?_ | with_reducible refine iteNF ?_ | with_reducible refine iteNRf ?_ | with_reducible refine iteRf ?_ | with_reducible refine w_seqA ?_ | with_reducible refine w_seqD ?_ | with_reducible refine w_seqP ?_ | with_reducible refine w_asg ?_ | with_reducible refine w_ret ?_ | with_reducible refine w_drop ?_ | with_reducible refine w_ifs ?_ | with_reducible refine w_next ?_ | with_reducible refine w_par ?_
  | with_reducible refine w_op ?_ | with_reducible refine w_un ?_ | ((with_reducible show tVar _ _ _ _); refine' w_var ?hv ?_; (case hv => exact rfl)) | with_reducible refine w_c ?_ | with_reducible refine w_test ?_ | with_reducible refine w_tB ?_
  | with_reducible refine w_bl ?_ | with_reducible refine w_I0 ?_ | with_reducible refine w_U ?_ | with_reducible refine w_eqI ?_ | with_reducible refine w_neI ?_
  | with_reducible refine w_cons ?_ | with_reducible refine w_nil ?_ | with_reducible refine w_gn ?_ | with_reducible refine w_gsub ?_ | with_reducible refine w_and ?_ | with_reducible refine w_or ?_ | with_reducible refine w_not ?_
  | with_reducible refine w_andV ?_ | with_reducible refine w_orV ?_ | with_reducible refine w_notV ?_ | with_reducible refine w_if ?_ | with_reducible refine w_cb ?_ | with_reducible refine w_call ?_ | with_reducible refine w_lst ?_ | with_reducible refine w_tup ?_
  | with_reducible refine w_sl ?_ | with_reducible refine w_noPart ?_ | with_reducible refine w_part ?_ | with_reducible refine w_ex1 ?_ | with_reducible refine w_exb ?_ | with_reducible refine w_intB ?_ | with_reducible refine w_intI ?_ | with_reducible refine w_abs ?_)
local macro_rules | `(tactic| walk_at "rv ix") => `(tactic| ((with_reducible show rIxL _ _ _ _ _); refine' w_ixL (sq_lst ?ha) ?hb ?_; (case ha => first | exact upd_same | assumption); (case hb => first | exact rfl | assumption)))
local macro_rules | `(tactic| walk_at "rv ar") => `(tactic| first
  | (refine' w_I ?hc ?_; (case hc => first | (show (0 : Int) < _; first | assumption | decide | omega) | exact pow_c (by decide) (by decide) (by first | decide | omega) (by first | decide | omega) | exact mul_r (by first | decide | omega) (by first | decide | omega) | exact mul_l (by first | decide | omega) (by first | decide | omega) | exact divw (by first | assumption | decide | omega) (by first | assumption | decide | omega))))
local macro_rules | `(tactic| walk_at "rv go") => `(tactic| repeat first | walk_at "rv st" | walk_at "rv ix" | ((with_reducible show rI _ _ _ _ _ _); walk_at "rv ar"))
def iTt8 (K : PySem.W.Frag) (a : Addr) : TI := fun _ H R => (∃ xs, SqT K H a xs) ∧ R (Itt K a) H
theorem w_lct8 {K : PySem.W.Frag} {σ : L2.St} {H : Hp} {Q : VK} {tl te : TE} {tt : TT} {g : TG} {vs : List Nat} (q : tl σ H fun x H1 => ∃ a, x = .ref a ∧ tLc (iTt8 K a) g tt te vs σ H1 Q) : tLc (iTup K tl) g tt te vs σ H Q := q
/-- [e for x in t if c], a tuple at hand, where c never holds -/
theorem w_lcNo8 {K : PySem.W.Frag} {σ : L2.St} {H : Hp} {Q : VK} {slot : Nat} {te : TE} {tt : TT} {t : Addr} {xs : List V} (hx : SqT K H t xs)
    (hs : ∀ x ∈ xs, ∀ H1 (TQ : Bool → Hp → Prop), Same H H1 → TQ false H1 → tt ((σ.set slot none).set slot (some x)) H1 TQ)
    (k : ∀ D H1, H D = none → Same H H1 → H1 D = some (.lst []) → Q (.ref D) H1) : tLc (iTt8 K t) (gName slot) tt te [slot] σ H Q := by
  refine ⟨⟨_, hx⟩, fun D nD => ?_⟩
  refine lc_tup (xs := xs) (fun i H' => Same H H' ∧ H' D = some (.lst [])) ⟨same_new (Same.refl H) nD, upd_same⟩ (fun i H' _ ⟨e, _⟩ => sqT_same0 hx e) ?_ ?_
  · rintro i x H' hxi ⟨e, hD⟩
    refine ⟨?_, ?_⟩
    · show ((σ.set slot none).set slot _).set slot none = σ.set slot none
      rw [List.set_set, List.set_set]
    · refine hs x (List.mem_of_getElem? hxi) H' _ e ?_
      exact iteF ⟨e, hD⟩
  · rintro H3 ⟨e3, hD⟩
    exact k D H3 nD e3 hD
/-- [e for x in range(n)], ints -/
theorem w_lcR8 {σ : L2.St} {H : Hp} {Q : VK} {slot n : Nat} {te : TE} {tr : TA} {g : Nat → Int} (hn : n ≤ 1000) (ha : ∀ AQ : List V → Hp → Prop, AQ [.int (n : Int)] H → tr σ H AQ)
    (hs : ∀ i, i < n → ∀ H1 (Q : VK), Same H H1 → (∀ H2, Same H1 H2 → Q (.int (g i)) H2) → te ((σ.set slot none).set slot (some (.int (i : Int)))) H1 Q)
    (k : ∀ D H1, H D = none → Same H H1 → H1 D = some (.lst (((List.range n).map g).map V.int)) → Q (.ref D) H1) : tLc (iRng1 tr) (gName slot) tYes te [slot] σ H Q := by
  refine w_lcR (n := n) (by omega) ha (fun D acc H' => acc = ((List.range acc.length).map g).map V.int ∧ Same H H' ∧ H D = none ∧ H' D = some (.lst acc)) (fun D nD => ⟨rfl, same_new (Same.refl H) nD, nD, upd_same⟩) ?_ ?_
  · rintro D acc H1 hl ⟨ea, e1, nD, hD⟩
    refine hs acc.length hl H1 _ e1 fun H2 e2 => ?_
    refine ⟨acc, e2 _ _ hD, Nat.lt_of_lt_of_le (by omega : acc.length < 100001) (by decide), acc ++ [V.int (g acc.length)], by rw [List.length_append]; rfl, ?_, ?_, nD, upd_same⟩
    · rw [List.length_append, show acc.length + [V.int (g acc.length)].length = acc.length + 1 from rfl, List.range_succ, List.map_append, List.map_append, ← ea]
      rfl
    · exact fun b o hb => by
        rw [upd_ne (ne_of_none hb nD)]
        exact e2 _ _ (e1 _ _ hb)
  · rintro D acc H1 hl ⟨ea, e1, nD, hD⟩
    refine k D H1 nD e1 ?_
    rw [← hl, ← ea]
    exact hD
/-- [e for z in l], a list of ints at hand -/
theorem w_lcL8 {K : PySem.W.Frag} {σ : L2.St} {H : Hp} {Q : VK} {slot : Nat} {te : TE} {g : Int → Int} {t : Addr} {zs : List Int} (hx : H t = some (.lst (zs.map V.int))) (hlen : zs.length ≤ 1000)
    (hs : ∀ z ∈ zs, ∀ H1 (Q : VK), Same H H1 → (∀ H2, Same H1 H2 → Q (.int (g z)) H2) → te ((σ.set slot none).set slot (some (.int z))) H1 Q)
    (k : ∀ D H1, H D = none → Same H H1 → H1 D = some (.lst ((zs.map g).map V.int)) → Q (.ref D) H1) : tLc (iAt K t) (gName slot) tYes te [slot] σ H Q := by
  refine w_lcA (sq_lst hx) (fun D i acc H' => acc = ((zs.take i).map g).map V.int ∧ Same H H' ∧ H D = none ∧ H' D = some (.lst acc)) (fun D nD => ⟨by rw [List.take_zero]; rfl, same_new (Same.refl H) nD, nD, upd_same⟩) (fun D i acc H' ⟨_, e, _⟩ => sq_lst (e _ _ hx)) ?_ ?_
  · rintro D i acc x H' hxi ⟨rfl, e, nD, hD⟩
    rw [List.getElem?_map] at hxi
    obtain ⟨z, hz, rfl⟩ := Option.map_eq_some_iff.mp hxi
    have il : i < zs.length := (List.getElem?_eq_some_iff.mp hz).1
    refine ⟨?_, ?_⟩
    · show ((σ.set slot none).set slot _).set slot none = σ.set slot none
      rw [List.set_set, List.set_set]
    · refine w_yes ?_
      refine iteT ?_
      refine hs z (List.mem_of_getElem? hz) H' _ e fun H2 e2 => ?_
      refine ⟨_, e2 _ _ hD, Nat.lt_of_lt_of_le (show (((zs.take i).map g).map V.int).length < 100001 by simp; omega) (by decide), _, ?_, ?_, nD, upd_same⟩
      · rw [List.take_add_one, hz]
        simp
      · exact fun c o hc => by
          rw [upd_ne (ne_of_none hc nD)]
          exact e2 _ _ (e _ _ hc)
  · rintro D acc H3 ⟨rfl, e3, nD, hD⟩
    rw [List.length_map, List.take_length] at hD
    exact k D H3 nD e3 hD
theorem w_callD {sp : Sp} {dvs : List V} {E : L2.St → XK} {t : TA} {σ : L2.St} {H : Hp} {Q : VK} (q : t σ H fun vs H1 => sp (vs ++ dvs) H1 Q (E σ)) : tCallD sp dvs E t σ H Q := q
theorem p_valI {K : PySem.W.Frag} {C : Addr} {vs : List V} {H : Hp} {Q : VK} {E : XK} (h : spExc K C "IndexError" "IndexError.__new__" "IndexError.__init__" bm_IndexError "value" vs H Q E) : t_InvalidValley___init__ K C { nx := fun _ H' => Q .non H', rt := Q } (start ["self", "value"] vs) H := p_exc "not the number of a valley" h fun _ _ => rfl
theorem p_rims {K : PySem.W.Frag} {CP CV : Addr} {vs : List V} {H : Hp} {Q : VK} {E : XK} (h : spRims K CP CV vs H Q E) : t_rims K CP CV E { nx := fun _ H' => Q .non H', rt := Q } (start ["profile", "valley", "tops"] vs) H := by
  obtain ⟨p, v, hs, ws, L, rfl, P, ox, no, hp, h60, T, W, k1, k2⟩ := h
  unfold t_rims
  walk_at "rv go"
  refine ⟨p, hs, ws, rfl, P, hp, h60, fun r H1 L1 e1 nr hr l60 s1 m1 => ?_⟩
  obtain rfl : L1 = L := srt_unique s1 T.srt fun q => (m1 q).trans (T.mem q).symm
  replace hr : H1 r = some (.lst ((tpH hs L1).map V.int)) := hr
  have len : (tpH hs L1).length = L1.length := by unfold tpH; rw [List.length_map]
  walk_at "rv go"
  refine w_seq ?_
  walk_at "rv go"
  refine w_lenL (sq_lst hr) ?_
  walk_at "rv go"
  rw [List.length_map, len]
  refine ⟨v, 0, _, rfl, W.same e1, ?_⟩
  cases c : inI 0 ((L1.length : Int) - 2) v with
  | false =>
    walk_at "rv go"
    refine w_raise ?_
    refine w_mkO ?_
    walk_at "rv go"
    exact exc_new ox no fun d H' nd e hd => k1 c d H' (free_same e1 nd) (e1.trans e) hd
  | true =>
    obtain ⟨i, rfl, i0, i1⟩ := inI_int c
    obtain ⟨n, rfl⟩ : ∃ n : Nat, i = (n : Int) := ⟨i.toNat, by omega⟩
    walk_at "rv go"
    refine w_ixL (sq_lst hr) (at_hN (by omega)) ?_
    walk_at "rv go"
    refine w_ixL (v := .int (hN (tpH hs L1) (n + 1))) (sq_lst hr) ?_ ?_
    · rw [show ((n : Int) + 1) = ((n + 1 : Nat) : Int) by omega]
      exact at_hN (by omega)
    walk_at "rv go"
    refine ⟨szl (by show 2 ≤ 100000; omega), fun q nq => ?_⟩
    exact k2 n rfl (by omega) q _ (same_new e1 nq) upd_same
theorem p_told18 {K : PySem.W.Frag} {CP CR CV CC CE : Addr} {vs : List V} {H : Hp} {Q : VK} {E : XK} (h : spTold18 K CP CR CV CC CE vs H Q E) : t__law_rims K CP CR CV CC CE { nx := fun _ H' => Q .non H', rt := Q } (start ["_law_profile", "_law_valley", "_law_found", "e", "_law_wrong"] vs) H := by
  obtain ⟨p, v, y, hs, ws, L, rfl, P, R, rk, X, hp, h60, T, ov, k1, k2⟩ := h
  unfold t__law_rims
  walk_at "rv go"
  refine ⟨szl (by show 0 ≤ 100000; omega), fun p0 n0 => ?_⟩
  have e0 : Same H (upd H p0 (.tup [])) := same_new (Same.refl H) n0
  generalize upd H p0 (.tup []) = H0 at e0 ⊢
  walk_at "rv go"
  refine w_seq ?_
  refine st_is [some (.ref p), some v, some (.ref p0), none, none] rfl ?_
  show tAsg _ _ _ _ _
  walk_at "rv go"
  show tCallD _ _ _ _ _ _ _
  refine w_callD ?_
  walk_at "rv go"
  refine ⟨p, v, hs, ws, L, rfl, P, X.ox, X.no, hp.same e0, h60, T, (ov.same e0).wh R rk, fun c d H1 nd e1 hd => ?_, fun n hn hl r H1 e1 hr => ?_⟩
  · refine ⟨true, X.em, fun _ x nx => ?_, fun z => nomatch z⟩
    have oz := (ov.same e0).same e1
    walk_at "rv go"
    refine w_isD (cv := .ref CE) (fun u r => r) hd X.vR ?_
    walk_at "rv go"
    refine w_isD (cv := .ref CC) (fun u r => r) hd X.vC ?_
    walk_at "rv go"
    refine w_xf rfl hd rfl ?_
    walk_at "rv go"
    refine oz.rp R ?_
    walk_at "rv go"
    refine w_isD (cv := .type "IndexError") (fun u r => r) hd X.vI ?_
    walk_at "rv go"
    refine ⟨szl (by show 4 ≤ 100000; omega), fun r nr => ?_⟩
    walk_at "rv go"
    exact k1 c r _ ((e0.trans e1).trans (same_new (Same.refl H1) nr)) upd_same
  · walk_at "rv go"
    exact k2 n hn hl r H1 (e0.trans e1) hr
def g18a (hs : List Int) (i : Nat) : Int := hN hs (i - i % 2) + (i : Int) % 2 * (if decide ((i : Int) % 4 = 1) = true then 1 else 0)
def g18b (z : Int) : Int := z - (if decide ((1000000000000000000000000000000 : Int) < z) = true then 1 else 0)
theorem g18_ok {hs : List Int} (h : ∀ z ∈ hs, HOk1 z) : ∀ z ∈ ((List.range hs.length).map (g18a hs)).map g18b, HOk1 z := by
  intro z hz
  obtain ⟨y, hy, rfl⟩ := List.mem_map.mp hz
  obtain ⟨i, hi, rfl⟩ := List.mem_map.mp hy
  have hl := List.mem_range.mp hi
  have hm := h _ (hN_mem (show i - i % 2 < hs.length by omega))
  obtain ⟨h1, h2⟩ := hm
  have b : 0 ≤ (i : Int) % 2 * (if decide ((i : Int) % 4 = 1) = true then 1 else 0) ∧ (i : Int) % 2 * (if decide ((i : Int) % 4 = 1) = true then 1 else 0) ≤ 1 := by
    split
    · exact ⟨by omega, by omega⟩
    · exact ⟨by omega, by omega⟩
  unfold g18b
  have e : g18a hs i = hN hs (i - i % 2) + (i : Int) % 2 * (if decide ((i : Int) % 4 = 1) = true then 1 else 0) := rfl
  generalize (i : Int) % 2 * (if decide ((i : Int) % 4 = 1) = true then 1 else 0) = u at b e
  by_cases c : (1000000000000000000000000000000 : Int) < g18a hs i
  · rw [decide_eq_true c, if_pos rfl]
    exact ⟨by omega, by omega⟩
  · rw [decide_eq_false c, if_neg (fun z => nomatch z)]
    exact ⟨by omega, by omega⟩
theorem dp2i {K : PySem.W.Frag} {H : Hp} {r : Addr} {a b : Int} (h : H r = some (.tup [.int a, .int b])) : Dp K H (.ref r) (.tuple [.int a, .int b]) := .tup (sq_tup h) (.cons (.int _) (.cons (.int _) .nil))
theorem p_law18b {K : PySem.W.Frag} {CP CR CV CC CE : Addr} {Q : VK} {H : Hp} {a d c hx : Addr} {hs : List Int} (P : PCls K CP) (R : RCls K CR) (rk : RKi K CR) (X : VX K CV CC CE) (D : DrawsAt H d c)
    (hh : H hx = some (.lst (hs.map V.int))) (hxd : hx ≠ d) (l1 : 1 ≤ hs.length) (l60 : hs.length ≤ 60) (hok : ∀ z ∈ hs, HOk1 z) (k : ∀ H', Q (.bl true) H') :
    t_law18b K CP CR CV CC CE { nx := fun _ H' => Q .non H', rt := Q } [some (.ref a), some (.ref d), some (.ref hx), none, none, none, none, none, none, none, none, none] H := by
  unfold t_law18b
  walk_at "rv go"
  refine w_make ?_
  walk_at "rv go"
  refine w_lenL (sq_lst hh) ?_
  walk_at "rv go"
  rw [List.length_map]
  refine ⟨d, c, _, rfl, l60, D, fun hw H1 ws hlw wok b1 D1 nhw hhw => ?_⟩
  have hh1 := b1 _ _ hxd hh
  walk_at "rv go"
  refine mk_profR (us := [.ref hx, .ref hw]) (dvs := []) rfl P (.inl hh1) l1 l60 hok (.inr ⟨hw, rfl, .inl hhw, hlw, wok⟩) fun p H2 np e2 hp => ?_
  have hh2 := e2 _ _ hh1
  have D2 := D1.new e2
  walk_at "rv go"
  refine ⟨hx, hs, rfl, hh2, l60, fun z hz => Int.lt_of_lt_of_le (by decide) (hok z hz).1, fun cr H3 L e3 ncr hcr _ srt mem => ?_⟩
  have T : Tops hs L := ⟨srt, mem⟩
  have Tp := T.pos (by omega)
  replace hcr : H3 cr = some (.lst ((tpH hs L).map V.int)) := hcr
  have len : (tpH hs L).length = L.length := by unfold tpH; rw [List.length_map]
  have L60 : L.length ≤ 60 := by assumption
  obtain ⟨m, hm⟩ : ∃ m : Nat, L.length = m + 1 := ⟨L.length - 1, by omega⟩
  have D3 := D2.new e3
  have hp3 := hp.same e3
  walk_at "rv go"
  refine w_lenL (sq_lst hcr) ?_
  walk_at "rv go"
  rw [List.length_map, len, show ((L.length : Int) - 1) = (m : Int) by omega]
  refine st_is [some (.ref a), some (.ref d), some (.ref hx), some (.ref p), some (.ref cr), some (.int (m : Int)), none, none, none, none, none, none] rfl ?_
  refine w_seq ?_
  refine w_forR (n := m) (by omega) (fun AQ q => by walk_at "rv go"; exact q) (fun i σ' H' => Same H3 H' ∧ ∃ x6 x7, σ' = [some (.ref a), some (.ref d), some (.ref hx), some (.ref p), some (.ref cr), some (.int (m : Int)), x6, x7, none, none, none, none]) ⟨Same.refl H3, none, none, rfl⟩ ?_ ?_
  · rintro i σ' H4 hi ⟨e4, x6, x7, rfl⟩
    refine st_is [some (.ref a), some (.ref d), some (.ref hx), some (.ref p), some (.ref cr), some (.int (m : Int)), some (.int (i : Int)), x7, none, none, none, none] rfl ?_
    walk_at "rv go"
    refine ⟨p, .int (i : Int), _, hs, ws, L, rfl, P, R, rk, X, hp3.same e4, l60, T, odd_i (by omega) (by omega), fun z => absurd z (by rw [inI_yes (by omega) (by omega)]; exact fun z => nomatch z), fun n hn hl r H5 e5 hr => ?_⟩
    obtain rfl : i = n := by have := V.int.inj hn; omega
    walk_at "rv go"
    refine st_is [some (.ref a), some (.ref d), some (.ref hx), some (.ref p), some (.ref cr), some (.int (m : Int)), some (.int (i : Int)), some (.ref r), none, none, none, none] rfl ?_
    refine w_seq ?_
    have hcr5 := e5 _ _ (e4 _ _ hcr)
    walk_at "rv go"
    refine isi_of (.ty "tuple") (.base (.tup hr)) kit_tt ?_
    walk_at "rv go"
    refine w_ixL (sq_lst hcr5) (at_hN (by omega)) ?_
    walk_at "rv go"
    refine w_ixL (v := .int (hN (tpH hs L) (i + 1))) (sq_lst hcr5) ?_ ?_
    · rw [show ((i : Int) + 1) = ((i + 1 : Nat) : Int) by omega]
      exact at_hN (by omega)
    walk_at "rv go"
    refine ⟨szl (by show 2 ≤ 100000; omega), fun q nq => ?_⟩
    have e6 := same_new (o := .tup [.int (hN (tpH hs L) i), .int (hN (tpH hs L) (i + 1))]) (Same.refl H5) nq
    have hq : (upd H5 q (.tup [.int (hN (tpH hs L) i), .int (hN (tpH hs L) (i + 1))])) q = some (.tup [.int (hN (tpH hs L) i), .int (hN (tpH hs L) (i + 1))]) := upd_same
    generalize upd H5 q (.tup [.int (hN (tpH hs L) i), .int (hN (tpH hs L) (i + 1))]) = H6 at e6 hq ⊢
    refine neD_same (dp2i (e6 _ _ hr)) (dp2i hq) (by simp [SeqAt.shaped, PyData.canLay0, PyData.canLayAll0, PyData.depth, PyData.depthAll]) ?_
    walk_at "rv go"
    refine w_lct8 ?_
    walk_at "rv go"
    refine ⟨r, rfl, ?_⟩
    refine w_lcNo8 (sq_tup (e6 _ _ hr)) (fun x hx H7 TQ e7 q => ?_) fun l H7 nl e7 hl7 => ?_
    · obtain ⟨z, rfl⟩ : ∃ z, x = V.int z := by
        rcases List.mem_cons.mp hx with h | h
        · exact ⟨_, h⟩
        · exact ⟨_, List.mem_singleton.mp h⟩
      walk_at "rv go"
      refine isi_of (.ty "int") (.base (.int z)) kit_ii ?_
      walk_at "rv go"
      refine isi_of (.ty "bool") (.base (.int z)) kit_ib ?_
      walk_at "rv go"
      exact q
    walk_at "rv go"
    refine ⟨szl (by show 0 ≤ 100000; omega), fun l2 nl2 => ?_⟩
    have e8 := same_new (o := .lst []) (Same.refl H7) nl2
    refine neD_L (zs := []) (ws := []) (e8 _ _ hl7) upd_same ?_
    rw [decide_eq_true rfl]
    walk_at "rv go"
    exact ⟨(((e4.trans e5).trans e6).trans e7).trans e8, _, _, rfl⟩
  rintro σ' H4 ⟨e4, x6, x7, rfl⟩
  have D4 := D3.new e4
  have hp4 := hp3.same e4
  have hh4 := e4 _ _ (e3 _ _ hh2)
  refine w_nx ?_
  walk_at "rv go"
  refine draw_call D4 (by decide) (by decide) fun f H5 fa fb b5 D5 => ?_
  replace fb : f < 1000000000000000000 := fb
  have hp5 : ProfAt K CP H5 p hs ws := hp4.but b5 (let ⟨ns, pos, num, seed, q, _⟩ := D4; ⟨_, q⟩)
  have hh5 := b5 _ _ hxd hh4
  walk_at "rv go"
  refine st_is [some (.ref a), some (.ref d), some (.ref hx), some (.ref p), some (.ref cr), some (.int (m : Int)), x6, x7, some (.int ((m : Int) + 1 + f)), none, none, none] rfl ?_
  refine w_seq ?_
  refine w_forLn ?_
  walk_at "rv go"
  refine ⟨szl (by show 0 ≤ 100000; omega), fun pt nt => ?_⟩
  have e6 := same_new (o := .tup []) (Same.refl H5) nt
  have ht : (upd H5 pt (.tup [])) pt = some (.tup (([] : List Int).map V.int)) := upd_same
  generalize upd H5 pt (.tup []) = H6 at e6 ht ⊢
  walk_at "rv go"
  refine ⟨szl (by show 1 ≤ 100000; omega), fun pl nl => ?_⟩
  have e7 := same_new (o := .lst [.int 0]) (Same.refl H6) nl
  have hl : (upd H6 pl (.lst [.int 0])) pl = some (.lst (([0] : List Int).map V.int)) := upd_same
  generalize upd H6 pl (.lst [.int 0]) = H7 at e7 hl ⊢
  walk_at "rv go"
  refine w_make ?_
  walk_at "rv go"
  refine mk_rat (us := [.int 0]) (dvs := [.int 1]) rfl R (by decide) (sz_one (by decide)) fun q H8 t e e8 hr hq => ?_
  obtain ⟨rfl, rfl⟩ := hr.one
  walk_at "rv go"
  refine ⟨szl (by show 12 ≤ 100000; omega), fun px nx => ?_⟩
  have e9 := same_new (o := .lst [.non, .bl true, .bl false, .str "0", .str "", .ref pt, .ref pl, .int (-1), .int (0 - ((m : Int) + 1 + f)), .int ((m : Int) + 1 + f), .int (m : Int), .ref q]) (Same.refl H8) nx
  have hxs : (upd H8 px (.lst [.non, .bl true, .bl false, .str "0", .str "", .ref pt, .ref pl, .int (-1), .int (0 - ((m : Int) + 1 + f)), .int ((m : Int) + 1 + f), .int (m : Int), .ref q])) px = some (.lst [.non, .bl true, .bl false, .str "0", .str "", .ref pt, .ref pl, .int (-1), .int (0 - ((m : Int) + 1 + f)), .int ((m : Int) + 1 + f), .int (m : Int), .ref q]) := upd_same
  generalize upd H8 px (.lst [.non, .bl true, .bl false, .str "0", .str "", .ref pt, .ref pl, .int (-1), .int (0 - ((m : Int) + 1 + f)), .int ((m : Int) + 1 + f), .int (m : Int), .ref q]) = H9 at e9 hxs ⊢
  have e59 := ((e6.trans e7).trans e8).trans e9
  have O : ∀ i x, ([.non, .bl true, .bl false, .str "0", .str "", .ref pt, .ref pl, .int (-1), .int (0 - ((m : Int) + 1 + f)), .int ((m : Int) + 1 + f), .int (m : Int), .ref q] : List V)[i]? = some x → ∃ y, Odd CR H9 x y ∧ inI 0 ((L.length : Int) - 2) x = false := fun i x h => by
    have no : ∀ j : Int, (j < 0 ∨ (L.length : Int) - 2 < j) → inI 0 ((L.length : Int) - 2) (.int j) = false := fun j hj => by
      show (decide _ && decide _) = false
      rcases hj with hj | hj
      · rw [decide_eq_false (show ¬ (0 : Int) ≤ j by omega), Bool.false_and]
      · rw [decide_eq_false (show ¬ j ≤ (L.length : Int) - 2 by omega), Bool.and_false]
    have hi : i < 12 := (List.getElem?_eq_some_iff.mp h).1
    rcases (show i = 0 ∨ i = 1 ∨ i = 2 ∨ i = 3 ∨ i = 4 ∨ i = 5 ∨ i = 6 ∨ i = 7 ∨ i = 8 ∨ i = 9 ∨ i = 10 ∨ i = 11 by omega) with rfl | rfl | rfl | rfl | rfl | rfl | rfl | rfl | rfl | rfl | rfl | rfl
    · obtain rfl := Option.some.inj h
      exact ⟨_, .non, rfl⟩
    · obtain rfl := Option.some.inj h
      exact ⟨_, .bl _, rfl⟩
    · obtain rfl := Option.some.inj h
      exact ⟨_, .bl _, rfl⟩
    · obtain rfl := Option.some.inj h
      exact ⟨_, odd_s, rfl⟩
    · obtain rfl := Option.some.inj h
      exact ⟨_, odd_s, rfl⟩
    · obtain rfl := Option.some.inj h
      exact ⟨_, odd_t [] (((e7.trans e8).trans e9) _ _ ht), rfl⟩
    · obtain rfl := Option.some.inj h
      exact ⟨_, odd_l [0] ((e8.trans e9) _ _ hl), rfl⟩
    · obtain rfl := Option.some.inj h
      exact ⟨_, odd_i (by omega) (by omega), no _ (by omega)⟩
    · obtain rfl := Option.some.inj h
      exact ⟨_, odd_i (by omega) (by omega), no _ (by omega)⟩
    · obtain rfl := Option.some.inj h
      exact ⟨_, odd_i (by omega) (by omega), no _ (by omega)⟩
    · obtain rfl := Option.some.inj h
      exact ⟨_, odd_i (by omega) (by omega), no _ (by omega)⟩
    · obtain rfl := Option.some.inj h
      exact ⟨_, .rat 0 1 (hq.same e9) (by decide) (by decide), rfl⟩
  have hp9 := hp5.same e59
  have hh9 := e59 _ _ hh5
  walk_at "rv go"
  refine ⟨px, rfl, ?_⟩
  refine w_forLa (sq_lst hxs) (fun i σ' H' => Same H9 H' ∧ ∃ x9, σ' = [some (.ref a), some (.ref d), some (.ref hx), some (.ref p), some (.ref cr), some (.int (m : Int)), x6, x7, some (.int ((m : Int) + 1 + f)), x9, none, none]) ⟨Same.refl H9, none, rfl⟩ (fun i σ' H' _ ⟨e, _⟩ => sq_lst (e _ _ hxs)) ?_ ?_
  · rintro i x σ' H10 hxi ⟨e10, x9, rfl⟩
    obtain ⟨y, oy, ny⟩ := O i x hxi
    have oy10 := oy.same e10
    refine w_gn ?_
    refine st_is [some (.ref a), some (.ref d), some (.ref hx), some (.ref p), some (.ref cr), some (.int (m : Int)), x6, x7, some (.int ((m : Int) + 1 + f)), some x, none, none] rfl ?_
    walk_at "rv go"
    refine ⟨p, x, y, hs, ws, L, rfl, P, R, rk, X, hp9.same e10, l60, T, oy10, fun _ r H11 e11 hr => ?_, fun n hn hl => ?_⟩
    · walk_at "rv go"
      refine (oy10.same e11).rp R ?_
      walk_at "rv go"
      refine ⟨szl (by show 4 ≤ 100000; omega), fun r2 nr2 => ?_⟩
      have e12 := same_new (o := .tup [.str "valley", .str y, .bl true, .bl false]) (Same.refl H11) nr2
      refine neD_same (dp4 (e12 _ _ hr)) (dp4 upd_same) (sh4 (sok_str _) oy.ok) ?_
      walk_at "rv go"
      exact ⟨(e10.trans e11).trans e12, _, rfl⟩
    · exfalso
      rw [hn, inI_yes (by omega) (by omega)] at ny
      cases ny
  rintro σ' H10 ⟨e10, x9, rfl⟩
  have hp10 := hp9.same e10
  obtain ⟨dy, u1, u2, hpi, g1, g2⟩ := id hp10
  refine w_nx ?_
  walk_at "rv go"
  refine w_prop rfl hpi ?_
  refine ⟨p, dy, _, _, rfl, hpi, pfl_h _ _, ?_⟩
  walk_at "rv go"
  refine tup_call (.inl (e10 _ _ hh9)) fun q1 H11 f1 g3 => ?_
  refine eqD_ok (sq_tup (f1 _ _ g1)) (sq_tup g3) ?_
  exact k _
theorem p_law18 {K : PySem.W.Frag} {CP CR CV CC CE : Addr} {vs : List V} {H : Hp} {Q : VK} {E : XK} (h : spLaw18 K CP CR CV CC CE vs H Q E) : t_law18 K CP CR CV CC CE { nx := fun _ H' => Q .non H', rt := Q } (start ["_law_script", "_law_draws_here", "_law_heights_here", "_law_profile", "_law_crests_here", "_law_many", "_law_valley", "_law_told", "_law_far", "_law_value", "_law_k", "_law_one"] vs) H := by
  obtain ⟨a, ns, rfl, hS, P, R, rk, X, k⟩ := h
  unfold t_law18
  walk_at "rv go"
  refine ⟨a, ns, rfl, hS, fun d c H1 nd nc e1 D1 => ?_⟩
  walk_at "rv go"
  refine ⟨d, c, rfl, D1, fun ha H2 hs l1 l60 hok b2 D2 nha hh => ?_⟩
  have had : ha ≠ d := D1.nd nha
  walk_at "rv go"
  refine st_is [some (.ref a), some (.ref d), some (.ref ha), none, none, none, none, none, none, none, none, none] rfl ?_
  refine w_cut (fun σ' H' => ∃ (hx : Addr) (hs : List Int), σ' = [some (.ref a), some (.ref d), some (.ref hx), none, none, none, none, none, none, none, none, none] ∧ DrawsAt H' d c ∧ H' hx = some (.lst (hs.map V.int)) ∧ hx ≠ d ∧ 1 ≤ hs.length ∧ hs.length ≤ 60 ∧ ∀ z ∈ hs, HOk1 z) (fun N hN' => ?_) ?_
  · walk_at "rv go"
    refine draw_call D2 (by decide) (by decide) fun r H3 ra rb b3 D3 => ?_
    have hh3 := b3 _ _ had hh
    walk_at "rv go"
    refine w_both (fun _ => ?_) (fun _ => ?_)
    · walk_at "rv go"
      refine w_lcR8 (n := hs.length) (g := g18a hs) (by omega) (fun AQ q => by walk_at "rv go"; refine w_lenL (sq_lst hh3) ?_; walk_at "rv go"; rw [List.length_map]; exact q) (fun i hi H4 Q4 e4 q4 => ?_) fun l1' H4 n4 e4 h4 => ?_
      · walk_at "rv go"
        refine w_ixL (v := .int (hN hs (i - i % 2))) (sq_lst (e4 _ _ hh3)) ?_ ?_
        · rw [show ((i : Int) - (i : Int) % 2) = ((i - i % 2 : Nat) : Int) by omega]
          exact at_hN (by omega)
        walk_at "rv go"
        exact q4 H4 (Same.refl _)
      walk_at "rv go"
      refine w_lcl ?_
      walk_at "rv go"
      refine ⟨l1', rfl, ?_⟩
      refine w_lcL8 (g := g18b) h4 (by simp; omega) (fun z hz H5 Q5 e5 q5 => ?_) fun l2' H5 n5 e5 h5 => ?_
      · walk_at "rv go"
        rw [e30]
        walk_at "rv go"
        exact q5 H5 (Same.refl _)
      walk_at "rv go"
      refine hN' _ _ ⟨l2', _, rfl, D3.new (e4.trans e5), h5, (D3.new e4).nd n5, ?_, ?_, g18_ok hok⟩
      · rw [List.length_map, List.length_map, List.length_range]
        exact l1
      · rw [List.length_map, List.length_map, List.length_range]
        exact l60
    · walk_at "rv go"
      exact hN' _ _ ⟨ha, hs, rfl, D3, hh3, had, l1, l60, hok⟩
  rintro _ H3 ⟨hx, hs3, rfl, D3, hh3, hxd, l13, l603, hok3⟩
  exact p_law18b P R rk X D3 hh3 hxd l13 l603 hok3 k
end Rv
namespace Rv
open PySem PySem.Spec PyProof.Rows L2
def top (i : Nat) : Stmt := PySem.Challenge.pw_rainvalleys_k18_rims_of_valleys.main.body.getD i (.Pass ⟨0, 0, 0, 0⟩)
abbrev s_InvalidValley___init__ : Stmt := inClass (top 7) 0
theorem sc_InvalidValley___init__ : FnScope ["self", "value"] ["self", "value"] (defScope s_InvalidValley___init__) := ⟨rfl, rfl, rfl, by decide +kernel, rfl, by decide +kernel, by decide +kernel⟩
theorem d_InvalidValley___init__ {P : Program} {w : World} {K : PySem.W.Frag} {mg : Str → Option Value} {base : Heap} {C_InvalidValley : Addr} {CX : CXT} {f : Addr} {cdv : Value} {A : Around} {outer : List Env} {s : Shared} {H : Hp} {E : XK} (vi_IndexError : PySem.W.findCls K (.type "IndexError") (.type "type") "__init__" = some (.val (.builtin "IndexError.__init__"))) (m_IndexError : mg "IndexError" = none)
    (hr : Room 0 (A.deeper (envOfC "InvalidValley.__init__" (defScope s_InvalidValley___init__) s.heap.objs.size f cdv))) :
    PSs (cxOf CX P w K mg base ["self", "value"] "InvalidValley.__init__" (defScope s_InvalidValley___init__) f cdv A outer s H E) (defBody s_InvalidValley___init__) (t_InvalidValley___init__ K C_InvalidValley) :=
  (pss_cons (ps_expr (pe_stdbase (by rfl) m_IndexError (by decide +kernel) (by rfl) (by decide +kernel) vi_IndexError (by decide +kernel) (pa_cons (pv 0) (pa_cons pe_str pa_nil))))
    (pss_one (ps_fst (pv 0) (pv 1))))
theorem ok_InvalidValley___init__ {P : Program} {w : World} {K : PySem.W.Frag} {mg : Str → Option Value} {base : Heap} {C_InvalidValley : Addr} {f : Addr} {fd : FuncData} (F : FunD K "__init__" "InvalidValley.__init__" (defArgs s_InvalidValley___init__) (defBody s_InvalidValley___init__) (defScope s_InvalidValley___init__) [] [] f fd) (vi_IndexError : PySem.W.findCls K (.type "IndexError") (.type "type") "__init__" = some (.val (.builtin "IndexError.__init__"))) (m_IndexError : mg "IndexError" = none) : FnOk P w K mg base CX0 1 f fd ["self", "value"] (spExc K C_InvalidValley "IndexError" "IndexError.__new__" "IndexError.__init__" bm_IndexError "value") :=
  F.ok sc_InvalidValley___init__ (fun vs H Q E h => by first | (obtain ⟨_, rfl, _⟩ := h; rfl) | (obtain ⟨_, _, rfl, _⟩ := h; rfl) | (obtain ⟨_, _, _, rfl, _⟩ := h; rfl) | (obtain ⟨_, _, _, _, rfl, _⟩ := h; rfl) | (obtain ⟨_, _, _, _, _, rfl, _⟩ := h; rfl) | (obtain ⟨_, _, _, _, _, _, rfl, _⟩ := h; rfl) | (obtain ⟨_, _, _, _, _, _, _, rfl, _⟩ := h; rfl) | (obtain ⟨_, _, _, _, _, _, _, _, rfl, _⟩ := h; rfl) | (obtain ⟨_, _, _, _, _, _, _, _, _, rfl, _⟩ := h; rfl) | (obtain ⟨_, _, _, _, _, _, _, _, _, _, rfl, _⟩ := h; rfl) | (obtain ⟨_, _, _, _, _, _, _, _, _, _, _, rfl, _⟩ := h; rfl) | (obtain ⟨_, _, _, _, _, _, _, _, _, _, _, _, rfl, _⟩ := h; rfl) | (obtain ⟨_, _, _, _, _, _, _, _, _, _, _, _, _, rfl, _⟩ := h; rfl) | (obtain ⟨_, _, _, _, _, _, _, _, _, _, _, _, _, _, rfl, _⟩ := h; rfl) | (obtain ⟨_, _, _, _, _, _, _, _, _, _, _, _, _, _, _, rfl, _⟩ := h; rfl) | (obtain ⟨_, _, _, _, _, _, _, _, _, _, _, _, _, _, _, _, rfl, _⟩ := h; rfl) | (obtain ⟨_, _, _, _, _, _, _, _, _, _, _, _, _, _, _, _, _, rfl, _⟩ := h; rfl) | (obtain ⟨_, _, _, _, _, _, _, _, _, _, _, _, _, _, _, _, _, _, rfl, _⟩ := h; rfl) | (obtain ⟨_, _, _, _, _, _, _, _, _, _, _, _, _, _, _, _, _, _, _, rfl, _⟩ := h; rfl) | (obtain ⟨_, _, _, _, _, _, _, _, _, _, _, _, _, _, _, _, _, _, _, _, rfl, _⟩ := h; rfl) | (obtain ⟨_, _, _, _, _, _, _, _, _, _, _, _, _, _, _, _, _, _, _, _, _, rfl, _⟩ := h; rfl) | (obtain ⟨_, _, _, _, _, _, _, _, _, _, _, _, _, _, _, _, _, _, _, _, _, _, rfl, _⟩ := h; rfl) | (obtain ⟨_, _, _, _, _, _, _, _, _, _, _, _, _, _, _, _, _, _, _, _, _, _, _, rfl, _⟩ := h; rfl) | (obtain ⟨_, _, _, _, _, _, _, _, _, _, _, _, _, _, _, _, _, _, _, _, _, _, _, _, rfl, _⟩ := h; rfl) | (obtain ⟨_, _, _, _, _, _, _, _, _, _, _, _, _, _, _, _, _, _, _, _, _, _, _, _, _, rfl, _⟩ := h; rfl)) (fun cdv A outer s H vs Q E hr h => ⟨_, d_InvalidValley___init__ vi_IndexError m_IndexError hr, p_valI h⟩)
abbrev s__law_draws : Stmt := top 32
theorem sc__law_draws : FnScope ["_law_script"] ["_law_script"] (defScope s__law_draws) := ⟨rfl, rfl, rfl, by decide +kernel, rfl, by decide +kernel, by decide +kernel⟩
theorem d__law_draws {P : Program} {w : World} {K : PySem.W.Frag} {mg : Str → Option Value} {base : Heap} {CX : CXT} {f : Addr} {cdv : Value} {A : Around} {outer : List Env} {s : Shared} {H : Hp} {E : XK} 
    (hr : Room 0 (A.deeper (envOfC "_law_draws" (defScope s__law_draws) s.heap.objs.size f cdv))) :
    PSs (cxOf CX P w K mg base ["_law_script"] "_law_draws" (defScope s__law_draws) f cdv A outer s H E) (defBody s__law_draws) (t__law_draws K) :=
  (pss_one (ps_ret (pe_lst (pa_cons (pe_slice sl_list (pv 0) po_none (po_some pe_int)) (pa_cons pe_int (pa_cons pe_int (pa_cons pe_int pa_nil)))))))
theorem ok__law_draws {P : Program} {w : World} {K : PySem.W.Frag} {mg : Str → Option Value} {base : Heap} {f : Addr} {fd : FuncData} (F : FunD K "_law_draws" "_law_draws" (defArgs s__law_draws) (defBody s__law_draws) (defScope s__law_draws) [] [] f fd)  : FnOk P w K mg base CX0 1 f fd ["_law_script"] (spDraws K) :=
  F.ok sc__law_draws (fun vs H Q E h => by first | (obtain ⟨_, rfl, _⟩ := h; rfl) | (obtain ⟨_, _, rfl, _⟩ := h; rfl) | (obtain ⟨_, _, _, rfl, _⟩ := h; rfl) | (obtain ⟨_, _, _, _, rfl, _⟩ := h; rfl) | (obtain ⟨_, _, _, _, _, rfl, _⟩ := h; rfl) | (obtain ⟨_, _, _, _, _, _, rfl, _⟩ := h; rfl) | (obtain ⟨_, _, _, _, _, _, _, rfl, _⟩ := h; rfl) | (obtain ⟨_, _, _, _, _, _, _, _, rfl, _⟩ := h; rfl) | (obtain ⟨_, _, _, _, _, _, _, _, _, rfl, _⟩ := h; rfl) | (obtain ⟨_, _, _, _, _, _, _, _, _, _, rfl, _⟩ := h; rfl) | (obtain ⟨_, _, _, _, _, _, _, _, _, _, _, rfl, _⟩ := h; rfl) | (obtain ⟨_, _, _, _, _, _, _, _, _, _, _, _, rfl, _⟩ := h; rfl) | (obtain ⟨_, _, _, _, _, _, _, _, _, _, _, _, _, rfl, _⟩ := h; rfl) | (obtain ⟨_, _, _, _, _, _, _, _, _, _, _, _, _, _, rfl, _⟩ := h; rfl) | (obtain ⟨_, _, _, _, _, _, _, _, _, _, _, _, _, _, _, rfl, _⟩ := h; rfl) | (obtain ⟨_, _, _, _, _, _, _, _, _, _, _, _, _, _, _, _, rfl, _⟩ := h; rfl) | (obtain ⟨_, _, _, _, _, _, _, _, _, _, _, _, _, _, _, _, _, rfl, _⟩ := h; rfl) | (obtain ⟨_, _, _, _, _, _, _, _, _, _, _, _, _, _, _, _, _, _, rfl, _⟩ := h; rfl) | (obtain ⟨_, _, _, _, _, _, _, _, _, _, _, _, _, _, _, _, _, _, _, rfl, _⟩ := h; rfl) | (obtain ⟨_, _, _, _, _, _, _, _, _, _, _, _, _, _, _, _, _, _, _, _, rfl, _⟩ := h; rfl) | (obtain ⟨_, _, _, _, _, _, _, _, _, _, _, _, _, _, _, _, _, _, _, _, _, rfl, _⟩ := h; rfl) | (obtain ⟨_, _, _, _, _, _, _, _, _, _, _, _, _, _, _, _, _, _, _, _, _, _, rfl, _⟩ := h; rfl) | (obtain ⟨_, _, _, _, _, _, _, _, _, _, _, _, _, _, _, _, _, _, _, _, _, _, _, rfl, _⟩ := h; rfl) | (obtain ⟨_, _, _, _, _, _, _, _, _, _, _, _, _, _, _, _, _, _, _, _, _, _, _, _, rfl, _⟩ := h; rfl) | (obtain ⟨_, _, _, _, _, _, _, _, _, _, _, _, _, _, _, _, _, _, _, _, _, _, _, _, _, rfl, _⟩ := h; rfl)) (fun cdv A outer s H vs Q E hr h => ⟨_, d__law_draws  hr, p_draws h⟩)
abbrev s__law_draw : Stmt := top 33
theorem sc__law_draw : FnScope ["_law_draws_here", "_law_many", "_law_cells", "_law_value", "_law_cell", "_law_mixed"] ["_law_draws_here", "_law_many"] (defScope s__law_draw) := ⟨rfl, rfl, rfl, by decide +kernel, rfl, by decide +kernel, by decide +kernel⟩
theorem d__law_draw {P : Program} {w : World} {K : PySem.W.Frag} {mg : Str → Option Value} {base : Heap} {CX : CXT} {f : Addr} {cdv : Value} {A : Around} {outer : List Env} {s : Shared} {H : Hp} {E : XK} (m_len : mg "len" = none)
    (hr : Room 0 (A.deeper (envOfC "_law_draw" (defScope s__law_draw) s.heap.objs.size f cdv))) :
    PSs (cxOf CX P w K mg base ["_law_draws_here", "_law_many", "_law_cells", "_law_value", "_law_cell", "_law_mixed"] "_law_draw" (defScope s__law_draw) f cdv A outer s H E) (defBody s__law_draw) (t__law_draw K) :=
  (pss_cons (ps_set (i := 2) sc__law_draw.nd rfl (by first | exact Or.inl rfl | exact Or.inr rfl) (pe_ix ix_list (pv 0) pe_int (fun _ _ => rfl)))
    (pss_cons (ps_if (PW.pt (pw_and (pt_cmpR op_eq (pe_ix ix_list (pv 0) pe_int (fun _ _ => rfl)) pe_int (nomark _)) (pw_and (pt_cmpR op_lt (pe_ix ix_list (pv 0) pe_int (fun _ _ => rfl)) (pe_callB call_len_seq (by rfl) m_len (by decide +kernel) (pa_cons (pv 2) pa_nil)) (nomark _)) (pw_and1 (pt_cmpR op_ge (pe_ix ix_list (pv 2) (pe_ix ix_list (pv 0) pe_int (fun _ _ => rfl)) (fun _ _ => rfl)) (pe_op op_pow pe_int pe_int) (nomark _)))))) (pss_cons (ps_asg (pe_ix ix_list (pv 2) (pe_ix ix_list (pv 0) pe_int (fun _ _ => rfl)) (fun _ _ => rfl)) (pg_sub (pv 0) pe_int set_list))
    (pss_one (ps_asg (pe_op op_add (pe_ix ix_list (pv 0) pe_int (fun _ _ => rfl)) pe_int) (pg_sub (pv 0) pe_int set_list)))) pss_nil)
    (pss_cons (ps_if (pt_cmpR op_gt (pe_ix ix_list (pv 0) pe_int (fun _ _ => rfl)) pe_int (nomark _)) (pss_cons (ps_set (i := 3) sc__law_draw.nd rfl (by first | exact Or.inl rfl | exact Or.inr rfl) (pe_op op_mod (pe_ix ix_list (pv 0) pe_int (fun _ _ => rfl)) (pv 1)))
    (pss_cons (ps_asg (pe_op op_fdivW (pe_ix ix_list (pv 0) pe_int (fun _ _ => rfl)) (pv 1)) (pg_sub (pv 0) pe_int set_list))
    (pss_one (ps_ret (pv 3))))) pss_nil)
    (pss_cons (ps_set (i := 4) sc__law_draw.nd rfl (by first | exact Or.inl rfl | exact Or.inr rfl) pe_int)
    (pss_cons (ps_if (pt_cmpR op_lt (pe_ix ix_list (pv 0) pe_int (fun _ _ => rfl)) (pe_callB call_len_seq (by rfl) m_len (by decide +kernel) (pa_cons (pv 2) pa_nil)) (nomark _)) (pss_cons (ps_set (i := 4) sc__law_draw.nd rfl (by first | exact Or.inl rfl | exact Or.inr rfl) (pe_ix ix_list (pv 2) (pe_ix ix_list (pv 0) pe_int (fun _ _ => rfl)) (fun _ _ => rfl)))
    (pss_one (ps_asg (pe_op op_add (pe_ix ix_list (pv 0) pe_int (fun _ _ => rfl)) pe_int) (pg_sub (pv 0) pe_int set_list)))) pss_nil)
    (pss_cons (ps_asg (pe_op op_mod (pe_op op_add (pe_op op_add (pe_op op_mul (pe_ix ix_list (pv 0) pe_int (fun _ _ => rfl)) pe_int) (pe_op op_mod (pv 4) pe_int)) pe_int) pe_int) (pg_sub (pv 0) pe_int set_list))
    (pss_cons (ps_set (i := 5) sc__law_draw.nd rfl (by first | exact Or.inl rfl | exact Or.inr rfl) (pe_op op_mod (pe_op op_pow (pe_ix ix_list (pv 0) pe_int (fun _ _ => rfl)) pe_int) pe_int))
    (pss_cons (ps_if (pt_cmpR op_gt (pv 1) (pe_op op_pow pe_int pe_int) (nomark _)) (pss_one (ps_set (i := 5) sc__law_draw.nd rfl (by first | exact Or.inl rfl | exact Or.inr rfl) (pe_op op_add (pe_op op_pow (pv 5) pe_int) (pv 5)))) pss_nil)
    (pss_one (ps_ret (pe_op op_mod (pv 5) (pv 1))))))))))))
theorem ok__law_draw {P : Program} {w : World} {K : PySem.W.Frag} {mg : Str → Option Value} {base : Heap} {f : Addr} {fd : FuncData} (F : FunD K "_law_draw" "_law_draw" (defArgs s__law_draw) (defBody s__law_draw) (defScope s__law_draw) [] [] f fd) (m_len : mg "len" = none) : FnOk P w K mg base CX0 1 f fd ["_law_draws_here", "_law_many"] (spDraw K) :=
  F.ok sc__law_draw (fun vs H Q E h => by first | (obtain ⟨_, rfl, _⟩ := h; rfl) | (obtain ⟨_, _, rfl, _⟩ := h; rfl) | (obtain ⟨_, _, _, rfl, _⟩ := h; rfl) | (obtain ⟨_, _, _, _, rfl, _⟩ := h; rfl) | (obtain ⟨_, _, _, _, _, rfl, _⟩ := h; rfl) | (obtain ⟨_, _, _, _, _, _, rfl, _⟩ := h; rfl) | (obtain ⟨_, _, _, _, _, _, _, rfl, _⟩ := h; rfl) | (obtain ⟨_, _, _, _, _, _, _, _, rfl, _⟩ := h; rfl) | (obtain ⟨_, _, _, _, _, _, _, _, _, rfl, _⟩ := h; rfl) | (obtain ⟨_, _, _, _, _, _, _, _, _, _, rfl, _⟩ := h; rfl) | (obtain ⟨_, _, _, _, _, _, _, _, _, _, _, rfl, _⟩ := h; rfl) | (obtain ⟨_, _, _, _, _, _, _, _, _, _, _, _, rfl, _⟩ := h; rfl) | (obtain ⟨_, _, _, _, _, _, _, _, _, _, _, _, _, rfl, _⟩ := h; rfl) | (obtain ⟨_, _, _, _, _, _, _, _, _, _, _, _, _, _, rfl, _⟩ := h; rfl) | (obtain ⟨_, _, _, _, _, _, _, _, _, _, _, _, _, _, _, rfl, _⟩ := h; rfl) | (obtain ⟨_, _, _, _, _, _, _, _, _, _, _, _, _, _, _, _, rfl, _⟩ := h; rfl) | (obtain ⟨_, _, _, _, _, _, _, _, _, _, _, _, _, _, _, _, _, rfl, _⟩ := h; rfl) | (obtain ⟨_, _, _, _, _, _, _, _, _, _, _, _, _, _, _, _, _, _, rfl, _⟩ := h; rfl) | (obtain ⟨_, _, _, _, _, _, _, _, _, _, _, _, _, _, _, _, _, _, _, rfl, _⟩ := h; rfl) | (obtain ⟨_, _, _, _, _, _, _, _, _, _, _, _, _, _, _, _, _, _, _, _, rfl, _⟩ := h; rfl) | (obtain ⟨_, _, _, _, _, _, _, _, _, _, _, _, _, _, _, _, _, _, _, _, _, rfl, _⟩ := h; rfl) | (obtain ⟨_, _, _, _, _, _, _, _, _, _, _, _, _, _, _, _, _, _, _, _, _, _, rfl, _⟩ := h; rfl) | (obtain ⟨_, _, _, _, _, _, _, _, _, _, _, _, _, _, _, _, _, _, _, _, _, _, _, rfl, _⟩ := h; rfl) | (obtain ⟨_, _, _, _, _, _, _, _, _, _, _, _, _, _, _, _, _, _, _, _, _, _, _, _, rfl, _⟩ := h; rfl) | (obtain ⟨_, _, _, _, _, _, _, _, _, _, _, _, _, _, _, _, _, _, _, _, _, _, _, _, _, rfl, _⟩ := h; rfl)) (fun cdv A outer s H vs Q E hr h => ⟨_, d__law_draw m_len hr, p_draw h⟩)
abbrev s_is_whole : Stmt := top 10
theorem sc_is_whole : FnScope ["value"] ["value"] (defScope s_is_whole) := ⟨rfl, rfl, rfl, by decide +kernel, rfl, by decide +kernel, by decide +kernel⟩
theorem d_is_whole {P : Program} {w : World} {K : PySem.W.Frag} {mg : Str → Option Value} {base : Heap} {CX : CXT} {f : Addr} {cdv : Value} {A : Around} {outer : List Env} {s : Shared} {H : Hp} {E : XK} (m_int : mg "int" = none) (m_isinstance : mg "isinstance" = none) (m_bool : mg "bool" = none)
    (hr : Room 0 (A.deeper (envOfC "is_whole" (defScope s_is_whole) s.heap.objs.size f cdv))) :
    PSs (cxOf CX P w K mg base ["value"] "is_whole" (defScope s_is_whole) f cdv A outer s H E) (defBody s_is_whole) (t_is_whole K) :=
  (pss_one (ps_ret (pe_and (pe_callB call_isi (by rfl) m_isinstance (by decide +kernel) (pa_cons (pv 0) (pa_cons (pe_bltn (by rfl) m_int (by decide +kernel) rfl) pa_nil))) (pe_one (pe_not (pe_callB call_isi (by rfl) m_isinstance (by decide +kernel) (pa_cons (pv 0) (pa_cons (pe_bltn (by rfl) m_bool (by decide +kernel) rfl) pa_nil))))))))
theorem ok_is_whole {P : Program} {w : World} {K : PySem.W.Frag} {mg : Str → Option Value} {base : Heap} {f : Addr} {fd : FuncData} (F : FunD K "is_whole" "is_whole" (defArgs s_is_whole) (defBody s_is_whole) (defScope s_is_whole) [] [] f fd) (m_int : mg "int" = none) (m_isinstance : mg "isinstance" = none) (m_bool : mg "bool" = none) : FnOk P w K mg base CX0 1 f fd ["value"] (spWhole K) :=
  F.ok sc_is_whole (fun vs H Q E h => by first | (obtain ⟨_, rfl, _⟩ := h; rfl) | (obtain ⟨_, _, rfl, _⟩ := h; rfl) | (obtain ⟨_, _, _, rfl, _⟩ := h; rfl) | (obtain ⟨_, _, _, _, rfl, _⟩ := h; rfl) | (obtain ⟨_, _, _, _, _, rfl, _⟩ := h; rfl) | (obtain ⟨_, _, _, _, _, _, rfl, _⟩ := h; rfl) | (obtain ⟨_, _, _, _, _, _, _, rfl, _⟩ := h; rfl) | (obtain ⟨_, _, _, _, _, _, _, _, rfl, _⟩ := h; rfl) | (obtain ⟨_, _, _, _, _, _, _, _, _, rfl, _⟩ := h; rfl) | (obtain ⟨_, _, _, _, _, _, _, _, _, _, rfl, _⟩ := h; rfl) | (obtain ⟨_, _, _, _, _, _, _, _, _, _, _, rfl, _⟩ := h; rfl) | (obtain ⟨_, _, _, _, _, _, _, _, _, _, _, _, rfl, _⟩ := h; rfl) | (obtain ⟨_, _, _, _, _, _, _, _, _, _, _, _, _, rfl, _⟩ := h; rfl) | (obtain ⟨_, _, _, _, _, _, _, _, _, _, _, _, _, _, rfl, _⟩ := h; rfl) | (obtain ⟨_, _, _, _, _, _, _, _, _, _, _, _, _, _, _, rfl, _⟩ := h; rfl) | (obtain ⟨_, _, _, _, _, _, _, _, _, _, _, _, _, _, _, _, rfl, _⟩ := h; rfl) | (obtain ⟨_, _, _, _, _, _, _, _, _, _, _, _, _, _, _, _, _, rfl, _⟩ := h; rfl) | (obtain ⟨_, _, _, _, _, _, _, _, _, _, _, _, _, _, _, _, _, _, rfl, _⟩ := h; rfl) | (obtain ⟨_, _, _, _, _, _, _, _, _, _, _, _, _, _, _, _, _, _, _, rfl, _⟩ := h; rfl) | (obtain ⟨_, _, _, _, _, _, _, _, _, _, _, _, _, _, _, _, _, _, _, _, rfl, _⟩ := h; rfl) | (obtain ⟨_, _, _, _, _, _, _, _, _, _, _, _, _, _, _, _, _, _, _, _, _, rfl, _⟩ := h; rfl) | (obtain ⟨_, _, _, _, _, _, _, _, _, _, _, _, _, _, _, _, _, _, _, _, _, _, rfl, _⟩ := h; rfl) | (obtain ⟨_, _, _, _, _, _, _, _, _, _, _, _, _, _, _, _, _, _, _, _, _, _, _, rfl, _⟩ := h; rfl) | (obtain ⟨_, _, _, _, _, _, _, _, _, _, _, _, _, _, _, _, _, _, _, _, _, _, _, _, rfl, _⟩ := h; rfl) | (obtain ⟨_, _, _, _, _, _, _, _, _, _, _, _, _, _, _, _, _, _, _, _, _, _, _, _, _, rfl, _⟩ := h; rfl)) (fun cdv A outer s H vs Q E hr h => ⟨_, d_is_whole m_int m_isinstance m_bool hr, p_whole h⟩)
abbrev s_is_whole_within : Stmt := top 11
theorem sc_is_whole_within : FnScope ["value", "least", "greatest"] ["value", "least", "greatest"] (defScope s_is_whole_within) := ⟨rfl, rfl, rfl, by decide +kernel, rfl, by decide +kernel, by decide +kernel⟩
theorem d_is_whole_within {P : Program} {w : World} {K : PySem.W.Frag} {mg : Str → Option Value} {base : Heap} {CX : CXT} {f : Addr} {cdv : Value} {A : Around} {outer : List Env} {s : Shared} {H : Hp} {E : XK} (c_is_whole : Cal P w K mg base CX0 1 "is_whole" ["value"] (spWhole K))
    (hr : Room 1 (A.deeper (envOfC "is_whole_within" (defScope s_is_whole_within) s.heap.objs.size f cdv))) :
    PSs (cxOf CX P w K mg base ["value", "least", "greatest"] "is_whole_within" (defScope s_is_whole_within) f cdv A outer s H E) (defBody s_is_whole_within) (t_is_whole_within K) :=
  (pss_one (ps_ret (pe_and (pe_cal c_is_whole (hr.mono (by decide)) rfl pass0 (pa_cons (pv 0) pa_nil)) (pe_one (pe_chain op_le op_le (pv 1) (pv 0) (pv 2))))))
theorem ok_is_whole_within {P : Program} {w : World} {K : PySem.W.Frag} {mg : Str → Option Value} {base : Heap} {f : Addr} {fd : FuncData} (F : FunD K "is_whole_within" "is_whole_within" (defArgs s_is_whole_within) (defBody s_is_whole_within) (defScope s_is_whole_within) [] [] f fd) (c_is_whole : Cal P w K mg base CX0 1 "is_whole" ["value"] (spWhole K)) : FnOk P w K mg base CX0 2 f fd ["value", "least", "greatest"] (spWithin K) :=
  F.ok sc_is_whole_within (fun vs H Q E h => by first | (obtain ⟨_, rfl, _⟩ := h; rfl) | (obtain ⟨_, _, rfl, _⟩ := h; rfl) | (obtain ⟨_, _, _, rfl, _⟩ := h; rfl) | (obtain ⟨_, _, _, _, rfl, _⟩ := h; rfl) | (obtain ⟨_, _, _, _, _, rfl, _⟩ := h; rfl) | (obtain ⟨_, _, _, _, _, _, rfl, _⟩ := h; rfl) | (obtain ⟨_, _, _, _, _, _, _, rfl, _⟩ := h; rfl) | (obtain ⟨_, _, _, _, _, _, _, _, rfl, _⟩ := h; rfl) | (obtain ⟨_, _, _, _, _, _, _, _, _, rfl, _⟩ := h; rfl) | (obtain ⟨_, _, _, _, _, _, _, _, _, _, rfl, _⟩ := h; rfl) | (obtain ⟨_, _, _, _, _, _, _, _, _, _, _, rfl, _⟩ := h; rfl) | (obtain ⟨_, _, _, _, _, _, _, _, _, _, _, _, rfl, _⟩ := h; rfl) | (obtain ⟨_, _, _, _, _, _, _, _, _, _, _, _, _, rfl, _⟩ := h; rfl) | (obtain ⟨_, _, _, _, _, _, _, _, _, _, _, _, _, _, rfl, _⟩ := h; rfl) | (obtain ⟨_, _, _, _, _, _, _, _, _, _, _, _, _, _, _, rfl, _⟩ := h; rfl) | (obtain ⟨_, _, _, _, _, _, _, _, _, _, _, _, _, _, _, _, rfl, _⟩ := h; rfl) | (obtain ⟨_, _, _, _, _, _, _, _, _, _, _, _, _, _, _, _, _, rfl, _⟩ := h; rfl) | (obtain ⟨_, _, _, _, _, _, _, _, _, _, _, _, _, _, _, _, _, _, rfl, _⟩ := h; rfl) | (obtain ⟨_, _, _, _, _, _, _, _, _, _, _, _, _, _, _, _, _, _, _, rfl, _⟩ := h; rfl) | (obtain ⟨_, _, _, _, _, _, _, _, _, _, _, _, _, _, _, _, _, _, _, _, rfl, _⟩ := h; rfl) | (obtain ⟨_, _, _, _, _, _, _, _, _, _, _, _, _, _, _, _, _, _, _, _, _, rfl, _⟩ := h; rfl) | (obtain ⟨_, _, _, _, _, _, _, _, _, _, _, _, _, _, _, _, _, _, _, _, _, _, rfl, _⟩ := h; rfl) | (obtain ⟨_, _, _, _, _, _, _, _, _, _, _, _, _, _, _, _, _, _, _, _, _, _, _, rfl, _⟩ := h; rfl) | (obtain ⟨_, _, _, _, _, _, _, _, _, _, _, _, _, _, _, _, _, _, _, _, _, _, _, _, rfl, _⟩ := h; rfl) | (obtain ⟨_, _, _, _, _, _, _, _, _, _, _, _, _, _, _, _, _, _, _, _, _, _, _, _, _, rfl, _⟩ := h; rfl)) (fun cdv A outer s H vs Q E hr h => ⟨_, d_is_whole_within c_is_whole hr, p_within h⟩)
abbrev s_first_outside : Stmt := top 12
theorem sc_first_outside : FnScope ["values", "least", "greatest", "index", "value"] ["values", "least", "greatest"] (defScope s_first_outside) := ⟨rfl, rfl, rfl, by decide +kernel, rfl, by decide +kernel, by decide +kernel⟩
theorem d_first_outside {P : Program} {w : World} {K : PySem.W.Frag} {mg : Str → Option Value} {base : Heap} {CX : CXT} {f : Addr} {cdv : Value} {A : Around} {outer : List Env} {s : Shared} {H : Hp} {E : XK} (m_enumerate : mg "enumerate" = none) (c_is_whole_within : Cal P w K mg base CX0 2 "is_whole_within" ["value", "least", "greatest"] (spWithin K))
    (hr : Room 2 (A.deeper (envOfC "first_outside" (defScope s_first_outside) s.heap.objs.size f cdv))) :
    PSs (cxOf CX P w K mg base ["values", "least", "greatest", "index", "value"] "first_outside" (defScope s_first_outside) f cdv A outer s H E) (defBody s_first_outside) (t_first_outside K) :=
  (pss_cons (ps_for (passes_of rfl) rfl (pi_enumA (by rfl) m_enumerate (pa_cons (pv 0) pa_nil)) (pg_tup (by rfl) (pgs_cons (pg_name (i := 3) sc_first_outside.nd rfl (by first | exact Or.inl rfl | exact Or.inr rfl)) (pgs_cons (pg_name (i := 4) sc_first_outside.nd rfl (by first | exact Or.inl rfl | exact Or.inr rfl)) pgs_nil))) (pss_one (ps_if (pt_not (pt_val (pe_cal c_is_whole_within (hr.mono (by decide)) rfl pass0 (pa_cons (pv 4) (pa_cons (pv 1) (pa_cons (pv 2) pa_nil)))))) (pss_one (ps_ret (pv 3))) pss_nil)))
    (pss_one (ps_ret pe_non)))
theorem ok_first_outside {P : Program} {w : World} {K : PySem.W.Frag} {mg : Str → Option Value} {base : Heap} {f : Addr} {fd : FuncData} (F : FunD K "first_outside" "first_outside" (defArgs s_first_outside) (defBody s_first_outside) (defScope s_first_outside) [] [] f fd) (m_enumerate : mg "enumerate" = none) (c_is_whole_within : Cal P w K mg base CX0 2 "is_whole_within" ["value", "least", "greatest"] (spWithin K)) : FnOk P w K mg base CX0 3 f fd ["values", "least", "greatest"] (spOutside K) :=
  F.ok sc_first_outside (fun vs H Q E h => by first | (obtain ⟨_, rfl, _⟩ := h; rfl) | (obtain ⟨_, _, rfl, _⟩ := h; rfl) | (obtain ⟨_, _, _, rfl, _⟩ := h; rfl) | (obtain ⟨_, _, _, _, rfl, _⟩ := h; rfl) | (obtain ⟨_, _, _, _, _, rfl, _⟩ := h; rfl) | (obtain ⟨_, _, _, _, _, _, rfl, _⟩ := h; rfl) | (obtain ⟨_, _, _, _, _, _, _, rfl, _⟩ := h; rfl) | (obtain ⟨_, _, _, _, _, _, _, _, rfl, _⟩ := h; rfl) | (obtain ⟨_, _, _, _, _, _, _, _, _, rfl, _⟩ := h; rfl) | (obtain ⟨_, _, _, _, _, _, _, _, _, _, rfl, _⟩ := h; rfl) | (obtain ⟨_, _, _, _, _, _, _, _, _, _, _, rfl, _⟩ := h; rfl) | (obtain ⟨_, _, _, _, _, _, _, _, _, _, _, _, rfl, _⟩ := h; rfl) | (obtain ⟨_, _, _, _, _, _, _, _, _, _, _, _, _, rfl, _⟩ := h; rfl) | (obtain ⟨_, _, _, _, _, _, _, _, _, _, _, _, _, _, rfl, _⟩ := h; rfl) | (obtain ⟨_, _, _, _, _, _, _, _, _, _, _, _, _, _, _, rfl, _⟩ := h; rfl) | (obtain ⟨_, _, _, _, _, _, _, _, _, _, _, _, _, _, _, _, rfl, _⟩ := h; rfl) | (obtain ⟨_, _, _, _, _, _, _, _, _, _, _, _, _, _, _, _, _, rfl, _⟩ := h; rfl) | (obtain ⟨_, _, _, _, _, _, _, _, _, _, _, _, _, _, _, _, _, _, rfl, _⟩ := h; rfl) | (obtain ⟨_, _, _, _, _, _, _, _, _, _, _, _, _, _, _, _, _, _, _, rfl, _⟩ := h; rfl) | (obtain ⟨_, _, _, _, _, _, _, _, _, _, _, _, _, _, _, _, _, _, _, _, rfl, _⟩ := h; rfl) | (obtain ⟨_, _, _, _, _, _, _, _, _, _, _, _, _, _, _, _, _, _, _, _, _, rfl, _⟩ := h; rfl) | (obtain ⟨_, _, _, _, _, _, _, _, _, _, _, _, _, _, _, _, _, _, _, _, _, _, rfl, _⟩ := h; rfl) | (obtain ⟨_, _, _, _, _, _, _, _, _, _, _, _, _, _, _, _, _, _, _, _, _, _, _, rfl, _⟩ := h; rfl) | (obtain ⟨_, _, _, _, _, _, _, _, _, _, _, _, _, _, _, _, _, _, _, _, _, _, _, _, rfl, _⟩ := h; rfl) | (obtain ⟨_, _, _, _, _, _, _, _, _, _, _, _, _, _, _, _, _, _, _, _, _, _, _, _, _, rfl, _⟩ := h; rfl)) (fun cdv A outer s H vs Q E hr h => ⟨_, d_first_outside m_enumerate c_is_whole_within hr, p_outside h⟩)
abbrev s_is_row : Stmt := top 22
theorem sc_is_row : FnScope ["values", "least", "most"] ["values", "least", "most"] (defScope s_is_row) := ⟨rfl, rfl, rfl, by decide +kernel, rfl, by decide +kernel, by decide +kernel⟩
theorem d_is_row {P : Program} {w : World} {K : PySem.W.Frag} {mg : Str → Option Value} {base : Heap} {CX : CXT} {f : Addr} {cdv : Value} {A : Around} {outer : List Env} {s : Shared} {H : Hp} {E : XK} (m_tuple : mg "tuple" = none) (m_list : mg "list" = none) (m_isinstance : mg "isinstance" = none) (m_len : mg "len" = none)
    (hr : Room 0 (A.deeper (envOfC "is_row" (defScope s_is_row) s.heap.objs.size f cdv))) :
    PSs (cxOf CX P w K mg base ["values", "least", "most"] "is_row" (defScope s_is_row) f cdv A outer s H E) (defBody s_is_row) (t_is_row K) :=
  (pss_one (ps_ret (pe_and (pe_callB call_isiT (by rfl) m_isinstance (by decide +kernel) (pa_cons (pv 0) (pa_cons (pe_tup (pa_cons (pe_bltn (by rfl) m_list (by decide +kernel) rfl) (pa_cons (pe_bltn (by rfl) m_tuple (by decide +kernel) rfl) pa_nil))) pa_nil))) (pe_one (pe_chain op_le op_le (pv 1) (pe_callB call_len_seq (by rfl) m_len (by decide +kernel) (pa_cons (pv 0) pa_nil)) (pv 2))))))
theorem ok_is_row {P : Program} {w : World} {K : PySem.W.Frag} {mg : Str → Option Value} {base : Heap} {f : Addr} {fd : FuncData} (F : FunD K "is_row" "is_row" (defArgs s_is_row) (defBody s_is_row) (defScope s_is_row) [] [] f fd) (m_tuple : mg "tuple" = none) (m_list : mg "list" = none) (m_isinstance : mg "isinstance" = none) (m_len : mg "len" = none) : FnOk P w K mg base CX0 1 f fd ["values", "least", "most"] (spRow K) :=
  F.ok sc_is_row (fun vs H Q E h => by first | (obtain ⟨_, rfl, _⟩ := h; rfl) | (obtain ⟨_, _, rfl, _⟩ := h; rfl) | (obtain ⟨_, _, _, rfl, _⟩ := h; rfl) | (obtain ⟨_, _, _, _, rfl, _⟩ := h; rfl) | (obtain ⟨_, _, _, _, _, rfl, _⟩ := h; rfl) | (obtain ⟨_, _, _, _, _, _, rfl, _⟩ := h; rfl) | (obtain ⟨_, _, _, _, _, _, _, rfl, _⟩ := h; rfl) | (obtain ⟨_, _, _, _, _, _, _, _, rfl, _⟩ := h; rfl) | (obtain ⟨_, _, _, _, _, _, _, _, _, rfl, _⟩ := h; rfl) | (obtain ⟨_, _, _, _, _, _, _, _, _, _, rfl, _⟩ := h; rfl) | (obtain ⟨_, _, _, _, _, _, _, _, _, _, _, rfl, _⟩ := h; rfl) | (obtain ⟨_, _, _, _, _, _, _, _, _, _, _, _, rfl, _⟩ := h; rfl) | (obtain ⟨_, _, _, _, _, _, _, _, _, _, _, _, _, rfl, _⟩ := h; rfl) | (obtain ⟨_, _, _, _, _, _, _, _, _, _, _, _, _, _, rfl, _⟩ := h; rfl) | (obtain ⟨_, _, _, _, _, _, _, _, _, _, _, _, _, _, _, rfl, _⟩ := h; rfl) | (obtain ⟨_, _, _, _, _, _, _, _, _, _, _, _, _, _, _, _, rfl, _⟩ := h; rfl) | (obtain ⟨_, _, _, _, _, _, _, _, _, _, _, _, _, _, _, _, _, rfl, _⟩ := h; rfl) | (obtain ⟨_, _, _, _, _, _, _, _, _, _, _, _, _, _, _, _, _, _, rfl, _⟩ := h; rfl) | (obtain ⟨_, _, _, _, _, _, _, _, _, _, _, _, _, _, _, _, _, _, _, rfl, _⟩ := h; rfl) | (obtain ⟨_, _, _, _, _, _, _, _, _, _, _, _, _, _, _, _, _, _, _, _, rfl, _⟩ := h; rfl) | (obtain ⟨_, _, _, _, _, _, _, _, _, _, _, _, _, _, _, _, _, _, _, _, _, rfl, _⟩ := h; rfl) | (obtain ⟨_, _, _, _, _, _, _, _, _, _, _, _, _, _, _, _, _, _, _, _, _, _, rfl, _⟩ := h; rfl) | (obtain ⟨_, _, _, _, _, _, _, _, _, _, _, _, _, _, _, _, _, _, _, _, _, _, _, rfl, _⟩ := h; rfl) | (obtain ⟨_, _, _, _, _, _, _, _, _, _, _, _, _, _, _, _, _, _, _, _, _, _, _, _, rfl, _⟩ := h; rfl) | (obtain ⟨_, _, _, _, _, _, _, _, _, _, _, _, _, _, _, _, _, _, _, _, _, _, _, _, _, rfl, _⟩ := h; rfl)) (fun cdv A outer s H vs Q E hr h => ⟨_, d_is_row m_tuple m_list m_isinstance m_len hr, p_row h⟩)
abbrev s_check_heights : Stmt := top 23
theorem sc_check_heights : FnScope ["heights", "wrong"] ["heights"] (defScope s_check_heights) := ⟨rfl, rfl, rfl, by decide +kernel, rfl, by decide +kernel, by decide +kernel⟩
theorem d_check_heights {P : Program} {w : World} {K : PySem.W.Frag} {mg : Str → Option Value} {base : Heap} {CX : CXT} {f : Addr} {cdv : Value} {A : Around} {outer : List Env} {s : Shared} {H : Hp} {E : XK} (m_MOST_COLUMNS : ∃ u, mg "MOST_COLUMNS" = some (.int 60 u)) (c_is_row : Cal P w K mg base CX0 1 "is_row" ["values", "least", "most"] (spRow K)) (m_GREATEST : ∃ u, mg "GREATEST" = some (.int 1000000000000000000000000000000 u)) (c_first_outside : Cal P w K mg base CX0 3 "first_outside" ["values", "least", "greatest"] (spOutside K))
    (hr : Room 3 (A.deeper (envOfC "check_heights" (defScope s_check_heights) s.heap.objs.size f cdv))) :
    PSs (cxOf CX P w K mg base ["heights", "wrong"] "check_heights" (defScope s_check_heights) f cdv A outer s H E) (defBody s_check_heights) (t_check_heights K) :=
  (pss_cons (ps_if (pt_not (pt_val (pe_cal c_is_row (hr.mono (by decide)) rfl pass0 (pa_cons (pv 0) (pa_cons pe_int (pa_cons (pe_gint m_MOST_COLUMNS rfl) pa_nil)))))) (pss_one ps_never) pss_nil)
    (pss_cons (ps_set (i := 1) sc_check_heights.nd rfl (by first | exact Or.inl rfl | exact Or.inr rfl) (pe_cal c_first_outside (hr.mono (by decide)) rfl pass0 (pa_cons (pv 0) (pa_cons (pe_un un_neg (pe_gint m_GREATEST rfl)) (pa_cons (pe_gint m_GREATEST rfl) pa_nil)))))
    (pss_one (ps_if (pt_cmpR op_notN (pv 1) pe_non (nomark _)) (pss_one ps_never) pss_nil))))
theorem ok_check_heights {P : Program} {w : World} {K : PySem.W.Frag} {mg : Str → Option Value} {base : Heap} {f : Addr} {fd : FuncData} (F : FunD K "check_heights" "check_heights" (defArgs s_check_heights) (defBody s_check_heights) (defScope s_check_heights) [] [] f fd) (m_MOST_COLUMNS : ∃ u, mg "MOST_COLUMNS" = some (.int 60 u)) (c_is_row : Cal P w K mg base CX0 1 "is_row" ["values", "least", "most"] (spRow K)) (m_GREATEST : ∃ u, mg "GREATEST" = some (.int 1000000000000000000000000000000 u)) (c_first_outside : Cal P w K mg base CX0 3 "first_outside" ["values", "least", "greatest"] (spOutside K)) : FnOk P w K mg base CX0 4 f fd ["heights"] (spCheckH K) :=
  F.ok sc_check_heights (fun vs H Q E h => by first | (obtain ⟨_, rfl, _⟩ := h; rfl) | (obtain ⟨_, _, rfl, _⟩ := h; rfl) | (obtain ⟨_, _, _, rfl, _⟩ := h; rfl) | (obtain ⟨_, _, _, _, rfl, _⟩ := h; rfl) | (obtain ⟨_, _, _, _, _, rfl, _⟩ := h; rfl) | (obtain ⟨_, _, _, _, _, _, rfl, _⟩ := h; rfl) | (obtain ⟨_, _, _, _, _, _, _, rfl, _⟩ := h; rfl) | (obtain ⟨_, _, _, _, _, _, _, _, rfl, _⟩ := h; rfl) | (obtain ⟨_, _, _, _, _, _, _, _, _, rfl, _⟩ := h; rfl) | (obtain ⟨_, _, _, _, _, _, _, _, _, _, rfl, _⟩ := h; rfl) | (obtain ⟨_, _, _, _, _, _, _, _, _, _, _, rfl, _⟩ := h; rfl) | (obtain ⟨_, _, _, _, _, _, _, _, _, _, _, _, rfl, _⟩ := h; rfl) | (obtain ⟨_, _, _, _, _, _, _, _, _, _, _, _, _, rfl, _⟩ := h; rfl) | (obtain ⟨_, _, _, _, _, _, _, _, _, _, _, _, _, _, rfl, _⟩ := h; rfl) | (obtain ⟨_, _, _, _, _, _, _, _, _, _, _, _, _, _, _, rfl, _⟩ := h; rfl) | (obtain ⟨_, _, _, _, _, _, _, _, _, _, _, _, _, _, _, _, rfl, _⟩ := h; rfl) | (obtain ⟨_, _, _, _, _, _, _, _, _, _, _, _, _, _, _, _, _, rfl, _⟩ := h; rfl) | (obtain ⟨_, _, _, _, _, _, _, _, _, _, _, _, _, _, _, _, _, _, rfl, _⟩ := h; rfl) | (obtain ⟨_, _, _, _, _, _, _, _, _, _, _, _, _, _, _, _, _, _, _, rfl, _⟩ := h; rfl) | (obtain ⟨_, _, _, _, _, _, _, _, _, _, _, _, _, _, _, _, _, _, _, _, rfl, _⟩ := h; rfl) | (obtain ⟨_, _, _, _, _, _, _, _, _, _, _, _, _, _, _, _, _, _, _, _, _, rfl, _⟩ := h; rfl) | (obtain ⟨_, _, _, _, _, _, _, _, _, _, _, _, _, _, _, _, _, _, _, _, _, _, rfl, _⟩ := h; rfl) | (obtain ⟨_, _, _, _, _, _, _, _, _, _, _, _, _, _, _, _, _, _, _, _, _, _, _, rfl, _⟩ := h; rfl) | (obtain ⟨_, _, _, _, _, _, _, _, _, _, _, _, _, _, _, _, _, _, _, _, _, _, _, _, rfl, _⟩ := h; rfl) | (obtain ⟨_, _, _, _, _, _, _, _, _, _, _, _, _, _, _, _, _, _, _, _, _, _, _, _, _, rfl, _⟩ := h; rfl)) (fun cdv A outer s H vs Q E hr h => ⟨_, d_check_heights m_MOST_COLUMNS c_is_row m_GREATEST c_first_outside hr, p_checkH h⟩)
abbrev s_check_widths : Stmt := top 24
theorem sc_check_widths : FnScope ["widths", "many", "wrong"] ["widths", "many"] (defScope s_check_widths) := ⟨rfl, rfl, rfl, by decide +kernel, rfl, by decide +kernel, by decide +kernel⟩
theorem d_check_widths {P : Program} {w : World} {K : PySem.W.Frag} {mg : Str → Option Value} {base : Heap} {CX : CXT} {f : Addr} {cdv : Value} {A : Around} {outer : List Env} {s : Shared} {H : Hp} {E : XK} (c_is_row : Cal P w K mg base CX0 1 "is_row" ["values", "least", "most"] (spRow K)) (m_GREATEST : ∃ u, mg "GREATEST" = some (.int 1000000000000000000000000000000 u)) (c_first_outside : Cal P w K mg base CX0 3 "first_outside" ["values", "least", "greatest"] (spOutside K))
    (hr : Room 3 (A.deeper (envOfC "check_widths" (defScope s_check_widths) s.heap.objs.size f cdv))) :
    PSs (cxOf CX P w K mg base ["widths", "many", "wrong"] "check_widths" (defScope s_check_widths) f cdv A outer s H E) (defBody s_check_widths) (t_check_widths K) :=
  (pss_cons (ps_if (pt_not (pt_val (pe_cal c_is_row (hr.mono (by decide)) rfl pass0 (pa_cons (pv 0) (pa_cons (pv 1) (pa_cons (pv 1) pa_nil)))))) (pss_one ps_never) pss_nil)
    (pss_cons (ps_set (i := 2) sc_check_widths.nd rfl (by first | exact Or.inl rfl | exact Or.inr rfl) (pe_cal c_first_outside (hr.mono (by decide)) rfl pass0 (pa_cons (pv 0) (pa_cons pe_int (pa_cons (pe_gint m_GREATEST rfl) pa_nil)))))
    (pss_one (ps_if (pt_cmpR op_notN (pv 2) pe_non (nomark _)) (pss_one ps_never) pss_nil))))
theorem ok_check_widths {P : Program} {w : World} {K : PySem.W.Frag} {mg : Str → Option Value} {base : Heap} {f : Addr} {fd : FuncData} (F : FunD K "check_widths" "check_widths" (defArgs s_check_widths) (defBody s_check_widths) (defScope s_check_widths) [] [] f fd) (c_is_row : Cal P w K mg base CX0 1 "is_row" ["values", "least", "most"] (spRow K)) (m_GREATEST : ∃ u, mg "GREATEST" = some (.int 1000000000000000000000000000000 u)) (c_first_outside : Cal P w K mg base CX0 3 "first_outside" ["values", "least", "greatest"] (spOutside K)) : FnOk P w K mg base CX0 4 f fd ["widths", "many"] (spCheckW K) :=
  F.ok sc_check_widths (fun vs H Q E h => by first | (obtain ⟨_, rfl, _⟩ := h; rfl) | (obtain ⟨_, _, rfl, _⟩ := h; rfl) | (obtain ⟨_, _, _, rfl, _⟩ := h; rfl) | (obtain ⟨_, _, _, _, rfl, _⟩ := h; rfl) | (obtain ⟨_, _, _, _, _, rfl, _⟩ := h; rfl) | (obtain ⟨_, _, _, _, _, _, rfl, _⟩ := h; rfl) | (obtain ⟨_, _, _, _, _, _, _, rfl, _⟩ := h; rfl) | (obtain ⟨_, _, _, _, _, _, _, _, rfl, _⟩ := h; rfl) | (obtain ⟨_, _, _, _, _, _, _, _, _, rfl, _⟩ := h; rfl) | (obtain ⟨_, _, _, _, _, _, _, _, _, _, rfl, _⟩ := h; rfl) | (obtain ⟨_, _, _, _, _, _, _, _, _, _, _, rfl, _⟩ := h; rfl) | (obtain ⟨_, _, _, _, _, _, _, _, _, _, _, _, rfl, _⟩ := h; rfl) | (obtain ⟨_, _, _, _, _, _, _, _, _, _, _, _, _, rfl, _⟩ := h; rfl) | (obtain ⟨_, _, _, _, _, _, _, _, _, _, _, _, _, _, rfl, _⟩ := h; rfl) | (obtain ⟨_, _, _, _, _, _, _, _, _, _, _, _, _, _, _, rfl, _⟩ := h; rfl) | (obtain ⟨_, _, _, _, _, _, _, _, _, _, _, _, _, _, _, _, rfl, _⟩ := h; rfl) | (obtain ⟨_, _, _, _, _, _, _, _, _, _, _, _, _, _, _, _, _, rfl, _⟩ := h; rfl) | (obtain ⟨_, _, _, _, _, _, _, _, _, _, _, _, _, _, _, _, _, _, rfl, _⟩ := h; rfl) | (obtain ⟨_, _, _, _, _, _, _, _, _, _, _, _, _, _, _, _, _, _, _, rfl, _⟩ := h; rfl) | (obtain ⟨_, _, _, _, _, _, _, _, _, _, _, _, _, _, _, _, _, _, _, _, rfl, _⟩ := h; rfl) | (obtain ⟨_, _, _, _, _, _, _, _, _, _, _, _, _, _, _, _, _, _, _, _, _, rfl, _⟩ := h; rfl) | (obtain ⟨_, _, _, _, _, _, _, _, _, _, _, _, _, _, _, _, _, _, _, _, _, _, rfl, _⟩ := h; rfl) | (obtain ⟨_, _, _, _, _, _, _, _, _, _, _, _, _, _, _, _, _, _, _, _, _, _, _, rfl, _⟩ := h; rfl) | (obtain ⟨_, _, _, _, _, _, _, _, _, _, _, _, _, _, _, _, _, _, _, _, _, _, _, _, rfl, _⟩ := h; rfl) | (obtain ⟨_, _, _, _, _, _, _, _, _, _, _, _, _, _, _, _, _, _, _, _, _, _, _, _, _, rfl, _⟩ := h; rfl)) (fun cdv A outer s H vs Q E hr h => ⟨_, d_check_widths c_is_row m_GREATEST c_first_outside hr, p_checkW h⟩)
abbrev s_Profile___init__ : Stmt := inClass (top 25) 0
theorem sc_Profile___init__ : FnScope ["self", "heights", "widths"] ["self", "heights", "widths"] (defScope s_Profile___init__) := ⟨rfl, rfl, rfl, by decide +kernel, rfl, by decide +kernel, by decide +kernel⟩
theorem d_Profile___init__ {P : Program} {w : World} {K : PySem.W.Frag} {mg : Str → Option Value} {base : Heap} {C_Profile : Addr} {CX : CXT} {f : Addr} {cdv : Value} {A : Around} {outer : List Env} {s : Shared} {H : Hp} {E : XK} (c_check_heights : Cal P w K mg base CX0 4 "check_heights" ["heights"] (spCheckH K)) (m_len : mg "len" = none) (c_check_widths : Cal P w K mg base CX0 4 "check_widths" ["widths", "many"] (spCheckW K)) (m_tuple : mg "tuple" = none)
    (hr : Room 4 (A.deeper (envOfC "Profile.__init__" (defScope s_Profile___init__) s.heap.objs.size f cdv))) :
    PSs (cxOf CX P w K mg base ["self", "heights", "widths"] "Profile.__init__" (defScope s_Profile___init__) f cdv A outer s H E) (defBody s_Profile___init__) (t_Profile___init__ K C_Profile) :=
  (pss_cons (ps_expr (pe_cal c_check_heights (hr.mono (by decide)) rfl pass0 (pa_cons (pv 1) pa_nil)))
    (pss_cons (ps_if (pt_cmpR op_isN (pv 2) pe_non (nomark _)) (pss_one (ps_set (i := 2) sc_Profile___init__.nd rfl (by first | exact Or.inl rfl | exact Or.inr rfl) (pe_op op_rep (pe_lst (pa_cons pe_int pa_nil)) (pe_callB call_len_seq (by rfl) m_len (by decide +kernel) (pa_cons (pv 1) pa_nil))))) pss_nil)
    (pss_cons (ps_expr (pe_cal c_check_widths (hr.mono (by decide)) rfl pass0 (pa_cons (pv 2) (pa_cons (pe_callB call_len_seq (by rfl) m_len (by decide +kernel) (pa_cons (pv 1) pa_nil)) pa_nil))))
    (pss_cons (ps_fld (pv 0) (pe_callTy call_tuple_of (by rfl) m_tuple (by decide +kernel) (pa_cons (pv 1) pa_nil)) rfl)
    (pss_one (ps_fld (pv 0) (pe_callTy call_tuple_of (by rfl) m_tuple (by decide +kernel) (pa_cons (pv 2) pa_nil)) rfl))))))
theorem ok_Profile___init__ {P : Program} {w : World} {K : PySem.W.Frag} {mg : Str → Option Value} {base : Heap} {C_Profile : Addr} {f : Addr} {fd : FuncData} (F : FunD K "__init__" "Profile.__init__" (defArgs s_Profile___init__) (defBody s_Profile___init__) (defScope s_Profile___init__) [.non] [] f fd) (c_check_heights : Cal P w K mg base CX0 4 "check_heights" ["heights"] (spCheckH K)) (m_len : mg "len" = none) (c_check_widths : Cal P w K mg base CX0 4 "check_widths" ["widths", "many"] (spCheckW K)) (m_tuple : mg "tuple" = none) : FnOk P w K mg base CX0 5 f fd ["self", "heights", "widths"] (spInit K C_Profile) :=
  F.ok sc_Profile___init__ (fun vs H Q E h => by first | (obtain ⟨_, rfl, _⟩ := h; rfl) | (obtain ⟨_, _, rfl, _⟩ := h; rfl) | (obtain ⟨_, _, _, rfl, _⟩ := h; rfl) | (obtain ⟨_, _, _, _, rfl, _⟩ := h; rfl) | (obtain ⟨_, _, _, _, _, rfl, _⟩ := h; rfl) | (obtain ⟨_, _, _, _, _, _, rfl, _⟩ := h; rfl) | (obtain ⟨_, _, _, _, _, _, _, rfl, _⟩ := h; rfl) | (obtain ⟨_, _, _, _, _, _, _, _, rfl, _⟩ := h; rfl) | (obtain ⟨_, _, _, _, _, _, _, _, _, rfl, _⟩ := h; rfl) | (obtain ⟨_, _, _, _, _, _, _, _, _, _, rfl, _⟩ := h; rfl) | (obtain ⟨_, _, _, _, _, _, _, _, _, _, _, rfl, _⟩ := h; rfl) | (obtain ⟨_, _, _, _, _, _, _, _, _, _, _, _, rfl, _⟩ := h; rfl) | (obtain ⟨_, _, _, _, _, _, _, _, _, _, _, _, _, rfl, _⟩ := h; rfl) | (obtain ⟨_, _, _, _, _, _, _, _, _, _, _, _, _, _, rfl, _⟩ := h; rfl) | (obtain ⟨_, _, _, _, _, _, _, _, _, _, _, _, _, _, _, rfl, _⟩ := h; rfl) | (obtain ⟨_, _, _, _, _, _, _, _, _, _, _, _, _, _, _, _, rfl, _⟩ := h; rfl) | (obtain ⟨_, _, _, _, _, _, _, _, _, _, _, _, _, _, _, _, _, rfl, _⟩ := h; rfl) | (obtain ⟨_, _, _, _, _, _, _, _, _, _, _, _, _, _, _, _, _, _, rfl, _⟩ := h; rfl) | (obtain ⟨_, _, _, _, _, _, _, _, _, _, _, _, _, _, _, _, _, _, _, rfl, _⟩ := h; rfl) | (obtain ⟨_, _, _, _, _, _, _, _, _, _, _, _, _, _, _, _, _, _, _, _, rfl, _⟩ := h; rfl) | (obtain ⟨_, _, _, _, _, _, _, _, _, _, _, _, _, _, _, _, _, _, _, _, _, rfl, _⟩ := h; rfl) | (obtain ⟨_, _, _, _, _, _, _, _, _, _, _, _, _, _, _, _, _, _, _, _, _, _, rfl, _⟩ := h; rfl) | (obtain ⟨_, _, _, _, _, _, _, _, _, _, _, _, _, _, _, _, _, _, _, _, _, _, _, rfl, _⟩ := h; rfl) | (obtain ⟨_, _, _, _, _, _, _, _, _, _, _, _, _, _, _, _, _, _, _, _, _, _, _, _, rfl, _⟩ := h; rfl) | (obtain ⟨_, _, _, _, _, _, _, _, _, _, _, _, _, _, _, _, _, _, _, _, _, _, _, _, _, rfl, _⟩ := h; rfl)) (fun cdv A outer s H vs Q E hr h => ⟨_, d_Profile___init__ c_check_heights m_len c_check_widths m_tuple hr, p_init h⟩)
abbrev s_stretches : Stmt := top 14
theorem sc_stretches : FnScope ["heights", "runs", "first", "column"] ["heights"] (defScope s_stretches) := ⟨rfl, rfl, rfl, by decide +kernel, rfl, by decide +kernel, by decide +kernel⟩
theorem d_stretches {P : Program} {w : World} {K : PySem.W.Frag} {mg : Str → Option Value} {base : Heap} {CX : CXT} {f : Addr} {cdv : Value} {A : Around} {outer : List Env} {s : Shared} {H : Hp} {E : XK} (m_len : mg "len" = none) (m_range : mg "range" = none)
    (hr : Room 0 (A.deeper (envOfC "stretches" (defScope s_stretches) s.heap.objs.size f cdv))) :
    PSs (cxOf CX P w K mg base ["heights", "runs", "first", "column"] "stretches" (defScope s_stretches) f cdv A outer s H E) (defBody s_stretches) (t_stretches K) :=
  (pss_cons (ps_set (i := 1) sc_stretches.nd rfl (by first | exact Or.inl rfl | exact Or.inr rfl) (pe_lst pa_nil))
    (pss_cons (ps_set (i := 2) sc_stretches.nd rfl (by first | exact Or.inl rfl | exact Or.inr rfl) pe_int)
    (pss_cons (ps_for (passes_of rfl) rfl (pi_range1 rfl m_range (pa_cons (pe_callB call_len_seq (by rfl) m_len (by decide +kernel) (pa_cons (pv 0) pa_nil)) pa_nil)) (pg_name (i := 3) sc_stretches.nd rfl (by first | exact Or.inl rfl | exact Or.inr rfl)) (pss_one (ps_if (PW.pt (pw_or (pt_cmpR op_eq (pe_op op_add (pv 3) pe_int) (pe_callB call_len_seq (by rfl) m_len (by decide +kernel) (pa_cons (pv 0) pa_nil)) (nomark _)) (pw_or1 (pt_cmpR op_ne (pe_ix ix_tup (pv 0) (pe_op op_add (pv 3) pe_int) (fun _ _ => rfl)) (pe_ix ix_tup (pv 0) (pv 3) (fun _ _ => rfl)) (nomark _))))) (pss_cons (ps_expr (pe_bm PySem.F.plainAttrs_list PySem.F.slot_list_append PySem.F.type_list_append mt_append (pv 1) (pa_cons (pe_tup (pa_cons (pv 2) (pa_cons (pv 3) pa_nil))) pa_nil)))
    (pss_one (ps_set (i := 2) sc_stretches.nd rfl (by first | exact Or.inl rfl | exact Or.inr rfl) (pe_op op_add (pv 3) pe_int)))) pss_nil)))
    (pss_one (ps_ret (pv 1))))))
theorem ok_stretches {P : Program} {w : World} {K : PySem.W.Frag} {mg : Str → Option Value} {base : Heap} {f : Addr} {fd : FuncData} (F : FunD K "stretches" "stretches" (defArgs s_stretches) (defBody s_stretches) (defScope s_stretches) [] [] f fd) (m_len : mg "len" = none) (m_range : mg "range" = none) : FnOk P w K mg base CX0 1 f fd ["heights"] (spStretches K) :=
  F.ok sc_stretches (fun vs H Q E h => by first | (obtain ⟨_, rfl, _⟩ := h; rfl) | (obtain ⟨_, _, rfl, _⟩ := h; rfl) | (obtain ⟨_, _, _, rfl, _⟩ := h; rfl) | (obtain ⟨_, _, _, _, rfl, _⟩ := h; rfl) | (obtain ⟨_, _, _, _, _, rfl, _⟩ := h; rfl) | (obtain ⟨_, _, _, _, _, _, rfl, _⟩ := h; rfl) | (obtain ⟨_, _, _, _, _, _, _, rfl, _⟩ := h; rfl) | (obtain ⟨_, _, _, _, _, _, _, _, rfl, _⟩ := h; rfl) | (obtain ⟨_, _, _, _, _, _, _, _, _, rfl, _⟩ := h; rfl) | (obtain ⟨_, _, _, _, _, _, _, _, _, _, rfl, _⟩ := h; rfl) | (obtain ⟨_, _, _, _, _, _, _, _, _, _, _, rfl, _⟩ := h; rfl) | (obtain ⟨_, _, _, _, _, _, _, _, _, _, _, _, rfl, _⟩ := h; rfl) | (obtain ⟨_, _, _, _, _, _, _, _, _, _, _, _, _, rfl, _⟩ := h; rfl) | (obtain ⟨_, _, _, _, _, _, _, _, _, _, _, _, _, _, rfl, _⟩ := h; rfl) | (obtain ⟨_, _, _, _, _, _, _, _, _, _, _, _, _, _, _, rfl, _⟩ := h; rfl) | (obtain ⟨_, _, _, _, _, _, _, _, _, _, _, _, _, _, _, _, rfl, _⟩ := h; rfl) | (obtain ⟨_, _, _, _, _, _, _, _, _, _, _, _, _, _, _, _, _, rfl, _⟩ := h; rfl) | (obtain ⟨_, _, _, _, _, _, _, _, _, _, _, _, _, _, _, _, _, _, rfl, _⟩ := h; rfl) | (obtain ⟨_, _, _, _, _, _, _, _, _, _, _, _, _, _, _, _, _, _, _, rfl, _⟩ := h; rfl) | (obtain ⟨_, _, _, _, _, _, _, _, _, _, _, _, _, _, _, _, _, _, _, _, rfl, _⟩ := h; rfl) | (obtain ⟨_, _, _, _, _, _, _, _, _, _, _, _, _, _, _, _, _, _, _, _, _, rfl, _⟩ := h; rfl) | (obtain ⟨_, _, _, _, _, _, _, _, _, _, _, _, _, _, _, _, _, _, _, _, _, _, rfl, _⟩ := h; rfl) | (obtain ⟨_, _, _, _, _, _, _, _, _, _, _, _, _, _, _, _, _, _, _, _, _, _, _, rfl, _⟩ := h; rfl) | (obtain ⟨_, _, _, _, _, _, _, _, _, _, _, _, _, _, _, _, _, _, _, _, _, _, _, _, rfl, _⟩ := h; rfl) | (obtain ⟨_, _, _, _, _, _, _, _, _, _, _, _, _, _, _, _, _, _, _, _, _, _, _, _, _, rfl, _⟩ := h; rfl)) (fun cdv A outer s H vs Q E hr h => ⟨_, d_stretches m_len m_range hr, p_stretches h⟩)
abbrev s_is_peak : Stmt := top 15
theorem sc_is_peak : FnScope ["heights", "first", "last", "left_is_lower", "right_is_lower"] ["heights", "first", "last"] (defScope s_is_peak) := ⟨rfl, rfl, rfl, by decide +kernel, rfl, by decide +kernel, by decide +kernel⟩
theorem d_is_peak {P : Program} {w : World} {K : PySem.W.Frag} {mg : Str → Option Value} {base : Heap} {CX : CXT} {f : Addr} {cdv : Value} {A : Around} {outer : List Env} {s : Shared} {H : Hp} {E : XK} (m_len : mg "len" = none)
    (hr : Room 0 (A.deeper (envOfC "is_peak" (defScope s_is_peak) s.heap.objs.size f cdv))) :
    PSs (cxOf CX P w K mg base ["heights", "first", "last", "left_is_lower", "right_is_lower"] "is_peak" (defScope s_is_peak) f cdv A outer s H E) (defBody s_is_peak) (t_is_peak K) :=
  (pss_cons (ps_set (i := 3) sc_is_peak.nd rfl (by first | exact Or.inl rfl | exact Or.inr rfl) (pe_or (pe_cmpR op_eq (pv 1) pe_int (nomark _)) (pe_one (pe_cmpR op_lt (pe_ix ix_tup (pv 0) (pe_op op_sub (pv 1) pe_int) (fun _ _ => rfl)) (pe_ix ix_tup (pv 0) (pv 1) (fun _ _ => rfl)) (nomark _)))))
    (pss_cons (ps_set (i := 4) sc_is_peak.nd rfl (by first | exact Or.inl rfl | exact Or.inr rfl) (pe_or (pe_cmpR op_eq (pe_op op_add (pv 2) pe_int) (pe_callB call_len_seq (by rfl) m_len (by decide +kernel) (pa_cons (pv 0) pa_nil)) (nomark _)) (pe_one (pe_cmpR op_lt (pe_ix ix_tup (pv 0) (pe_op op_add (pv 2) pe_int) (fun _ _ => rfl)) (pe_ix ix_tup (pv 0) (pv 2) (fun _ _ => rfl)) (nomark _)))))
    (pss_one (ps_ret (pe_and (pv 3) (pe_one (pv 4)))))))
theorem ok_is_peak {P : Program} {w : World} {K : PySem.W.Frag} {mg : Str → Option Value} {base : Heap} {f : Addr} {fd : FuncData} (F : FunD K "is_peak" "is_peak" (defArgs s_is_peak) (defBody s_is_peak) (defScope s_is_peak) [] [] f fd) (m_len : mg "len" = none) : FnOk P w K mg base CX0 1 f fd ["heights", "first", "last"] (spIsPeak K) :=
  F.ok sc_is_peak (fun vs H Q E h => by first | (obtain ⟨_, rfl, _⟩ := h; rfl) | (obtain ⟨_, _, rfl, _⟩ := h; rfl) | (obtain ⟨_, _, _, rfl, _⟩ := h; rfl) | (obtain ⟨_, _, _, _, rfl, _⟩ := h; rfl) | (obtain ⟨_, _, _, _, _, rfl, _⟩ := h; rfl) | (obtain ⟨_, _, _, _, _, _, rfl, _⟩ := h; rfl) | (obtain ⟨_, _, _, _, _, _, _, rfl, _⟩ := h; rfl) | (obtain ⟨_, _, _, _, _, _, _, _, rfl, _⟩ := h; rfl) | (obtain ⟨_, _, _, _, _, _, _, _, _, rfl, _⟩ := h; rfl) | (obtain ⟨_, _, _, _, _, _, _, _, _, _, rfl, _⟩ := h; rfl) | (obtain ⟨_, _, _, _, _, _, _, _, _, _, _, rfl, _⟩ := h; rfl) | (obtain ⟨_, _, _, _, _, _, _, _, _, _, _, _, rfl, _⟩ := h; rfl) | (obtain ⟨_, _, _, _, _, _, _, _, _, _, _, _, _, rfl, _⟩ := h; rfl) | (obtain ⟨_, _, _, _, _, _, _, _, _, _, _, _, _, _, rfl, _⟩ := h; rfl) | (obtain ⟨_, _, _, _, _, _, _, _, _, _, _, _, _, _, _, rfl, _⟩ := h; rfl) | (obtain ⟨_, _, _, _, _, _, _, _, _, _, _, _, _, _, _, _, rfl, _⟩ := h; rfl) | (obtain ⟨_, _, _, _, _, _, _, _, _, _, _, _, _, _, _, _, _, rfl, _⟩ := h; rfl) | (obtain ⟨_, _, _, _, _, _, _, _, _, _, _, _, _, _, _, _, _, _, rfl, _⟩ := h; rfl) | (obtain ⟨_, _, _, _, _, _, _, _, _, _, _, _, _, _, _, _, _, _, _, rfl, _⟩ := h; rfl) | (obtain ⟨_, _, _, _, _, _, _, _, _, _, _, _, _, _, _, _, _, _, _, _, rfl, _⟩ := h; rfl) | (obtain ⟨_, _, _, _, _, _, _, _, _, _, _, _, _, _, _, _, _, _, _, _, _, rfl, _⟩ := h; rfl) | (obtain ⟨_, _, _, _, _, _, _, _, _, _, _, _, _, _, _, _, _, _, _, _, _, _, rfl, _⟩ := h; rfl) | (obtain ⟨_, _, _, _, _, _, _, _, _, _, _, _, _, _, _, _, _, _, _, _, _, _, _, rfl, _⟩ := h; rfl) | (obtain ⟨_, _, _, _, _, _, _, _, _, _, _, _, _, _, _, _, _, _, _, _, _, _, _, _, rfl, _⟩ := h; rfl) | (obtain ⟨_, _, _, _, _, _, _, _, _, _, _, _, _, _, _, _, _, _, _, _, _, _, _, _, _, rfl, _⟩ := h; rfl)) (fun cdv A outer s H vs Q E hr h => ⟨_, d_is_peak m_len hr, p_isPeak h⟩)
abbrev s_peaks : Stmt := top 16
theorem sc_peaks : FnScope ["profile", "heights", "first", "last"] ["profile"] (defScope s_peaks) := ⟨rfl, rfl, rfl, by decide +kernel, rfl, by decide +kernel, by decide +kernel⟩
theorem d_peaks {P : Program} {w : World} {K : PySem.W.Frag} {mg : Str → Option Value} {base : Heap} {C_Profile : Addr} {CX : CXT} {f : Addr} {cdv : Value} {A : Around} {outer : List Env} {s : Shared} {H : Hp} {E : XK} (cp_heights : CalP P w K mg base CX0 1 C_Profile "heights" (getSp C_Profile "column_heights")) (c_stretches : Cal P w K mg base CX0 1 "stretches" ["heights"] (spStretches K)) (c_is_peak : Cal P w K mg base CX0 1 "is_peak" ["heights", "first", "last"] (spIsPeak K))
    (hr : Room 2 (A.deeper (envOfC "peaks" (defScope s_peaks) s.heap.objs.size f cdv))) :
    PSs (cxOf CX P w K mg base ["profile", "heights", "first", "last"] "peaks" (defScope s_peaks) f cdv A outer s H E) (defBody s_peaks) (t_peaks K C_Profile) :=
  (pss_cons (ps_set (i := 1) sc_peaks.nd rfl (by first | exact Or.inl rfl | exact Or.inr rfl) (pe_calp cp_heights (hr.mono (by decide)) pass0 (pv 0) rfl))
    (pss_one (ps_ret (pe_lc (own := [("first", 2), ("last", 3)]) (g := (gTup K 2 (gCons (gName 2) (gCons (gName 3) gNil)))) (tt := (tB (tCall (spIsPeak K) [] E0 (tCons (tVar 1) (tCons (tVar 2) (tCons (tVar 3) tNil)))))) (te := (tTup (tCons (tVar 2) (tCons (tVar 3) tNil)))) rfl sc_peaks.nd (pi_list (pe_cal c_stretches (hr.mono (by decide)) rfl pass0 (pa_cons (pv 1) pa_nil))) (blkOk_by (N := ["profile", "heights", "first", "last"]) (sc := defScope s_peaks) (by decide +kernel)) (fun _ _ _ _ _ => (pg_tup (by rfl) (pgs_cons (pg_name (i := 2) sc_peaks.nd rfl (by first | exact Or.inl rfl | exact Or.inr rfl)) (pgs_cons (pg_name (i := 3) sc_peaks.nd rfl (by first | exact Or.inl rfl | exact Or.inr rfl)) pgs_nil)))) (fun _ _ _ _ _ => (pts_one (pt_val (pe_cal c_is_peak (hr.mono (by decide)) rfl pass0 (pa_cons (pv 1) (pa_cons (pv 2) (pa_cons (pv 3) pa_nil))))))) (fun _ _ _ _ _ => (pe_tup (pa_cons (pv 2) (pa_cons (pv 3) pa_nil))))))))
theorem ok_peaks {P : Program} {w : World} {K : PySem.W.Frag} {mg : Str → Option Value} {base : Heap} {C_Profile : Addr} {f : Addr} {fd : FuncData} (F : FunD K "peaks" "peaks" (defArgs s_peaks) (defBody s_peaks) (defScope s_peaks) [] [] f fd) (cp_heights : CalP P w K mg base CX0 1 C_Profile "heights" (getSp C_Profile "column_heights")) (c_stretches : Cal P w K mg base CX0 1 "stretches" ["heights"] (spStretches K)) (c_is_peak : Cal P w K mg base CX0 1 "is_peak" ["heights", "first", "last"] (spIsPeak K)) : FnOk P w K mg base CX0 3 f fd ["profile"] (spPeaks K C_Profile) :=
  F.ok sc_peaks (fun vs H Q E h => by first | (obtain ⟨_, rfl, _⟩ := h; rfl) | (obtain ⟨_, _, rfl, _⟩ := h; rfl) | (obtain ⟨_, _, _, rfl, _⟩ := h; rfl) | (obtain ⟨_, _, _, _, rfl, _⟩ := h; rfl) | (obtain ⟨_, _, _, _, _, rfl, _⟩ := h; rfl) | (obtain ⟨_, _, _, _, _, _, rfl, _⟩ := h; rfl) | (obtain ⟨_, _, _, _, _, _, _, rfl, _⟩ := h; rfl) | (obtain ⟨_, _, _, _, _, _, _, _, rfl, _⟩ := h; rfl) | (obtain ⟨_, _, _, _, _, _, _, _, _, rfl, _⟩ := h; rfl) | (obtain ⟨_, _, _, _, _, _, _, _, _, _, rfl, _⟩ := h; rfl) | (obtain ⟨_, _, _, _, _, _, _, _, _, _, _, rfl, _⟩ := h; rfl) | (obtain ⟨_, _, _, _, _, _, _, _, _, _, _, _, rfl, _⟩ := h; rfl) | (obtain ⟨_, _, _, _, _, _, _, _, _, _, _, _, _, rfl, _⟩ := h; rfl) | (obtain ⟨_, _, _, _, _, _, _, _, _, _, _, _, _, _, rfl, _⟩ := h; rfl) | (obtain ⟨_, _, _, _, _, _, _, _, _, _, _, _, _, _, _, rfl, _⟩ := h; rfl) | (obtain ⟨_, _, _, _, _, _, _, _, _, _, _, _, _, _, _, _, rfl, _⟩ := h; rfl) | (obtain ⟨_, _, _, _, _, _, _, _, _, _, _, _, _, _, _, _, _, rfl, _⟩ := h; rfl) | (obtain ⟨_, _, _, _, _, _, _, _, _, _, _, _, _, _, _, _, _, _, rfl, _⟩ := h; rfl) | (obtain ⟨_, _, _, _, _, _, _, _, _, _, _, _, _, _, _, _, _, _, _, rfl, _⟩ := h; rfl) | (obtain ⟨_, _, _, _, _, _, _, _, _, _, _, _, _, _, _, _, _, _, _, _, rfl, _⟩ := h; rfl) | (obtain ⟨_, _, _, _, _, _, _, _, _, _, _, _, _, _, _, _, _, _, _, _, _, rfl, _⟩ := h; rfl) | (obtain ⟨_, _, _, _, _, _, _, _, _, _, _, _, _, _, _, _, _, _, _, _, _, _, rfl, _⟩ := h; rfl) | (obtain ⟨_, _, _, _, _, _, _, _, _, _, _, _, _, _, _, _, _, _, _, _, _, _, _, rfl, _⟩ := h; rfl) | (obtain ⟨_, _, _, _, _, _, _, _, _, _, _, _, _, _, _, _, _, _, _, _, _, _, _, _, rfl, _⟩ := h; rfl) | (obtain ⟨_, _, _, _, _, _, _, _, _, _, _, _, _, _, _, _, _, _, _, _, _, _, _, _, _, rfl, _⟩ := h; rfl)) (fun cdv A outer s H vs Q E hr h => ⟨_, d_peaks cp_heights c_stretches c_is_peak hr, p_peaks h⟩)
abbrev s_peak_heights : Stmt := top 17
theorem sc_peak_heights : FnScope ["profile", "first", "last"] ["profile"] (defScope s_peak_heights) := ⟨rfl, rfl, rfl, by decide +kernel, rfl, by decide +kernel, by decide +kernel⟩
theorem d_peak_heights {P : Program} {w : World} {K : PySem.W.Frag} {mg : Str → Option Value} {base : Heap} {C_Profile : Addr} {CX : CXT} {f : Addr} {cdv : Value} {A : Around} {outer : List Env} {s : Shared} {H : Hp} {E : XK} (c_peaks : Cal P w K mg base CX0 3 "peaks" ["profile"] (spPeaks K C_Profile)) (cp_heights : CalP P w K mg base CX0 1 C_Profile "heights" (getSp C_Profile "column_heights"))
    (hr : Room 3 (A.deeper (envOfC "peak_heights" (defScope s_peak_heights) s.heap.objs.size f cdv))) :
    PSs (cxOf CX P w K mg base ["profile", "first", "last"] "peak_heights" (defScope s_peak_heights) f cdv A outer s H E) (defBody s_peak_heights) (t_peak_heights K C_Profile) :=
  (pss_one (ps_ret (pe_lc (own := [("first", 1), ("last", 2)]) (g := (gTup K 2 (gCons (gName 1) (gCons (gName 2) gNil)))) (tt := tYes) (te := (tOp (rIxT K) (tProp C_Profile (getSp C_Profile "column_heights") [] E0 (tVar 0)) (tVar 1))) rfl sc_peak_heights.nd (pi_list (pe_cal c_peaks (hr.mono (by decide)) rfl pass0 (pa_cons (pv 0) pa_nil))) (blkOk_by (N := ["profile", "first", "last"]) (sc := defScope s_peak_heights) (by decide +kernel)) (fun _ _ _ _ _ => (pg_tup (by rfl) (pgs_cons (pg_name (i := 1) sc_peak_heights.nd rfl (by first | exact Or.inl rfl | exact Or.inr rfl)) (pgs_cons (pg_name (i := 2) sc_peak_heights.nd rfl (by first | exact Or.inl rfl | exact Or.inr rfl)) pgs_nil)))) (fun _ _ _ _ _ => pts_nil) (fun _ _ _ _ _ => (pe_ix ix_tup (pe_calp cp_heights (hr.mono (by decide)) pass0 (pv 0) rfl) (pv 1) (fun _ _ => rfl))))))
theorem ok_peak_heights {P : Program} {w : World} {K : PySem.W.Frag} {mg : Str → Option Value} {base : Heap} {C_Profile : Addr} {f : Addr} {fd : FuncData} (F : FunD K "peak_heights" "peak_heights" (defArgs s_peak_heights) (defBody s_peak_heights) (defScope s_peak_heights) [] [] f fd) (c_peaks : Cal P w K mg base CX0 3 "peaks" ["profile"] (spPeaks K C_Profile)) (cp_heights : CalP P w K mg base CX0 1 C_Profile "heights" (getSp C_Profile "column_heights")) : FnOk P w K mg base CX0 4 f fd ["profile"] (spTops K C_Profile) :=
  F.ok sc_peak_heights (fun vs H Q E h => by first | (obtain ⟨_, rfl, _⟩ := h; rfl) | (obtain ⟨_, _, rfl, _⟩ := h; rfl) | (obtain ⟨_, _, _, rfl, _⟩ := h; rfl) | (obtain ⟨_, _, _, _, rfl, _⟩ := h; rfl) | (obtain ⟨_, _, _, _, _, rfl, _⟩ := h; rfl) | (obtain ⟨_, _, _, _, _, _, rfl, _⟩ := h; rfl) | (obtain ⟨_, _, _, _, _, _, _, rfl, _⟩ := h; rfl) | (obtain ⟨_, _, _, _, _, _, _, _, rfl, _⟩ := h; rfl) | (obtain ⟨_, _, _, _, _, _, _, _, _, rfl, _⟩ := h; rfl) | (obtain ⟨_, _, _, _, _, _, _, _, _, _, rfl, _⟩ := h; rfl) | (obtain ⟨_, _, _, _, _, _, _, _, _, _, _, rfl, _⟩ := h; rfl) | (obtain ⟨_, _, _, _, _, _, _, _, _, _, _, _, rfl, _⟩ := h; rfl) | (obtain ⟨_, _, _, _, _, _, _, _, _, _, _, _, _, rfl, _⟩ := h; rfl) | (obtain ⟨_, _, _, _, _, _, _, _, _, _, _, _, _, _, rfl, _⟩ := h; rfl) | (obtain ⟨_, _, _, _, _, _, _, _, _, _, _, _, _, _, _, rfl, _⟩ := h; rfl) | (obtain ⟨_, _, _, _, _, _, _, _, _, _, _, _, _, _, _, _, rfl, _⟩ := h; rfl) | (obtain ⟨_, _, _, _, _, _, _, _, _, _, _, _, _, _, _, _, _, rfl, _⟩ := h; rfl) | (obtain ⟨_, _, _, _, _, _, _, _, _, _, _, _, _, _, _, _, _, _, rfl, _⟩ := h; rfl) | (obtain ⟨_, _, _, _, _, _, _, _, _, _, _, _, _, _, _, _, _, _, _, rfl, _⟩ := h; rfl) | (obtain ⟨_, _, _, _, _, _, _, _, _, _, _, _, _, _, _, _, _, _, _, _, rfl, _⟩ := h; rfl) | (obtain ⟨_, _, _, _, _, _, _, _, _, _, _, _, _, _, _, _, _, _, _, _, _, rfl, _⟩ := h; rfl) | (obtain ⟨_, _, _, _, _, _, _, _, _, _, _, _, _, _, _, _, _, _, _, _, _, _, rfl, _⟩ := h; rfl) | (obtain ⟨_, _, _, _, _, _, _, _, _, _, _, _, _, _, _, _, _, _, _, _, _, _, _, rfl, _⟩ := h; rfl) | (obtain ⟨_, _, _, _, _, _, _, _, _, _, _, _, _, _, _, _, _, _, _, _, _, _, _, _, rfl, _⟩ := h; rfl) | (obtain ⟨_, _, _, _, _, _, _, _, _, _, _, _, _, _, _, _, _, _, _, _, _, _, _, _, _, rfl, _⟩ := h; rfl)) (fun cdv A outer s H vs Q E hr h => ⟨_, d_peak_heights c_peaks cp_heights hr, p_tops h⟩)
abbrev s_rims : Stmt := top 18
theorem sc_rims : FnScope ["profile", "valley", "tops"] ["profile", "valley"] (defScope s_rims) := ⟨rfl, rfl, rfl, by decide +kernel, rfl, by decide +kernel, by decide +kernel⟩
theorem d_rims {P : Program} {w : World} {K : PySem.W.Frag} {mg : Str → Option Value} {base : Heap} {C_Profile : Addr} {C_InvalidValley : Addr} {f : Addr} {cdv : Value} {A : Around} {outer : List Env} {s : Shared} {H : Hp} {E : XK} (c_peak_heights : Cal P w K mg base CX0 4 "peak_heights" ["profile"] (spTops K C_Profile)) (m_len : mg "len" = none) (c_is_whole_within : Cal P w K mg base CX0 2 "is_whole_within" ["value", "least", "greatest"] (spWithin K)) (cx_InvalidValley : CalX P w K mg base CX0 1 "InvalidValley" C_InvalidValley ["self", "value"] (spExc K C_InvalidValley "IndexError" "IndexError.__new__" "IndexError.__init__" bm_IndexError "value") [] "IndexError" "IndexError.__new__" "IndexError.__init__" bm_IndexError)
    (hr : Room 5 (A.deeper (envOfC "rims" (defScope s_rims) s.heap.objs.size f cdv))) :
    PSs (cxOf (L2.CX P w) P w K mg base ["profile", "valley", "tops"] "rims" (defScope s_rims) f cdv A outer s H E) (defBody s_rims) (t_rims K C_Profile C_InvalidValley E) :=
  (pss_cons (ps_set (i := 2) sc_rims.nd rfl (by first | exact Or.inl rfl | exact Or.inr rfl) (pe_cal c_peak_heights (hr.mono (by decide)) rfl pass0 (pa_cons (pv 0) pa_nil)))
    (pss_cons (ps_if (pt_not (pt_val (pe_cal c_is_whole_within (hr.mono (by decide)) rfl pass0 (pa_cons (pv 1) (pa_cons pe_int (pa_cons (pe_op op_sub (pe_callB call_len_seq (by rfl) m_len (by decide +kernel) (pa_cons (pv 2) pa_nil)) pe_int) pa_nil)))))) (pss_one (ps_raiseE (pmk_cal cx_InvalidValley (hr.mono (by decide)) pass0 (by rfl) (pa_cons (pv 1) pa_nil)) (takes_of rfl rfl rfl rfl))) pss_nil)
    (pss_one (ps_ret (pe_tup (pa_cons (pe_ix ix_list (pv 2) (pv 1) (fun _ _ => rfl)) (pa_cons (pe_ix ix_list (pv 2) (pe_op op_add (pv 1) pe_int) (fun _ _ => rfl)) pa_nil)))))))
theorem ok_rims {P : Program} {w : World} {K : PySem.W.Frag} {mg : Str → Option Value} {base : Heap} {C_Profile : Addr} {C_InvalidValley : Addr} {f : Addr} {fd : FuncData} (F : FunD K "rims" "rims" (defArgs s_rims) (defBody s_rims) (defScope s_rims) [] [] f fd) (c_peak_heights : Cal P w K mg base CX0 4 "peak_heights" ["profile"] (spTops K C_Profile)) (m_len : mg "len" = none) (c_is_whole_within : Cal P w K mg base CX0 2 "is_whole_within" ["value", "least", "greatest"] (spWithin K)) (cx_InvalidValley : CalX P w K mg base CX0 1 "InvalidValley" C_InvalidValley ["self", "value"] (spExc K C_InvalidValley "IndexError" "IndexError.__new__" "IndexError.__init__" bm_IndexError "value") [] "IndexError" "IndexError.__new__" "IndexError.__init__" bm_IndexError) : FnOk P w K mg base (L2.CX P w) 6 f fd ["profile", "valley"] (spRims K C_Profile C_InvalidValley) :=
  F.ok sc_rims (fun vs H Q E h => by first | (obtain ⟨_, rfl, _⟩ := h; rfl) | (obtain ⟨_, _, rfl, _⟩ := h; rfl) | (obtain ⟨_, _, _, rfl, _⟩ := h; rfl) | (obtain ⟨_, _, _, _, rfl, _⟩ := h; rfl) | (obtain ⟨_, _, _, _, _, rfl, _⟩ := h; rfl) | (obtain ⟨_, _, _, _, _, _, rfl, _⟩ := h; rfl) | (obtain ⟨_, _, _, _, _, _, _, rfl, _⟩ := h; rfl) | (obtain ⟨_, _, _, _, _, _, _, _, rfl, _⟩ := h; rfl) | (obtain ⟨_, _, _, _, _, _, _, _, _, rfl, _⟩ := h; rfl) | (obtain ⟨_, _, _, _, _, _, _, _, _, _, rfl, _⟩ := h; rfl) | (obtain ⟨_, _, _, _, _, _, _, _, _, _, _, rfl, _⟩ := h; rfl) | (obtain ⟨_, _, _, _, _, _, _, _, _, _, _, _, rfl, _⟩ := h; rfl) | (obtain ⟨_, _, _, _, _, _, _, _, _, _, _, _, _, rfl, _⟩ := h; rfl) | (obtain ⟨_, _, _, _, _, _, _, _, _, _, _, _, _, _, rfl, _⟩ := h; rfl) | (obtain ⟨_, _, _, _, _, _, _, _, _, _, _, _, _, _, _, rfl, _⟩ := h; rfl) | (obtain ⟨_, _, _, _, _, _, _, _, _, _, _, _, _, _, _, _, rfl, _⟩ := h; rfl) | (obtain ⟨_, _, _, _, _, _, _, _, _, _, _, _, _, _, _, _, _, rfl, _⟩ := h; rfl) | (obtain ⟨_, _, _, _, _, _, _, _, _, _, _, _, _, _, _, _, _, _, rfl, _⟩ := h; rfl) | (obtain ⟨_, _, _, _, _, _, _, _, _, _, _, _, _, _, _, _, _, _, _, rfl, _⟩ := h; rfl) | (obtain ⟨_, _, _, _, _, _, _, _, _, _, _, _, _, _, _, _, _, _, _, _, rfl, _⟩ := h; rfl) | (obtain ⟨_, _, _, _, _, _, _, _, _, _, _, _, _, _, _, _, _, _, _, _, _, rfl, _⟩ := h; rfl) | (obtain ⟨_, _, _, _, _, _, _, _, _, _, _, _, _, _, _, _, _, _, _, _, _, _, rfl, _⟩ := h; rfl) | (obtain ⟨_, _, _, _, _, _, _, _, _, _, _, _, _, _, _, _, _, _, _, _, _, _, _, rfl, _⟩ := h; rfl) | (obtain ⟨_, _, _, _, _, _, _, _, _, _, _, _, _, _, _, _, _, _, _, _, _, _, _, _, rfl, _⟩ := h; rfl) | (obtain ⟨_, _, _, _, _, _, _, _, _, _, _, _, _, _, _, _, _, _, _, _, _, _, _, _, _, rfl, _⟩ := h; rfl)) (fun cdv A outer s H vs Q E hr h => ⟨_, d_rims c_peak_heights m_len c_is_whole_within cx_InvalidValley hr, p_rims h⟩)
abbrev s_common_divisor : Stmt := top 27
theorem sc_common_divisor : FnScope ["first", "second"] ["first", "second"] (defScope s_common_divisor) := ⟨rfl, rfl, rfl, by decide +kernel, rfl, by decide +kernel, by decide +kernel⟩
theorem d_common_divisor {P : Program} {w : World} {K : PySem.W.Frag} {mg : Str → Option Value} {base : Heap} {CX : CXT} {f : Addr} {cdv : Value} {A : Around} {outer : List Env} {s : Shared} {H : Hp} {E : XK} 
    (hr : Room 0 (A.deeper (envOfC "common_divisor" (defScope s_common_divisor) s.heap.objs.size f cdv))) :
    PSs (cxOf CX P w K mg base ["first", "second"] "common_divisor" (defScope s_common_divisor) f cdv A outer s H E) (defBody s_common_divisor) (t_common_divisor K) :=
  (pss_cons (ps_while (passes_of rfl) (pt_cmpR op_ne (pv 1) pe_int (nomark _)) (pss_one (ps_par (by rfl) sc_common_divisor.nd rfl rfl (by decide) rfl rfl (pa_cons (pv 1) (pa_cons (pe_op op_mod (pv 0) (pv 1)) pa_nil)) (by rfl))))
    (pss_one (ps_ret (pv 0))))
theorem ok_common_divisor {P : Program} {w : World} {K : PySem.W.Frag} {mg : Str → Option Value} {base : Heap} {f : Addr} {fd : FuncData} (F : FunD K "common_divisor" "common_divisor" (defArgs s_common_divisor) (defBody s_common_divisor) (defScope s_common_divisor) [] [] f fd)  : FnOk P w K mg base CX0 1 f fd ["first", "second"] (spGcd K) :=
  F.ok sc_common_divisor (fun vs H Q E h => by first | (obtain ⟨_, rfl, _⟩ := h; rfl) | (obtain ⟨_, _, rfl, _⟩ := h; rfl) | (obtain ⟨_, _, _, rfl, _⟩ := h; rfl) | (obtain ⟨_, _, _, _, rfl, _⟩ := h; rfl) | (obtain ⟨_, _, _, _, _, rfl, _⟩ := h; rfl) | (obtain ⟨_, _, _, _, _, _, rfl, _⟩ := h; rfl) | (obtain ⟨_, _, _, _, _, _, _, rfl, _⟩ := h; rfl) | (obtain ⟨_, _, _, _, _, _, _, _, rfl, _⟩ := h; rfl) | (obtain ⟨_, _, _, _, _, _, _, _, _, rfl, _⟩ := h; rfl) | (obtain ⟨_, _, _, _, _, _, _, _, _, _, rfl, _⟩ := h; rfl) | (obtain ⟨_, _, _, _, _, _, _, _, _, _, _, rfl, _⟩ := h; rfl) | (obtain ⟨_, _, _, _, _, _, _, _, _, _, _, _, rfl, _⟩ := h; rfl) | (obtain ⟨_, _, _, _, _, _, _, _, _, _, _, _, _, rfl, _⟩ := h; rfl) | (obtain ⟨_, _, _, _, _, _, _, _, _, _, _, _, _, _, rfl, _⟩ := h; rfl) | (obtain ⟨_, _, _, _, _, _, _, _, _, _, _, _, _, _, _, rfl, _⟩ := h; rfl) | (obtain ⟨_, _, _, _, _, _, _, _, _, _, _, _, _, _, _, _, rfl, _⟩ := h; rfl) | (obtain ⟨_, _, _, _, _, _, _, _, _, _, _, _, _, _, _, _, _, rfl, _⟩ := h; rfl) | (obtain ⟨_, _, _, _, _, _, _, _, _, _, _, _, _, _, _, _, _, _, rfl, _⟩ := h; rfl) | (obtain ⟨_, _, _, _, _, _, _, _, _, _, _, _, _, _, _, _, _, _, _, rfl, _⟩ := h; rfl) | (obtain ⟨_, _, _, _, _, _, _, _, _, _, _, _, _, _, _, _, _, _, _, _, rfl, _⟩ := h; rfl) | (obtain ⟨_, _, _, _, _, _, _, _, _, _, _, _, _, _, _, _, _, _, _, _, _, rfl, _⟩ := h; rfl) | (obtain ⟨_, _, _, _, _, _, _, _, _, _, _, _, _, _, _, _, _, _, _, _, _, _, rfl, _⟩ := h; rfl) | (obtain ⟨_, _, _, _, _, _, _, _, _, _, _, _, _, _, _, _, _, _, _, _, _, _, _, rfl, _⟩ := h; rfl) | (obtain ⟨_, _, _, _, _, _, _, _, _, _, _, _, _, _, _, _, _, _, _, _, _, _, _, _, rfl, _⟩ := h; rfl) | (obtain ⟨_, _, _, _, _, _, _, _, _, _, _, _, _, _, _, _, _, _, _, _, _, _, _, _, _, rfl, _⟩ := h; rfl)) (fun cdv A outer s H vs Q E hr h => ⟨_, d_common_divisor  hr, p_gcd h⟩)
abbrev s_Ratio___init__ : Stmt := inClass (top 30) 0
theorem sc_Ratio___init__ : FnScope ["self", "numerator", "denominator", "divisor"] ["self", "numerator", "denominator"] (defScope s_Ratio___init__) := ⟨rfl, rfl, rfl, by decide +kernel, rfl, by decide +kernel, by decide +kernel⟩
theorem d_Ratio___init__ {P : Program} {w : World} {K : PySem.W.Frag} {mg : Str → Option Value} {base : Heap} {C_Ratio : Addr} {CX : CXT} {f : Addr} {cdv : Value} {A : Around} {outer : List Env} {s : Shared} {H : Hp} {E : XK} (c_is_whole : Cal P w K mg base CX0 1 "is_whole" ["value"] (spWhole K)) (m_abs : mg "abs" = none) (c_common_divisor : Cal P w K mg base CX0 1 "common_divisor" ["first", "second"] (spGcd K))
    (hr : Room 1 (A.deeper (envOfC "Ratio.__init__" (defScope s_Ratio___init__) s.heap.objs.size f cdv))) :
    PSs (cxOf CX P w K mg base ["self", "numerator", "denominator", "divisor"] "Ratio.__init__" (defScope s_Ratio___init__) f cdv A outer s H E) (defBody s_Ratio___init__) (t_Ratio___init__ K C_Ratio) :=
  (pss_cons (ps_if (pt_not (pt_val (pe_cal c_is_whole (hr.mono (by decide)) rfl pass0 (pa_cons (pv 1) pa_nil)))) (pss_one ps_never) pss_nil)
    (pss_cons (ps_if (PW.pt (pw_or (pt_not (pt_val (pe_cal c_is_whole (hr.mono (by decide)) rfl pass0 (pa_cons (pv 2) pa_nil)))) (pw_or1 (pt_cmpR op_eq (pv 2) pe_int (nomark _))))) (pss_one ps_never) pss_nil)
    (pss_cons (ps_set (i := 3) sc_Ratio___init__.nd rfl (by first | exact Or.inl rfl | exact Or.inr rfl) (pe_cal c_common_divisor (hr.mono (by decide)) rfl pass0 (pa_cons (pe_callB call_abs (by rfl) m_abs (by decide +kernel) (pa_cons (pv 1) pa_nil)) (pa_cons (pe_callB call_abs (by rfl) m_abs (by decide +kernel) (pa_cons (pv 2) pa_nil)) pa_nil))))
    (pss_cons (ps_if (pt_cmpR op_lt (pv 2) pe_int (nomark _)) (pss_one (ps_set (i := 3) sc_Ratio___init__.nd rfl (by first | exact Or.inl rfl | exact Or.inr rfl) (pe_un un_neg (pv 3)))) pss_nil)
    (pss_cons (ps_fld (pv 0) (pe_op op_fdivW (pv 1) (pv 3)) rfl)
    (pss_one (ps_fld (pv 0) (pe_op op_fdivW (pv 2) (pv 3)) rfl)))))))
theorem ok_Ratio___init__ {P : Program} {w : World} {K : PySem.W.Frag} {mg : Str → Option Value} {base : Heap} {C_Ratio : Addr} {f : Addr} {fd : FuncData} (F : FunD K "__init__" "Ratio.__init__" (defArgs s_Ratio___init__) (defBody s_Ratio___init__) (defScope s_Ratio___init__) [.int 1] [] f fd) (c_is_whole : Cal P w K mg base CX0 1 "is_whole" ["value"] (spWhole K)) (m_abs : mg "abs" = none) (c_common_divisor : Cal P w K mg base CX0 1 "common_divisor" ["first", "second"] (spGcd K)) : FnOk P w K mg base CX0 2 f fd ["self", "numerator", "denominator"] (spRInit K C_Ratio) :=
  F.ok sc_Ratio___init__ (fun vs H Q E h => by first | (obtain ⟨_, rfl, _⟩ := h; rfl) | (obtain ⟨_, _, rfl, _⟩ := h; rfl) | (obtain ⟨_, _, _, rfl, _⟩ := h; rfl) | (obtain ⟨_, _, _, _, rfl, _⟩ := h; rfl) | (obtain ⟨_, _, _, _, _, rfl, _⟩ := h; rfl) | (obtain ⟨_, _, _, _, _, _, rfl, _⟩ := h; rfl) | (obtain ⟨_, _, _, _, _, _, _, rfl, _⟩ := h; rfl) | (obtain ⟨_, _, _, _, _, _, _, _, rfl, _⟩ := h; rfl) | (obtain ⟨_, _, _, _, _, _, _, _, _, rfl, _⟩ := h; rfl) | (obtain ⟨_, _, _, _, _, _, _, _, _, _, rfl, _⟩ := h; rfl) | (obtain ⟨_, _, _, _, _, _, _, _, _, _, _, rfl, _⟩ := h; rfl) | (obtain ⟨_, _, _, _, _, _, _, _, _, _, _, _, rfl, _⟩ := h; rfl) | (obtain ⟨_, _, _, _, _, _, _, _, _, _, _, _, _, rfl, _⟩ := h; rfl) | (obtain ⟨_, _, _, _, _, _, _, _, _, _, _, _, _, _, rfl, _⟩ := h; rfl) | (obtain ⟨_, _, _, _, _, _, _, _, _, _, _, _, _, _, _, rfl, _⟩ := h; rfl) | (obtain ⟨_, _, _, _, _, _, _, _, _, _, _, _, _, _, _, _, rfl, _⟩ := h; rfl) | (obtain ⟨_, _, _, _, _, _, _, _, _, _, _, _, _, _, _, _, _, rfl, _⟩ := h; rfl) | (obtain ⟨_, _, _, _, _, _, _, _, _, _, _, _, _, _, _, _, _, _, rfl, _⟩ := h; rfl) | (obtain ⟨_, _, _, _, _, _, _, _, _, _, _, _, _, _, _, _, _, _, _, rfl, _⟩ := h; rfl) | (obtain ⟨_, _, _, _, _, _, _, _, _, _, _, _, _, _, _, _, _, _, _, _, rfl, _⟩ := h; rfl) | (obtain ⟨_, _, _, _, _, _, _, _, _, _, _, _, _, _, _, _, _, _, _, _, _, rfl, _⟩ := h; rfl) | (obtain ⟨_, _, _, _, _, _, _, _, _, _, _, _, _, _, _, _, _, _, _, _, _, _, rfl, _⟩ := h; rfl) | (obtain ⟨_, _, _, _, _, _, _, _, _, _, _, _, _, _, _, _, _, _, _, _, _, _, _, rfl, _⟩ := h; rfl) | (obtain ⟨_, _, _, _, _, _, _, _, _, _, _, _, _, _, _, _, _, _, _, _, _, _, _, _, rfl, _⟩ := h; rfl) | (obtain ⟨_, _, _, _, _, _, _, _, _, _, _, _, _, _, _, _, _, _, _, _, _, _, _, _, _, rfl, _⟩ := h; rfl)) (fun cdv A outer s H vs Q E hr h => ⟨_, d_Ratio___init__ c_is_whole m_abs c_common_divisor hr, p_rinit h⟩)
abbrev s_Ratio___repr__ : Stmt := inClass (top 30) 22
theorem sc_Ratio___repr__ : FnScope ["self"] ["self"] (defScope s_Ratio___repr__) := ⟨rfl, rfl, rfl, by decide +kernel, rfl, by decide +kernel, by decide +kernel⟩
theorem d_Ratio___repr__ {P : Program} {w : World} {K : PySem.W.Frag} {mg : Str → Option Value} {base : Heap} {C_Ratio : Addr} {f : Addr} {cdv : Value} {A : Around} {outer : List Env} {s : Shared} {H : Hp} {E : XK}  :
    PSs (cxC P w K mg base ["self"] "Ratio.__repr__" (defScope s_Ratio___repr__) f cdv A outer s H E) (defBody s_Ratio___repr__) (t_Ratio___repr__ K C_Ratio) :=
  (pss_one (ps_ret (pe_join (PJ.cons pe_str (PJ.cons (pe_fmt (pe_fld (pv 0) rfl)) (PJ.cons pe_str (PJ.cons (pe_fmt (pe_fld (pv 0) rfl)) (PJ.cons pe_str PJ.nil))))))))
theorem ok_Ratio___repr__ {P : Program} {w : World} {K : PySem.W.Frag} {mg : Str → Option Value} {base : Heap} {C_Ratio : Addr} {f : Addr} {fd : FuncData} (F : FunD K "__repr__" "Ratio.__repr__" (defArgs s_Ratio___repr__) (defBody s_Ratio___repr__) (defScope s_Ratio___repr__) [] [] f fd)  : FnC P w K mg base 1 f fd ["self"] (spRRepr K C_Ratio) :=
  Rv.FunD.okC F sc_Ratio___repr__ (fun vs H Q E h => by first | (obtain ⟨_, rfl, _⟩ := h; rfl) | (obtain ⟨_, _, rfl, _⟩ := h; rfl) | (obtain ⟨_, _, _, rfl, _⟩ := h; rfl) | (obtain ⟨_, _, _, _, rfl, _⟩ := h; rfl) | (obtain ⟨_, _, _, _, _, rfl, _⟩ := h; rfl) | (obtain ⟨_, _, _, _, _, _, rfl, _⟩ := h; rfl) | (obtain ⟨_, _, _, _, _, _, _, rfl, _⟩ := h; rfl) | (obtain ⟨_, _, _, _, _, _, _, _, rfl, _⟩ := h; rfl) | (obtain ⟨_, _, _, _, _, _, _, _, _, rfl, _⟩ := h; rfl) | (obtain ⟨_, _, _, _, _, _, _, _, _, _, rfl, _⟩ := h; rfl) | (obtain ⟨_, _, _, _, _, _, _, _, _, _, _, rfl, _⟩ := h; rfl) | (obtain ⟨_, _, _, _, _, _, _, _, _, _, _, _, rfl, _⟩ := h; rfl) | (obtain ⟨_, _, _, _, _, _, _, _, _, _, _, _, _, rfl, _⟩ := h; rfl) | (obtain ⟨_, _, _, _, _, _, _, _, _, _, _, _, _, _, rfl, _⟩ := h; rfl) | (obtain ⟨_, _, _, _, _, _, _, _, _, _, _, _, _, _, _, rfl, _⟩ := h; rfl) | (obtain ⟨_, _, _, _, _, _, _, _, _, _, _, _, _, _, _, _, rfl, _⟩ := h; rfl) | (obtain ⟨_, _, _, _, _, _, _, _, _, _, _, _, _, _, _, _, _, rfl, _⟩ := h; rfl) | (obtain ⟨_, _, _, _, _, _, _, _, _, _, _, _, _, _, _, _, _, _, rfl, _⟩ := h; rfl) | (obtain ⟨_, _, _, _, _, _, _, _, _, _, _, _, _, _, _, _, _, _, _, rfl, _⟩ := h; rfl) | (obtain ⟨_, _, _, _, _, _, _, _, _, _, _, _, _, _, _, _, _, _, _, _, rfl, _⟩ := h; rfl) | (obtain ⟨_, _, _, _, _, _, _, _, _, _, _, _, _, _, _, _, _, _, _, _, _, rfl, _⟩ := h; rfl) | (obtain ⟨_, _, _, _, _, _, _, _, _, _, _, _, _, _, _, _, _, _, _, _, _, _, rfl, _⟩ := h; rfl) | (obtain ⟨_, _, _, _, _, _, _, _, _, _, _, _, _, _, _, _, _, _, _, _, _, _, _, rfl, _⟩ := h; rfl) | (obtain ⟨_, _, _, _, _, _, _, _, _, _, _, _, _, _, _, _, _, _, _, _, _, _, _, _, rfl, _⟩ := h; rfl) | (obtain ⟨_, _, _, _, _, _, _, _, _, _, _, _, _, _, _, _, _, _, _, _, _, _, _, _, _, rfl, _⟩ := h; rfl)) (fun cdv A outer s H vs Q E h => ⟨_, d_Ratio___repr__ , p_rrepr h⟩)
abbrev s__law_heights : Stmt := top 34
theorem sc__law_heights : FnScope ["_law_draws_here", "_law_many", "_law_size", "_law_k"] ["_law_draws_here"] (defScope s__law_heights) := ⟨rfl, rfl, rfl, by decide +kernel, rfl, by decide +kernel, by decide +kernel⟩
theorem d__law_heights {P : Program} {w : World} {K : PySem.W.Frag} {mg : Str → Option Value} {base : Heap} {CX : CXT} {f : Addr} {cdv : Value} {A : Around} {outer : List Env} {s : Shared} {H : Hp} {E : XK} (c__law_draw : Cal P w K mg base CX0 1 "_law_draw" ["_law_draws_here", "_law_many"] (spDraw K)) (m_int : mg "int" = none) (m_range : mg "range" = none)
    (hr : Room 1 (A.deeper (envOfC "_law_heights" (defScope s__law_heights) s.heap.objs.size f cdv))) :
    PSs (cxOf CX P w K mg base ["_law_draws_here", "_law_many", "_law_size", "_law_k"] "_law_heights" (defScope s__law_heights) f cdv A outer s H E) (defBody s__law_heights) (t__law_heights K) :=
  (pss_cons (ps_set (i := 1) sc__law_heights.nd rfl (by first | exact Or.inl rfl | exact Or.inr rfl) (pe_op op_add pe_int (pe_cal c__law_draw (hr.mono (by decide)) rfl pass0 (pa_cons (pv 0) (pa_cons (pe_ix ix_list (pe_lst (pa_cons pe_int (pa_cons pe_int pa_nil))) (pe_callTy call_int1 (by rfl) m_int (by decide +kernel) (pa_cons (pe_cmpR op_eq (pe_cal c__law_draw (hr.mono (by decide)) rfl pass0 (pa_cons (pv 0) (pa_cons pe_int pa_nil))) pe_int (nomark _)) pa_nil)) (fun _ _ => rfl)) pa_nil)))))
    (pss_cons (ps_set (i := 2) sc__law_heights.nd rfl (by first | exact Or.inl rfl | exact Or.inr rfl) (pe_ix ix_list (pe_lst (pa_cons pe_int (pa_cons pe_int (pa_cons (pe_op op_pow pe_int pe_int) (pa_cons (pe_op op_pow pe_int pe_int) pa_nil))))) (pe_cal c__law_draw (hr.mono (by decide)) rfl pass0 (pa_cons (pv 0) (pa_cons pe_int pa_nil))) (fun _ _ => rfl)))
    (pss_one (ps_ret (pe_lc (own := [("_law_k", 3)]) (g := (gName 3)) (tt := tYes) (te := (tOp oSub (tCall (spDraw K) [] E0 (tCons (tVar 0) (tCons (tOp oAdd (tOp oMul (tC (.int 2)) (tVar 2)) (tC (.int 1))) tNil))) (tVar 2))) rfl sc__law_heights.nd (pi_range1 rfl m_range (pa_cons (pv 1) pa_nil)) (blkOk_by (N := ["_law_draws_here", "_law_many", "_law_size", "_law_k"]) (sc := defScope s__law_heights) (by decide +kernel)) (fun _ _ _ _ _ => (pg_name (i := 3) sc__law_heights.nd rfl (by first | exact Or.inl rfl | exact Or.inr rfl))) (fun _ _ _ _ _ => pts_nil) (fun _ _ _ _ _ => (pe_op op_sub (pe_cal c__law_draw (hr.mono (by decide)) rfl pass0 (pa_cons (pv 0) (pa_cons (pe_op op_add (pe_op op_mul pe_int (pv 2)) pe_int) pa_nil))) (pv 2))))))))
theorem ok__law_heights {P : Program} {w : World} {K : PySem.W.Frag} {mg : Str → Option Value} {base : Heap} {f : Addr} {fd : FuncData} (F : FunD K "_law_heights" "_law_heights" (defArgs s__law_heights) (defBody s__law_heights) (defScope s__law_heights) [] [] f fd) (c__law_draw : Cal P w K mg base CX0 1 "_law_draw" ["_law_draws_here", "_law_many"] (spDraw K)) (m_int : mg "int" = none) (m_range : mg "range" = none) : FnOk P w K mg base CX0 2 f fd ["_law_draws_here"] (spHeights K) :=
  F.ok sc__law_heights (fun vs H Q E h => by first | (obtain ⟨_, rfl, _⟩ := h; rfl) | (obtain ⟨_, _, rfl, _⟩ := h; rfl) | (obtain ⟨_, _, _, rfl, _⟩ := h; rfl) | (obtain ⟨_, _, _, _, rfl, _⟩ := h; rfl) | (obtain ⟨_, _, _, _, _, rfl, _⟩ := h; rfl) | (obtain ⟨_, _, _, _, _, _, rfl, _⟩ := h; rfl) | (obtain ⟨_, _, _, _, _, _, _, rfl, _⟩ := h; rfl) | (obtain ⟨_, _, _, _, _, _, _, _, rfl, _⟩ := h; rfl) | (obtain ⟨_, _, _, _, _, _, _, _, _, rfl, _⟩ := h; rfl) | (obtain ⟨_, _, _, _, _, _, _, _, _, _, rfl, _⟩ := h; rfl) | (obtain ⟨_, _, _, _, _, _, _, _, _, _, _, rfl, _⟩ := h; rfl) | (obtain ⟨_, _, _, _, _, _, _, _, _, _, _, _, rfl, _⟩ := h; rfl) | (obtain ⟨_, _, _, _, _, _, _, _, _, _, _, _, _, rfl, _⟩ := h; rfl) | (obtain ⟨_, _, _, _, _, _, _, _, _, _, _, _, _, _, rfl, _⟩ := h; rfl) | (obtain ⟨_, _, _, _, _, _, _, _, _, _, _, _, _, _, _, rfl, _⟩ := h; rfl) | (obtain ⟨_, _, _, _, _, _, _, _, _, _, _, _, _, _, _, _, rfl, _⟩ := h; rfl) | (obtain ⟨_, _, _, _, _, _, _, _, _, _, _, _, _, _, _, _, _, rfl, _⟩ := h; rfl) | (obtain ⟨_, _, _, _, _, _, _, _, _, _, _, _, _, _, _, _, _, _, rfl, _⟩ := h; rfl) | (obtain ⟨_, _, _, _, _, _, _, _, _, _, _, _, _, _, _, _, _, _, _, rfl, _⟩ := h; rfl) | (obtain ⟨_, _, _, _, _, _, _, _, _, _, _, _, _, _, _, _, _, _, _, _, rfl, _⟩ := h; rfl) | (obtain ⟨_, _, _, _, _, _, _, _, _, _, _, _, _, _, _, _, _, _, _, _, _, rfl, _⟩ := h; rfl) | (obtain ⟨_, _, _, _, _, _, _, _, _, _, _, _, _, _, _, _, _, _, _, _, _, _, rfl, _⟩ := h; rfl) | (obtain ⟨_, _, _, _, _, _, _, _, _, _, _, _, _, _, _, _, _, _, _, _, _, _, _, rfl, _⟩ := h; rfl) | (obtain ⟨_, _, _, _, _, _, _, _, _, _, _, _, _, _, _, _, _, _, _, _, _, _, _, _, rfl, _⟩ := h; rfl) | (obtain ⟨_, _, _, _, _, _, _, _, _, _, _, _, _, _, _, _, _, _, _, _, _, _, _, _, _, rfl, _⟩ := h; rfl)) (fun cdv A outer s H vs Q E hr h => ⟨_, d__law_heights c__law_draw m_int m_range hr, p_heights h⟩)
abbrev s__law_widths : Stmt := top 35
theorem sc__law_widths : FnScope ["_law_draws_here", "_law_many", "_law_size", "_law_k"] ["_law_draws_here", "_law_many"] (defScope s__law_widths) := ⟨rfl, rfl, rfl, by decide +kernel, rfl, by decide +kernel, by decide +kernel⟩
theorem d__law_widths {P : Program} {w : World} {K : PySem.W.Frag} {mg : Str → Option Value} {base : Heap} {CX : CXT} {f : Addr} {cdv : Value} {A : Around} {outer : List Env} {s : Shared} {H : Hp} {E : XK} (c__law_draw : Cal P w K mg base CX0 1 "_law_draw" ["_law_draws_here", "_law_many"] (spDraw K)) (m_range : mg "range" = none)
    (hr : Room 1 (A.deeper (envOfC "_law_widths" (defScope s__law_widths) s.heap.objs.size f cdv))) :
    PSs (cxOf CX P w K mg base ["_law_draws_here", "_law_many", "_law_size", "_law_k"] "_law_widths" (defScope s__law_widths) f cdv A outer s H E) (defBody s__law_widths) (t__law_widths K) :=
  (pss_cons (ps_set (i := 2) sc__law_widths.nd rfl (by first | exact Or.inl rfl | exact Or.inr rfl) (pe_ix ix_list (pe_lst (pa_cons pe_int (pa_cons pe_int (pa_cons (pe_op op_pow pe_int pe_int) pa_nil)))) (pe_cal c__law_draw (hr.mono (by decide)) rfl pass0 (pa_cons (pv 0) (pa_cons pe_int pa_nil))) (fun _ _ => rfl)))
    (pss_one (ps_ret (pe_lc (own := [("_law_k", 3)]) (g := (gName 3)) (tt := tYes) (te := (tOp oAdd (tC (.int 1)) (tCall (spDraw K) [] E0 (tCons (tVar 0) (tCons (tVar 2) tNil))))) rfl sc__law_widths.nd (pi_range1 rfl m_range (pa_cons (pv 1) pa_nil)) (blkOk_by (N := ["_law_draws_here", "_law_many", "_law_size", "_law_k"]) (sc := defScope s__law_widths) (by decide +kernel)) (fun _ _ _ _ _ => (pg_name (i := 3) sc__law_widths.nd rfl (by first | exact Or.inl rfl | exact Or.inr rfl))) (fun _ _ _ _ _ => pts_nil) (fun _ _ _ _ _ => (pe_op op_add pe_int (pe_cal c__law_draw (hr.mono (by decide)) rfl pass0 (pa_cons (pv 0) (pa_cons (pv 2) pa_nil)))))))))
theorem ok__law_widths {P : Program} {w : World} {K : PySem.W.Frag} {mg : Str → Option Value} {base : Heap} {f : Addr} {fd : FuncData} (F : FunD K "_law_widths" "_law_widths" (defArgs s__law_widths) (defBody s__law_widths) (defScope s__law_widths) [] [] f fd) (c__law_draw : Cal P w K mg base CX0 1 "_law_draw" ["_law_draws_here", "_law_many"] (spDraw K)) (m_range : mg "range" = none) : FnOk P w K mg base CX0 2 f fd ["_law_draws_here", "_law_many"] (spWidths K) :=
  F.ok sc__law_widths (fun vs H Q E h => by first | (obtain ⟨_, rfl, _⟩ := h; rfl) | (obtain ⟨_, _, rfl, _⟩ := h; rfl) | (obtain ⟨_, _, _, rfl, _⟩ := h; rfl) | (obtain ⟨_, _, _, _, rfl, _⟩ := h; rfl) | (obtain ⟨_, _, _, _, _, rfl, _⟩ := h; rfl) | (obtain ⟨_, _, _, _, _, _, rfl, _⟩ := h; rfl) | (obtain ⟨_, _, _, _, _, _, _, rfl, _⟩ := h; rfl) | (obtain ⟨_, _, _, _, _, _, _, _, rfl, _⟩ := h; rfl) | (obtain ⟨_, _, _, _, _, _, _, _, _, rfl, _⟩ := h; rfl) | (obtain ⟨_, _, _, _, _, _, _, _, _, _, rfl, _⟩ := h; rfl) | (obtain ⟨_, _, _, _, _, _, _, _, _, _, _, rfl, _⟩ := h; rfl) | (obtain ⟨_, _, _, _, _, _, _, _, _, _, _, _, rfl, _⟩ := h; rfl) | (obtain ⟨_, _, _, _, _, _, _, _, _, _, _, _, _, rfl, _⟩ := h; rfl) | (obtain ⟨_, _, _, _, _, _, _, _, _, _, _, _, _, _, rfl, _⟩ := h; rfl) | (obtain ⟨_, _, _, _, _, _, _, _, _, _, _, _, _, _, _, rfl, _⟩ := h; rfl) | (obtain ⟨_, _, _, _, _, _, _, _, _, _, _, _, _, _, _, _, rfl, _⟩ := h; rfl) | (obtain ⟨_, _, _, _, _, _, _, _, _, _, _, _, _, _, _, _, _, rfl, _⟩ := h; rfl) | (obtain ⟨_, _, _, _, _, _, _, _, _, _, _, _, _, _, _, _, _, _, rfl, _⟩ := h; rfl) | (obtain ⟨_, _, _, _, _, _, _, _, _, _, _, _, _, _, _, _, _, _, _, rfl, _⟩ := h; rfl) | (obtain ⟨_, _, _, _, _, _, _, _, _, _, _, _, _, _, _, _, _, _, _, _, rfl, _⟩ := h; rfl) | (obtain ⟨_, _, _, _, _, _, _, _, _, _, _, _, _, _, _, _, _, _, _, _, _, rfl, _⟩ := h; rfl) | (obtain ⟨_, _, _, _, _, _, _, _, _, _, _, _, _, _, _, _, _, _, _, _, _, _, rfl, _⟩ := h; rfl) | (obtain ⟨_, _, _, _, _, _, _, _, _, _, _, _, _, _, _, _, _, _, _, _, _, _, _, rfl, _⟩ := h; rfl) | (obtain ⟨_, _, _, _, _, _, _, _, _, _, _, _, _, _, _, _, _, _, _, _, _, _, _, _, rfl, _⟩ := h; rfl) | (obtain ⟨_, _, _, _, _, _, _, _, _, _, _, _, _, _, _, _, _, _, _, _, _, _, _, _, _, rfl, _⟩ := h; rfl)) (fun cdv A outer s H vs Q E hr h => ⟨_, d__law_widths c__law_draw m_range hr, p_widths h⟩)
abbrev s__law_rims : Stmt := top 36
theorem sc__law_rims : FnScope ["_law_profile", "_law_valley", "_law_found", "e", "_law_wrong"] ["_law_profile", "_law_valley"] (defScope s__law_rims) := ⟨rfl, rfl, rfl, by decide +kernel, rfl, by decide +kernel, by decide +kernel⟩
theorem d__law_rims {P : Program} {w : World} {K : PySem.W.Frag} {mg : Str → Option Value} {base : Heap} {C_Profile : Addr} {C_Ratio : Addr} {C_InvalidValley : Addr} {C_InvalidColumn : Addr} {C_RainError : Addr} {CX : CXT} {f : Addr} {cdv : Value} {A : Around} {outer : List Env} {s : Shared} {H : Hp} {E : XK} (c_rims : Cal P w K mg base (L2.CX P w) 6 "rims" ["profile", "valley"] (spRims K C_Profile C_InvalidValley)) (g_RainError : mg "RainError" = some (.ref C_RainError)) (ec_InvalidValley : ExcC K C_InvalidValley) (m_isinstance : mg "isinstance" = none) (g_InvalidColumn : mg "InvalidColumn" = some (.ref C_InvalidColumn)) (m_IndexError : mg "IndexError" = none) (xf_InvalidValley : XfC K C_InvalidValley) (no_InvalidValley_value : PySem.W.findIn K (.ref C_InvalidValley) "value" = some none) (cuc_repr : CalUC P w K mg base 1 C_Ratio "__repr__" (spRRepr K C_Ratio)) (m_repr : mg "repr" = none) (g_InvalidValley : mg "InvalidValley" = some (.ref C_InvalidValley)) (hgd : A.guards = some [])
    (hr : Room 7 (A.deeper (envOfC "_law_rims" (defScope s__law_rims) s.heap.objs.size f cdv))) :
    PSs (cxOf CX P w K mg base ["_law_profile", "_law_valley", "_law_found", "e", "_law_wrong"] "_law_rims" (defScope s__law_rims) f cdv A outer s H E) (defBody s__law_rims) (t__law_rims K C_Profile C_Ratio C_InvalidValley C_InvalidColumn C_RainError) :=
  (pss_cons (ps_set (i := 2) sc__law_rims.nd rfl (by first | exact Or.inl rfl | exact Or.inr rfl) (pe_tup pa_nil))
    (pss_cons (ps_try_as (tb := fun W => (tAsg (tCallD (spRims K C_Profile C_InvalidValley) [] (WE W) (tCons (tVar 0) (tCons (tVar 1) tNil))) (gName 2))) (ts := fun xa xcls xd => (tSeq (tAsg (tOrV (tCB (rIsD K C_InvalidValley xa xcls xd) (tCons (tVar 3) (tCons (tC (.ref C_RainError)) tNil))) (tCB (rIsD K C_InvalidValley xa xcls xd) (tCons (tVar 3) (tCons (tC (.ref C_InvalidColumn)) tNil)))) (gName 4))
    (tAsg (tTup (tCons (tC (.str "valley")) (tCons (tCB (cReprA K C_Ratio (spRRepr K C_Ratio)) (tCons (tXf xa xcls xd C_InvalidValley "value" (tVar 3)) tNil)) (tCons (tCB (rIsD K C_InvalidValley xa xcls xd) (tCons (tVar 3) (tCons (tC (.ty "IndexError")) tNil))) (tCons (tVar 4) tNil))))) (gName 2)))) (Wout := fun _ _ _ _ => False) rfl rfl sc__law_rims.nd (i := 3) rfl rfl ⟨by rfl, by decide, .inl g_InvalidValley⟩ takesF (fun W pn xe tk hpo => (pss_one (ps_set (i := 2) sc__law_rims.nd rfl (by first | exact Or.inl rfl | exact Or.inr rfl) (pe_calD c_rims (hr.mono (by decide)) rfl (passAt tk) (pa_cons (pv 0) (pa_cons (pv 1) pa_nil)))))) (fun xa oe xcls xd pn hz hfv => (pss_cons (ps_set (i := 4) sc__law_rims.nd rfl (by first | exact Or.inl rfl | exact Or.inr rfl) (pe_or (pe_callB (call_isD ec_InvalidValley hz hfv) (by rfl) m_isinstance (by decide +kernel) (pa_cons (pv 3) (pa_cons (pe_glob rfl g_RainError rfl) pa_nil))) (pe_one (pe_callB (call_isD ec_InvalidValley hz hfv) (by rfl) m_isinstance (by decide +kernel) (pa_cons (pv 3) (pa_cons (pe_glob rfl g_InvalidColumn rfl) pa_nil))))))
    (pss_one (ps_set (i := 2) sc__law_rims.nd rfl (by first | exact Or.inl rfl | exact Or.inr rfl) (pe_tup (pa_cons pe_str (pa_cons (pe_callB (call_reprA cuc_repr hgd (roomH_any (hr.mono (by decide)))) (by rfl) m_repr (by decide +kernel) (pa_cons (pe_xf xf_InvalidValley no_InvalidValley_value hz hfv (pv 3)) pa_nil)) (pa_cons (pe_callB (call_isD ec_InvalidValley hz hfv) (by rfl) m_isinstance (by decide +kernel) (pa_cons (pv 3) (pa_cons (pe_bltn (by rfl) m_IndexError (by decide +kernel) rfl) pa_nil))) (pa_cons (pv 4) pa_nil))))))))))
    (pss_one (ps_ret (pv 2)))))
theorem ok__law_rims {P : Program} {w : World} {K : PySem.W.Frag} {mg : Str → Option Value} {base : Heap} {C_Profile : Addr} {C_Ratio : Addr} {C_InvalidValley : Addr} {C_InvalidColumn : Addr} {C_RainError : Addr} {f : Addr} {fd : FuncData} (F : FunD K "_law_rims" "_law_rims" (defArgs s__law_rims) (defBody s__law_rims) (defScope s__law_rims) [] [] f fd) (c_rims : Cal P w K mg base (L2.CX P w) 6 "rims" ["profile", "valley"] (spRims K C_Profile C_InvalidValley)) (g_RainError : mg "RainError" = some (.ref C_RainError)) (ec_InvalidValley : ExcC K C_InvalidValley) (m_isinstance : mg "isinstance" = none) (g_InvalidColumn : mg "InvalidColumn" = some (.ref C_InvalidColumn)) (m_IndexError : mg "IndexError" = none) (xf_InvalidValley : XfC K C_InvalidValley) (no_InvalidValley_value : PySem.W.findIn K (.ref C_InvalidValley) "value" = some none) (cuc_repr : CalUC P w K mg base 1 C_Ratio "__repr__" (spRRepr K C_Ratio)) (m_repr : mg "repr" = none) (g_InvalidValley : mg "InvalidValley" = some (.ref C_InvalidValley)) : FnOkG P w K mg base CX0 8 f fd ["_law_profile", "_law_valley"] (spTold18 K C_Profile C_Ratio C_InvalidValley C_InvalidColumn C_RainError) :=
  Rv.FunD.okG F sc__law_rims (fun vs H Q E h => by first | (obtain ⟨_, rfl, _⟩ := h; rfl) | (obtain ⟨_, _, rfl, _⟩ := h; rfl) | (obtain ⟨_, _, _, rfl, _⟩ := h; rfl) | (obtain ⟨_, _, _, _, rfl, _⟩ := h; rfl) | (obtain ⟨_, _, _, _, _, rfl, _⟩ := h; rfl) | (obtain ⟨_, _, _, _, _, _, rfl, _⟩ := h; rfl) | (obtain ⟨_, _, _, _, _, _, _, rfl, _⟩ := h; rfl) | (obtain ⟨_, _, _, _, _, _, _, _, rfl, _⟩ := h; rfl) | (obtain ⟨_, _, _, _, _, _, _, _, _, rfl, _⟩ := h; rfl) | (obtain ⟨_, _, _, _, _, _, _, _, _, _, rfl, _⟩ := h; rfl) | (obtain ⟨_, _, _, _, _, _, _, _, _, _, _, rfl, _⟩ := h; rfl) | (obtain ⟨_, _, _, _, _, _, _, _, _, _, _, _, rfl, _⟩ := h; rfl) | (obtain ⟨_, _, _, _, _, _, _, _, _, _, _, _, _, rfl, _⟩ := h; rfl) | (obtain ⟨_, _, _, _, _, _, _, _, _, _, _, _, _, _, rfl, _⟩ := h; rfl) | (obtain ⟨_, _, _, _, _, _, _, _, _, _, _, _, _, _, _, rfl, _⟩ := h; rfl) | (obtain ⟨_, _, _, _, _, _, _, _, _, _, _, _, _, _, _, _, rfl, _⟩ := h; rfl) | (obtain ⟨_, _, _, _, _, _, _, _, _, _, _, _, _, _, _, _, _, rfl, _⟩ := h; rfl) | (obtain ⟨_, _, _, _, _, _, _, _, _, _, _, _, _, _, _, _, _, _, rfl, _⟩ := h; rfl) | (obtain ⟨_, _, _, _, _, _, _, _, _, _, _, _, _, _, _, _, _, _, _, rfl, _⟩ := h; rfl) | (obtain ⟨_, _, _, _, _, _, _, _, _, _, _, _, _, _, _, _, _, _, _, _, rfl, _⟩ := h; rfl) | (obtain ⟨_, _, _, _, _, _, _, _, _, _, _, _, _, _, _, _, _, _, _, _, _, rfl, _⟩ := h; rfl) | (obtain ⟨_, _, _, _, _, _, _, _, _, _, _, _, _, _, _, _, _, _, _, _, _, _, rfl, _⟩ := h; rfl) | (obtain ⟨_, _, _, _, _, _, _, _, _, _, _, _, _, _, _, _, _, _, _, _, _, _, _, rfl, _⟩ := h; rfl) | (obtain ⟨_, _, _, _, _, _, _, _, _, _, _, _, _, _, _, _, _, _, _, _, _, _, _, _, rfl, _⟩ := h; rfl) | (obtain ⟨_, _, _, _, _, _, _, _, _, _, _, _, _, _, _, _, _, _, _, _, _, _, _, _, _, rfl, _⟩ := h; rfl)) (fun cdv A outer s H vs Q E hgd hr h => ⟨_, d__law_rims c_rims g_RainError ec_InvalidValley m_isinstance g_InvalidColumn m_IndexError xf_InvalidValley no_InvalidValley_value cuc_repr m_repr g_InvalidValley hgd hr, p_told18 h⟩)
abbrev s__law_crests : Stmt := top 37
theorem sc__law_crests : FnScope ["_law_heights_here", "_law_found", "_law_rising", "_law_at", "_law_after"] ["_law_heights_here"] (defScope s__law_crests) := ⟨rfl, rfl, rfl, by decide +kernel, rfl, by decide +kernel, by decide +kernel⟩
theorem d__law_crests {P : Program} {w : World} {K : PySem.W.Frag} {mg : Str → Option Value} {base : Heap} {CX : CXT} {f : Addr} {cdv : Value} {A : Around} {outer : List Env} {s : Shared} {H : Hp} {E : XK} (m_len : mg "len" = none) (m_range : mg "range" = none)
    (hr : Room 0 (A.deeper (envOfC "_law_crests" (defScope s__law_crests) s.heap.objs.size f cdv))) :
    PSs (cxOf CX P w K mg base ["_law_heights_here", "_law_found", "_law_rising", "_law_at", "_law_after"] "_law_crests" (defScope s__law_crests) f cdv A outer s H E) (defBody s__law_crests) (t__law_crests K) :=
  (pss_cons (ps_set (i := 1) sc__law_crests.nd rfl (by first | exact Or.inl rfl | exact Or.inr rfl) (pe_lst pa_nil))
    (pss_cons (ps_set (i := 2) sc__law_crests.nd rfl (by first | exact Or.inl rfl | exact Or.inr rfl) pe_bl)
    (pss_cons (ps_for (passes_of rfl) rfl (pi_range1 rfl m_range (pa_cons (pe_callB call_len_seq (by rfl) m_len (by decide +kernel) (pa_cons (pv 0) pa_nil)) pa_nil)) (pg_name (i := 3) sc__law_crests.nd rfl (by first | exact Or.inl rfl | exact Or.inr rfl)) (pss_cons (ps_set (i := 4) sc__law_crests.nd rfl (by first | exact Or.inl rfl | exact Or.inr rfl) (pe_lst (pa_cons (pe_op op_sub pe_int (pe_op op_pow pe_int pe_int)) pa_nil)))
    (pss_cons (ps_if (pt_cmpR op_lt (pe_op op_add (pv 3) pe_int) (pe_callB call_len_seq (by rfl) m_len (by decide +kernel) (pa_cons (pv 0) pa_nil)) (nomark _)) (pss_one (ps_set (i := 4) sc__law_crests.nd rfl (by first | exact Or.inl rfl | exact Or.inr rfl) (pe_lst (pa_cons (pe_ix ix_list (pv 0) (pe_op op_add (pv 3) pe_int) (fun _ _ => rfl)) pa_nil)))) pss_nil)
    (pss_cons (ps_if (pt_cmpR op_gt (pe_ix ix_list (pv 4) pe_int (fun _ _ => rfl)) (pe_ix ix_list (pv 0) (pv 3) (fun _ _ => rfl)) (nomark _)) (pss_one (ps_set (i := 2) sc__law_crests.nd rfl (by first | exact Or.inl rfl | exact Or.inr rfl) pe_bl)) pss_nil)
    (pss_one (ps_if (pt_cmpR op_lt (pe_ix ix_list (pv 4) pe_int (fun _ _ => rfl)) (pe_ix ix_list (pv 0) (pv 3) (fun _ _ => rfl)) (nomark _)) (pss_cons (ps_if (pt_val (pv 2)) (pss_one (ps_expr (pe_bm PySem.F.plainAttrs_list PySem.F.slot_list_append PySem.F.type_list_append mt_append (pv 1) (pa_cons (pe_ix ix_list (pv 0) (pv 3) (fun _ _ => rfl)) pa_nil)))) pss_nil)
    (pss_one (ps_set (i := 2) sc__law_crests.nd rfl (by first | exact Or.inl rfl | exact Or.inr rfl) pe_bl))) pss_nil))))))
    (pss_one (ps_ret (pv 1))))))
theorem ok__law_crests {P : Program} {w : World} {K : PySem.W.Frag} {mg : Str → Option Value} {base : Heap} {f : Addr} {fd : FuncData} (F : FunD K "_law_crests" "_law_crests" (defArgs s__law_crests) (defBody s__law_crests) (defScope s__law_crests) [] [] f fd) (m_len : mg "len" = none) (m_range : mg "range" = none) : FnOk P w K mg base CX0 1 f fd ["_law_heights_here"] (spCrests K) :=
  F.ok sc__law_crests (fun vs H Q E h => by first | (obtain ⟨_, rfl, _⟩ := h; rfl) | (obtain ⟨_, _, rfl, _⟩ := h; rfl) | (obtain ⟨_, _, _, rfl, _⟩ := h; rfl) | (obtain ⟨_, _, _, _, rfl, _⟩ := h; rfl) | (obtain ⟨_, _, _, _, _, rfl, _⟩ := h; rfl) | (obtain ⟨_, _, _, _, _, _, rfl, _⟩ := h; rfl) | (obtain ⟨_, _, _, _, _, _, _, rfl, _⟩ := h; rfl) | (obtain ⟨_, _, _, _, _, _, _, _, rfl, _⟩ := h; rfl) | (obtain ⟨_, _, _, _, _, _, _, _, _, rfl, _⟩ := h; rfl) | (obtain ⟨_, _, _, _, _, _, _, _, _, _, rfl, _⟩ := h; rfl) | (obtain ⟨_, _, _, _, _, _, _, _, _, _, _, rfl, _⟩ := h; rfl) | (obtain ⟨_, _, _, _, _, _, _, _, _, _, _, _, rfl, _⟩ := h; rfl) | (obtain ⟨_, _, _, _, _, _, _, _, _, _, _, _, _, rfl, _⟩ := h; rfl) | (obtain ⟨_, _, _, _, _, _, _, _, _, _, _, _, _, _, rfl, _⟩ := h; rfl) | (obtain ⟨_, _, _, _, _, _, _, _, _, _, _, _, _, _, _, rfl, _⟩ := h; rfl) | (obtain ⟨_, _, _, _, _, _, _, _, _, _, _, _, _, _, _, _, rfl, _⟩ := h; rfl) | (obtain ⟨_, _, _, _, _, _, _, _, _, _, _, _, _, _, _, _, _, rfl, _⟩ := h; rfl) | (obtain ⟨_, _, _, _, _, _, _, _, _, _, _, _, _, _, _, _, _, _, rfl, _⟩ := h; rfl) | (obtain ⟨_, _, _, _, _, _, _, _, _, _, _, _, _, _, _, _, _, _, _, rfl, _⟩ := h; rfl) | (obtain ⟨_, _, _, _, _, _, _, _, _, _, _, _, _, _, _, _, _, _, _, _, rfl, _⟩ := h; rfl) | (obtain ⟨_, _, _, _, _, _, _, _, _, _, _, _, _, _, _, _, _, _, _, _, _, rfl, _⟩ := h; rfl) | (obtain ⟨_, _, _, _, _, _, _, _, _, _, _, _, _, _, _, _, _, _, _, _, _, _, rfl, _⟩ := h; rfl) | (obtain ⟨_, _, _, _, _, _, _, _, _, _, _, _, _, _, _, _, _, _, _, _, _, _, _, rfl, _⟩ := h; rfl) | (obtain ⟨_, _, _, _, _, _, _, _, _, _, _, _, _, _, _, _, _, _, _, _, _, _, _, _, rfl, _⟩ := h; rfl) | (obtain ⟨_, _, _, _, _, _, _, _, _, _, _, _, _, _, _, _, _, _, _, _, _, _, _, _, _, rfl, _⟩ := h; rfl)) (fun cdv A outer s H vs Q E hr h => ⟨_, d__law_crests m_len m_range hr, p_crests h⟩)
abbrev s_law : Stmt := top 38
theorem sc_law : FnScope ["_law_script", "_law_draws_here", "_law_heights_here", "_law_profile", "_law_crests_here", "_law_many", "_law_valley", "_law_told", "_law_far", "_law_value", "_law_k", "_law_one"] ["_law_script"] (defScope s_law) := ⟨rfl, rfl, rfl, by decide +kernel, rfl, by decide +kernel, by decide +kernel⟩
theorem d_law {P : Program} {w : World} {K : PySem.W.Frag} {mg : Str → Option Value} {base : Heap} {C_Profile : Addr} {C_Ratio : Addr} {C_InvalidValley : Addr} {C_InvalidColumn : Addr} {C_RainError : Addr} {CX : CXT} {f : Addr} {cdv : Value} {A : Around} {outer : List Env} {s : Shared} {H : Hp} {E : XK} (c__law_draws : Cal P w K mg base CX0 1 "_law_draws" ["_law_script"] (spDraws K)) (c__law_heights : Cal P w K mg base CX0 2 "_law_heights" ["_law_draws_here"] (spHeights K)) (c__law_draw : Cal P w K mg base CX0 1 "_law_draw" ["_law_draws_here", "_law_many"] (spDraw K)) (m_len : mg "len" = none) (m_range : mg "range" = none) (m_int : mg "int" = none) (c__law_widths : Cal P w K mg base CX0 2 "_law_widths" ["_law_draws_here", "_law_many"] (spWidths K)) (cm2_Profile : CalM P w K mg base CX0 5 "Profile" C_Profile ["self", "heights", "widths"] (spInit K C_Profile) []) (c__law_crests : Cal P w K mg base CX0 1 "_law_crests" ["_law_heights_here"] (spCrests K)) (c__law_rims : CalG P w K mg base CX0 8 "_law_rims" ["_law_profile", "_law_valley"] (spTold18 K C_Profile C_Ratio C_InvalidValley C_InvalidColumn C_RainError)) (m_tuple : mg "tuple" = none) (m_isinstance : mg "isinstance" = none) (m_bool : mg "bool" = none) (cm1_Ratio : CalM P w K mg base CX0 2 "Ratio" C_Ratio ["self", "numerator", "denominator"] (spRInit K C_Ratio) [.int 1]) (cuc_repr : CalUC P w K mg base 1 C_Ratio "__repr__" (spRRepr K C_Ratio)) (m_repr : mg "repr" = none) (cp_heights : CalP P w K mg base CX0 1 C_Profile "heights" (getSp C_Profile "column_heights")) (hgd : A.guards = some [])
    (hr : Room 9 (A.deeper (envOfC "law" (defScope s_law) s.heap.objs.size f cdv))) :
    PSs (cxOf CX P w K mg base ["_law_script", "_law_draws_here", "_law_heights_here", "_law_profile", "_law_crests_here", "_law_many", "_law_valley", "_law_told", "_law_far", "_law_value", "_law_k", "_law_one"] "law" (defScope s_law) f cdv A outer s H E) (defBody s_law) (t_law18 K C_Profile C_Ratio C_InvalidValley C_InvalidColumn C_RainError) :=
  (pss_cons (ps_set (i := 1) sc_law.nd rfl (by first | exact Or.inl rfl | exact Or.inr rfl) (pe_cal c__law_draws (hr.mono (by decide)) rfl pass0 (pa_cons (pv 0) pa_nil)))
    (pss_cons (ps_set (i := 2) sc_law.nd rfl (by first | exact Or.inl rfl | exact Or.inr rfl) (pe_cal c__law_heights (hr.mono (by decide)) rfl pass0 (pa_cons (pv 1) pa_nil)))
    (pss_cons (ps_if (pt_cmpR op_eq (pe_cal c__law_draw (hr.mono (by decide)) rfl pass0 (pa_cons (pv 1) (pa_cons pe_int pa_nil))) pe_int (nomark _)) (pss_cons (ps_set (i := 2) sc_law.nd rfl (by first | exact Or.inl rfl | exact Or.inr rfl) (pe_lc (own := [("_law_k", 10)]) (g := (gName 10)) (tt := tYes) (te := (tOp oAdd (tOp (rIxL K) (tVar 2) (tOp oSub (tVar 10) (tOp oMod (tVar 10) (tC (.int 2))))) (tOp oMul (tOp oMod (tVar 10) (tC (.int 2))) (tCB cInt (tCons (tOp rEq (tOp oMod (tVar 10) (tC (.int 4))) (tC (.int 1))) tNil))))) rfl sc_law.nd (pi_range1 rfl m_range (pa_cons (pe_callB call_len_seq (by rfl) m_len (by decide +kernel) (pa_cons (pv 2) pa_nil)) pa_nil)) (blkOk_by (N := ["_law_script", "_law_draws_here", "_law_heights_here", "_law_profile", "_law_crests_here", "_law_many", "_law_valley", "_law_told", "_law_far", "_law_value", "_law_k", "_law_one"]) (sc := defScope s_law) (by decide +kernel)) (fun _ _ _ _ _ => (pg_name (i := 10) sc_law.nd rfl (by first | exact Or.inl rfl | exact Or.inr rfl))) (fun _ _ _ _ _ => pts_nil) (fun _ _ _ _ _ => (pe_op op_add (pe_ix ix_list (pv 2) (pe_op op_sub (pv 10) (pe_op op_mod (pv 10) pe_int)) (fun _ _ => rfl)) (pe_op op_mul (pe_op op_mod (pv 10) pe_int) (pe_callTy call_int1 (by rfl) m_int (by decide +kernel) (pa_cons (pe_cmpR op_eq (pe_op op_mod (pv 10) pe_int) pe_int (nomark _)) pa_nil)))))))
    (pss_one (ps_set (i := 2) sc_law.nd rfl (by first | exact Or.inl rfl | exact Or.inr rfl) (pe_lc (own := [("_law_one", 11)]) (g := (gName 11)) (tt := tYes) (te := (tOp oSub (tVar 11) (tCB cInt (tCons (tOp oGt (tVar 11) (tOp oPow (tC (.int 10)) (tC (.int 30)))) tNil)))) rfl sc_law.nd (pi_list (pv 2)) (blkOk_by (N := ["_law_script", "_law_draws_here", "_law_heights_here", "_law_profile", "_law_crests_here", "_law_many", "_law_valley", "_law_told", "_law_far", "_law_value", "_law_k", "_law_one"]) (sc := defScope s_law) (by decide +kernel)) (fun _ _ _ _ _ => (pg_name (i := 11) sc_law.nd rfl (by first | exact Or.inl rfl | exact Or.inr rfl))) (fun _ _ _ _ _ => pts_nil) (fun _ _ _ _ _ => (pe_op op_sub (pv 11) (pe_callTy call_int1 (by rfl) m_int (by decide +kernel) (pa_cons (pe_cmpR op_gt (pv 11) (pe_op op_pow pe_int pe_int) (nomark _)) pa_nil)))))))) pss_nil)
    (pss_cons (ps_set (i := 3) sc_law.nd rfl (by first | exact Or.inl rfl | exact Or.inr rfl) (pe_calm cm2_Profile (hr.mono (by decide)) rfl pass0 (pa_cons (pv 2) (pa_cons (pe_cal c__law_widths (hr.mono (by decide)) rfl pass0 (pa_cons (pv 1) (pa_cons (pe_callB call_len_seq (by rfl) m_len (by decide +kernel) (pa_cons (pv 2) pa_nil)) pa_nil))) pa_nil))))
    (pss_cons (ps_set (i := 4) sc_law.nd rfl (by first | exact Or.inl rfl | exact Or.inr rfl) (pe_cal c__law_crests (hr.mono (by decide)) rfl pass0 (pa_cons (pv 2) pa_nil)))
    (pss_cons (ps_set (i := 5) sc_law.nd rfl (by first | exact Or.inl rfl | exact Or.inr rfl) (pe_op op_sub (pe_callB call_len_seq (by rfl) m_len (by decide +kernel) (pa_cons (pv 4) pa_nil)) pe_int))
    (pss_cons (ps_for (passes_of rfl) rfl (pi_range1 rfl m_range (pa_cons (pv 5) pa_nil)) (pg_name (i := 6) sc_law.nd rfl (by first | exact Or.inl rfl | exact Or.inr rfl)) (pss_cons (ps_set (i := 7) sc_law.nd rfl (by first | exact Or.inl rfl | exact Or.inr rfl) (pe_calG c__law_rims hgd (hr.mono (by decide)) rfl pass0 (pa_cons (pv 3) (pa_cons (pv 6) pa_nil))))
    (pss_cons (ps_if (PW.pt (pw_or (pt_not (pt_val (pe_callB call_isi (by rfl) m_isinstance (by decide +kernel) (pa_cons (pv 7) (pa_cons (pe_bltn (by rfl) m_tuple (by decide +kernel) rfl) pa_nil))))) (pw_or1 (pt_cmpR (op_neD hr.units) (pv 7) (pe_tup (pa_cons (pe_ix ix_list (pv 4) (pv 6) (fun _ _ => rfl)) (pa_cons (pe_ix ix_list (pv 4) (pe_op op_add (pv 6) pe_int) (fun _ _ => rfl)) pa_nil))) (nomark _))))) (pss_one (ps_ret pe_bl)) pss_nil)
    (pss_one (ps_if (pt_cmpR (op_neD hr.units) (pe_lc (own := [("_law_one", 11)]) (g := (gName 11)) (tt := (tOr (tNot (tB (tCB (rIsi K) (tCons (tVar 11) (tCons (tC (.ty "int")) tNil))))) (tB (tCB (rIsi K) (tCons (tVar 11) (tCons (tC (.ty "bool")) tNil)))))) (te := (tVar 11)) rfl sc_law.nd (pi_tup (pv 7)) (blkOk_by (N := ["_law_script", "_law_draws_here", "_law_heights_here", "_law_profile", "_law_crests_here", "_law_many", "_law_valley", "_law_told", "_law_far", "_law_value", "_law_k", "_law_one"]) (sc := defScope s_law) (by decide +kernel)) (fun _ _ _ _ _ => (pg_name (i := 11) sc_law.nd rfl (by first | exact Or.inl rfl | exact Or.inr rfl))) (fun _ _ _ _ _ => (pts_one (PW.pt (pw_or (pt_not (pt_val (pe_callB call_isi (by rfl) m_isinstance (by decide +kernel) (pa_cons (pv 11) (pa_cons (pe_bltn (by rfl) m_int (by decide +kernel) rfl) pa_nil))))) (pw_or1 (pt_val (pe_callB call_isi (by rfl) m_isinstance (by decide +kernel) (pa_cons (pv 11) (pa_cons (pe_bltn (by rfl) m_bool (by decide +kernel) rfl) pa_nil))))))))) (fun _ _ _ _ _ => (pv 11))) (pe_lst pa_nil) (nomark _)) (pss_one (ps_ret pe_bl)) pss_nil)))))
    (pss_cons (ps_set (i := 8) sc_law.nd rfl (by first | exact Or.inl rfl | exact Or.inr rfl) (pe_op op_add (pe_op op_add (pv 5) pe_int) (pe_cal c__law_draw (hr.mono (by decide)) rfl pass0 (pa_cons (pv 1) (pa_cons (pe_op op_pow pe_int pe_int) pa_nil)))))
    (pss_cons (ps_for (passes_of rfl) rfl (pi_list (pe_lst (pa_cons pe_non (pa_cons pe_bl (pa_cons pe_bl (pa_cons pe_str (pa_cons pe_str (pa_cons (pe_tup pa_nil) (pa_cons (pe_lst (pa_cons pe_int pa_nil)) (pa_cons (pe_un un_neg pe_int) (pa_cons (pe_op op_sub pe_int (pv 8)) (pa_cons (pv 8) (pa_cons (pv 5) (pa_cons (pe_calm cm1_Ratio (hr.mono (by decide)) rfl pass0 (pa_cons pe_int pa_nil)) pa_nil)))))))))))))) (pg_name (i := 9) sc_law.nd rfl (by first | exact Or.inl rfl | exact Or.inr rfl)) (pss_one (ps_if (pt_cmpR (op_neD hr.units) (pe_calG c__law_rims hgd (hr.mono (by decide)) rfl pass0 (pa_cons (pv 3) (pa_cons (pv 9) pa_nil))) (pe_tup (pa_cons pe_str (pa_cons (pe_callB (call_reprA cuc_repr hgd (roomH_any (hr.mono (by decide)))) (by rfl) m_repr (by decide +kernel) (pa_cons (pv 9) pa_nil)) (pa_cons pe_bl (pa_cons pe_bl pa_nil))))) (nomark _)) (pss_one (ps_ret pe_bl)) pss_nil)))
    (pss_one (ps_ret (pe_cmpR (op_eqD hr.units) (pe_calp cp_heights (hr.mono (by decide)) pass0 (pv 3) rfl) (pe_callTy call_tuple_of (by rfl) m_tuple (by decide +kernel) (pa_cons (pv 2) pa_nil)) (nomark _)))))))))))))
theorem ok_law {P : Program} {w : World} {K : PySem.W.Frag} {mg : Str → Option Value} {base : Heap} {C_Profile : Addr} {C_Ratio : Addr} {C_InvalidValley : Addr} {C_InvalidColumn : Addr} {C_RainError : Addr} {f : Addr} {fd : FuncData} (F : FunD K "law" "law" (defArgs s_law) (defBody s_law) (defScope s_law) [] [] f fd) (c__law_draws : Cal P w K mg base CX0 1 "_law_draws" ["_law_script"] (spDraws K)) (c__law_heights : Cal P w K mg base CX0 2 "_law_heights" ["_law_draws_here"] (spHeights K)) (c__law_draw : Cal P w K mg base CX0 1 "_law_draw" ["_law_draws_here", "_law_many"] (spDraw K)) (m_len : mg "len" = none) (m_range : mg "range" = none) (m_int : mg "int" = none) (c__law_widths : Cal P w K mg base CX0 2 "_law_widths" ["_law_draws_here", "_law_many"] (spWidths K)) (cm2_Profile : CalM P w K mg base CX0 5 "Profile" C_Profile ["self", "heights", "widths"] (spInit K C_Profile) []) (c__law_crests : Cal P w K mg base CX0 1 "_law_crests" ["_law_heights_here"] (spCrests K)) (c__law_rims : CalG P w K mg base CX0 8 "_law_rims" ["_law_profile", "_law_valley"] (spTold18 K C_Profile C_Ratio C_InvalidValley C_InvalidColumn C_RainError)) (m_tuple : mg "tuple" = none) (m_isinstance : mg "isinstance" = none) (m_bool : mg "bool" = none) (cm1_Ratio : CalM P w K mg base CX0 2 "Ratio" C_Ratio ["self", "numerator", "denominator"] (spRInit K C_Ratio) [.int 1]) (cuc_repr : CalUC P w K mg base 1 C_Ratio "__repr__" (spRRepr K C_Ratio)) (m_repr : mg "repr" = none) (cp_heights : CalP P w K mg base CX0 1 C_Profile "heights" (getSp C_Profile "column_heights")) : FnOkG P w K mg base CX0 10 f fd ["_law_script"] (spLaw18 K C_Profile C_Ratio C_InvalidValley C_InvalidColumn C_RainError) :=
  Rv.FunD.okG F sc_law (fun vs H Q E h => by first | (obtain ⟨_, rfl, _⟩ := h; rfl) | (obtain ⟨_, _, rfl, _⟩ := h; rfl) | (obtain ⟨_, _, _, rfl, _⟩ := h; rfl) | (obtain ⟨_, _, _, _, rfl, _⟩ := h; rfl) | (obtain ⟨_, _, _, _, _, rfl, _⟩ := h; rfl) | (obtain ⟨_, _, _, _, _, _, rfl, _⟩ := h; rfl) | (obtain ⟨_, _, _, _, _, _, _, rfl, _⟩ := h; rfl) | (obtain ⟨_, _, _, _, _, _, _, _, rfl, _⟩ := h; rfl) | (obtain ⟨_, _, _, _, _, _, _, _, _, rfl, _⟩ := h; rfl) | (obtain ⟨_, _, _, _, _, _, _, _, _, _, rfl, _⟩ := h; rfl) | (obtain ⟨_, _, _, _, _, _, _, _, _, _, _, rfl, _⟩ := h; rfl) | (obtain ⟨_, _, _, _, _, _, _, _, _, _, _, _, rfl, _⟩ := h; rfl) | (obtain ⟨_, _, _, _, _, _, _, _, _, _, _, _, _, rfl, _⟩ := h; rfl) | (obtain ⟨_, _, _, _, _, _, _, _, _, _, _, _, _, _, rfl, _⟩ := h; rfl) | (obtain ⟨_, _, _, _, _, _, _, _, _, _, _, _, _, _, _, rfl, _⟩ := h; rfl) | (obtain ⟨_, _, _, _, _, _, _, _, _, _, _, _, _, _, _, _, rfl, _⟩ := h; rfl) | (obtain ⟨_, _, _, _, _, _, _, _, _, _, _, _, _, _, _, _, _, rfl, _⟩ := h; rfl) | (obtain ⟨_, _, _, _, _, _, _, _, _, _, _, _, _, _, _, _, _, _, rfl, _⟩ := h; rfl) | (obtain ⟨_, _, _, _, _, _, _, _, _, _, _, _, _, _, _, _, _, _, _, rfl, _⟩ := h; rfl) | (obtain ⟨_, _, _, _, _, _, _, _, _, _, _, _, _, _, _, _, _, _, _, _, rfl, _⟩ := h; rfl) | (obtain ⟨_, _, _, _, _, _, _, _, _, _, _, _, _, _, _, _, _, _, _, _, _, rfl, _⟩ := h; rfl) | (obtain ⟨_, _, _, _, _, _, _, _, _, _, _, _, _, _, _, _, _, _, _, _, _, _, rfl, _⟩ := h; rfl) | (obtain ⟨_, _, _, _, _, _, _, _, _, _, _, _, _, _, _, _, _, _, _, _, _, _, _, rfl, _⟩ := h; rfl) | (obtain ⟨_, _, _, _, _, _, _, _, _, _, _, _, _, _, _, _, _, _, _, _, _, _, _, _, rfl, _⟩ := h; rfl) | (obtain ⟨_, _, _, _, _, _, _, _, _, _, _, _, _, _, _, _, _, _, _, _, _, _, _, _, _, rfl, _⟩ := h; rfl)) (fun cdv A outer s H vs Q E hgd hr h => ⟨_, d_law c__law_draws c__law_heights c__law_draw m_len m_range m_int c__law_widths cm2_Profile c__law_crests c__law_rims m_tuple m_isinstance m_bool cm1_Ratio cuc_repr m_repr cp_heights hgd hr, p_law18 h⟩)
def D_InvalidValley___init__ : He.DefD := ⟨("InvalidValley", some "__init__"), "__init__", "InvalidValley.__init__", defArgs s_InvalidValley___init__, defBody s_InvalidValley___init__, defScope s_InvalidValley___init__, [], []⟩
def D__law_draws : He.DefD := ⟨("_law_draws", none), "_law_draws", "_law_draws", defArgs s__law_draws, defBody s__law_draws, defScope s__law_draws, [], []⟩
def D__law_draw : He.DefD := ⟨("_law_draw", none), "_law_draw", "_law_draw", defArgs s__law_draw, defBody s__law_draw, defScope s__law_draw, [], []⟩
def D_is_whole : He.DefD := ⟨("is_whole", none), "is_whole", "is_whole", defArgs s_is_whole, defBody s_is_whole, defScope s_is_whole, [], []⟩
def D_is_whole_within : He.DefD := ⟨("is_whole_within", none), "is_whole_within", "is_whole_within", defArgs s_is_whole_within, defBody s_is_whole_within, defScope s_is_whole_within, [], []⟩
def D_first_outside : He.DefD := ⟨("first_outside", none), "first_outside", "first_outside", defArgs s_first_outside, defBody s_first_outside, defScope s_first_outside, [], []⟩
def D_is_row : He.DefD := ⟨("is_row", none), "is_row", "is_row", defArgs s_is_row, defBody s_is_row, defScope s_is_row, [], []⟩
def D_check_heights : He.DefD := ⟨("check_heights", none), "check_heights", "check_heights", defArgs s_check_heights, defBody s_check_heights, defScope s_check_heights, [], []⟩
def D_check_widths : He.DefD := ⟨("check_widths", none), "check_widths", "check_widths", defArgs s_check_widths, defBody s_check_widths, defScope s_check_widths, [], []⟩
def D_Profile___init__ : He.DefD := ⟨("Profile", some "__init__"), "__init__", "Profile.__init__", defArgs s_Profile___init__, defBody s_Profile___init__, defScope s_Profile___init__, [.non], []⟩
def D_stretches : He.DefD := ⟨("stretches", none), "stretches", "stretches", defArgs s_stretches, defBody s_stretches, defScope s_stretches, [], []⟩
def D_is_peak : He.DefD := ⟨("is_peak", none), "is_peak", "is_peak", defArgs s_is_peak, defBody s_is_peak, defScope s_is_peak, [], []⟩
def D_peaks : He.DefD := ⟨("peaks", none), "peaks", "peaks", defArgs s_peaks, defBody s_peaks, defScope s_peaks, [], []⟩
def D_peak_heights : He.DefD := ⟨("peak_heights", none), "peak_heights", "peak_heights", defArgs s_peak_heights, defBody s_peak_heights, defScope s_peak_heights, [], []⟩
def D_rims : He.DefD := ⟨("rims", none), "rims", "rims", defArgs s_rims, defBody s_rims, defScope s_rims, [], []⟩
def D_common_divisor : He.DefD := ⟨("common_divisor", none), "common_divisor", "common_divisor", defArgs s_common_divisor, defBody s_common_divisor, defScope s_common_divisor, [], []⟩
def D_Ratio___init__ : He.DefD := ⟨("Ratio", some "__init__"), "__init__", "Ratio.__init__", defArgs s_Ratio___init__, defBody s_Ratio___init__, defScope s_Ratio___init__, [.int 1], []⟩
def D_Ratio___repr__ : He.DefD := ⟨("Ratio", some "__repr__"), "__repr__", "Ratio.__repr__", defArgs s_Ratio___repr__, defBody s_Ratio___repr__, defScope s_Ratio___repr__, [], []⟩
def D__law_heights : He.DefD := ⟨("_law_heights", none), "_law_heights", "_law_heights", defArgs s__law_heights, defBody s__law_heights, defScope s__law_heights, [], []⟩
def D__law_widths : He.DefD := ⟨("_law_widths", none), "_law_widths", "_law_widths", defArgs s__law_widths, defBody s__law_widths, defScope s__law_widths, [], []⟩
def D__law_rims : He.DefD := ⟨("_law_rims", none), "_law_rims", "_law_rims", defArgs s__law_rims, defBody s__law_rims, defScope s__law_rims, [], []⟩
def D__law_crests : He.DefD := ⟨("_law_crests", none), "_law_crests", "_law_crests", defArgs s__law_crests, defBody s__law_crests, defScope s__law_crests, [], []⟩
def D_law : He.DefD := ⟨("law", none), "law", "law", defArgs s_law, defBody s_law, defScope s_law, [], []⟩
def fn : List He.DefD := [D_InvalidValley___init__, D__law_draws, D__law_draw, D_is_whole, D_is_whole_within, D_first_outside, D_is_row, D_check_heights, D_check_widths, D_Profile___init__, D_stretches, D_is_peak, D_peaks, D_peak_heights, D_rims, D_common_divisor, D_Ratio___init__, D_Ratio___repr__, D__law_heights, D__law_widths, D__law_rims, D__law_crests, D_law]
def loose : List PySem.Str := [("_wall" : PySem.Str), ("__name__" : PySem.Str), ("RainError" : PySem.Str), ("InvalidNumber" : PySem.Str), ("InvalidProfile" : PySem.Str), ("InvalidWidths" : PySem.Str), ("InvalidColumn" : PySem.Str), ("InvalidValley" : PySem.Str), ("LimitExceeded" : PySem.Str), ("is_whole" : PySem.Str), ("is_whole_within" : PySem.Str), ("first_outside" : PySem.Str), ("stretches" : PySem.Str), ("is_peak" : PySem.Str), ("peaks" : PySem.Str), ("peak_heights" : PySem.Str), ("rims" : PySem.Str), ("MOST_COLUMNS" : PySem.Str), ("GREATEST" : PySem.Str), ("is_row" : PySem.Str), ("check_heights" : PySem.Str), ("check_widths" : PySem.Str), ("Profile" : PySem.Str), ("common_divisor" : PySem.Str), ("as_ratio" : PySem.Str), ("gap" : PySem.Str), ("Ratio" : PySem.Str), ("_law_draws" : PySem.Str), ("_law_draw" : PySem.Str), ("_law_heights" : PySem.Str), ("_law_widths" : PySem.Str), ("_law_rims" : PySem.Str), ("_law_crests" : PySem.Str)]
def fa : List He.Fa := [.free "IndexError", .free "len", .free "int", .free "isinstance", .free "bool", .free "enumerate", .free "tuple", .free "list", .int "MOST_COLUMNS" 60, .int "GREATEST" 1000000000000000000000000000000, .free "range", .free "abs", .free "repr", .glo "InvalidValley", .glo "Profile", .cls "Profile", .glo "Ratio", .cls "Ratio", .glo "RainError", .glo "InvalidColumn", .noat "Profile" "column_heights", .noat "Profile" "column_widths", .mkr "Profile", .noat "Ratio" "reduced_top", .noat "Ratio" "reduced_bottom", .mkr "Ratio", .meth "InvalidValley" "__init__", .glo "_law_draws", .glo "_law_draw", .glo "is_whole", .glo "is_whole_within", .glo "first_outside", .glo "is_row", .glo "check_heights", .glo "check_widths", .glo "stretches", .glo "is_peak", .glo "peaks", .glo "peak_heights", .glo "rims", .glo "common_divisor", .meth "Ratio" "__repr__", .glo "_law_heights", .glo "_law_widths", .glo "_law_rims", .glo "_law_crests", .glo "law"]
abbrev s_get_heights : Stmt := inClass (top 25) 1
theorem sc_get_heights : FnScope ["self"] ["self"] (defScope s_get_heights) := ⟨rfl, rfl, rfl, by decide +kernel, rfl, by decide +kernel, by decide +kernel⟩
def G_heights : Gt := ⟨"Profile", "heights", "Profile.heights", defArgs s_get_heights, defBody s_get_heights, defScope s_get_heights⟩
theorem ok_get_heights {P : Program} {w : World} {K : PySem.W.Frag} {mg : Str → Option Value} {base : Heap} {C f : Addr} {fd : FuncData} (F : FunD K "heights" "Profile.heights" (defArgs s_get_heights) (defBody s_get_heights) (defScope s_get_heights) [] [] f fd) (c : Cls K C) (n : NoAttr K C "column_heights") : FnOk P w K mg base CX0 1 f fd ["self"] (getSp C "column_heights") := by
  obtain ⟨oc, od, dV, kV, doc, pm, an, cdv, ct, osl, rfl, lk, hcd, _, _⟩ := F.ex
  exact fn_getter (N := ["self"]) lk hcd sc_get_heights rfl rfl c n
def gts : List Gt := [G_heights]
def exB (K : PySem.W.Frag) : Bool := prB K "Profile" "heights" && (clB K "Profile" && (clB K "Ratio" && (kiB K "Ratio" && (decide (PySem.W.kitOne K (.ref (He.ga K "Ratio")) (.type "int") = some false) && (oxB K "InvalidValley" "IndexError.__new__" bm_IndexError && (xfB K (He.ga K "InvalidValley") && (decide (PySem.W.findIn K (.ref (He.ga K "InvalidValley")) "value" = some none) && (ecB K "InvalidValley" && (viB K "IndexError" && (vxB K))))))))))
theorem exb_heights {K : PySem.W.Frag} (h : exB K = true) : prB K "Profile" "heights" = true := (He.ba h).1
theorem exb_cls {K : PySem.W.Frag} (h : exB K = true) : clB K "Profile" = true := (He.ba (He.ba h).2).1
theorem exb_clsR {K : PySem.W.Frag} (h : exB K = true) : clB K "Ratio" = true := (He.ba (He.ba (He.ba h).2).2).1
theorem exb_ki {K : PySem.W.Frag} (h : exB K = true) : kiB K "Ratio" = true := (He.ba (He.ba (He.ba (He.ba h).2).2).2).1
theorem exb_rki {K : PySem.W.Frag} (h : exB K = true) : decide (PySem.W.kitOne K (.ref (He.ga K "Ratio")) (.type "int") = some false) = true := (He.ba (He.ba (He.ba (He.ba (He.ba h).2).2).2).2).1
theorem exb_ox_InvalidValley {K : PySem.W.Frag} (h : exB K = true) : oxB K "InvalidValley" "IndexError.__new__" bm_IndexError = true := (He.ba (He.ba (He.ba (He.ba (He.ba (He.ba h).2).2).2).2).2).1
theorem exb_xf_InvalidValley {K : PySem.W.Frag} (h : exB K = true) : xfB K (He.ga K "InvalidValley") = true := (He.ba (He.ba (He.ba (He.ba (He.ba (He.ba (He.ba h).2).2).2).2).2).2).1
theorem exb_no_InvalidValley {K : PySem.W.Frag} (h : exB K = true) : decide (PySem.W.findIn K (.ref (He.ga K "InvalidValley")) "value" = some none) = true := (He.ba (He.ba (He.ba (He.ba (He.ba (He.ba (He.ba (He.ba h).2).2).2).2).2).2).2).1
theorem exb_ec_InvalidValley {K : PySem.W.Frag} (h : exB K = true) : ecB K "InvalidValley" = true := (He.ba (He.ba (He.ba (He.ba (He.ba (He.ba (He.ba (He.ba (He.ba h).2).2).2).2).2).2).2).2).1
theorem exb_vi_IndexError {K : PySem.W.Frag} (h : exB K = true) : viB K "IndexError" = true := (He.ba (He.ba (He.ba (He.ba (He.ba (He.ba (He.ba (He.ba (He.ba (He.ba h).2).2).2).2).2).2).2).2).2).1
theorem exb_vx {K : PySem.W.Frag} (h : exB K = true) : vxB K = true := (He.ba (He.ba (He.ba (He.ba (He.ba (He.ba (He.ba (He.ba (He.ba (He.ba h).2).2).2).2).2).2).2).2).2).2
abbrev RR : PySem.W.OpenRow := PySem.W.OpenLaw.row PySem.Challenge.rw_rainvalleys_k18_rims_of_valleys
abbrev hk : PySem.W.Hook := hookR 6 fa fn gts exB
def ob (s : PySem.W.SharedT) : AlR := obsRG 6 fa fn gts exB (HandSHeadRun.getT s)
theorem ob_eq (s : PySem.W.SharedT) : ob s = hk.obs s.abs := obsRG_eq (HandSHeadRun.getT_eq s)
theorem run (w : World) : HandSHeadRun.RunEq RR (PySem.W.view RR.prog [38]) hk ob 12000 loose w := by
  intro os
  kernel_rfl
theorem facts {P : Program} {w : World} {K : PySem.W.Frag} {h : Heap} {mg : Str → Option Value} {f : Addr} (X : K.In h) (G : h.Ns mainGlobals mg) (hfa : mg ("law" : Str) = some (.ref f)) (c : SaysR fa fn gts exB K) :
    ∃ fd : FuncData, (∀ (s : Shared) (v : Value), BindsTo s fd ⟨[v], []⟩ [("_law_script", v)]) ∧ (PCls K (He.ga K "Profile") ∧ RCls K (He.ga K "Ratio") ∧ RKi K (He.ga K "Ratio") ∧ VX K (He.ga K "InvalidValley") (He.ga K "InvalidColumn") (He.ga K "RainError")) ∧ ∀ base : Heap, K.In base → base.Ns mainGlobals mg → FnOkG P w K mg base CX0 10 f fd ["_law_script"] (spLaw18 K (He.ga K "Profile") (He.ga K "Ratio") (He.ga K "InvalidValley") (He.ga K "InvalidColumn") (He.ga K "RainError")) := by
  obtain ⟨fd0, F0⟩ := c.d.def_ 0 (d := D_InvalidValley___init__) rfl
  obtain ⟨fd1, F1⟩ := c.d.def_ 1 (d := D__law_draws) rfl
  obtain ⟨fd2, F2⟩ := c.d.def_ 2 (d := D__law_draw) rfl
  obtain ⟨fd3, F3⟩ := c.d.def_ 3 (d := D_is_whole) rfl
  obtain ⟨fd4, F4⟩ := c.d.def_ 4 (d := D_is_whole_within) rfl
  obtain ⟨fd5, F5⟩ := c.d.def_ 5 (d := D_first_outside) rfl
  obtain ⟨fd6, F6⟩ := c.d.def_ 6 (d := D_is_row) rfl
  obtain ⟨fd7, F7⟩ := c.d.def_ 7 (d := D_check_heights) rfl
  obtain ⟨fd8, F8⟩ := c.d.def_ 8 (d := D_check_widths) rfl
  obtain ⟨fd9, F9⟩ := c.d.def_ 9 (d := D_Profile___init__) rfl
  obtain ⟨fd10, F10⟩ := c.d.def_ 10 (d := D_stretches) rfl
  obtain ⟨fd11, F11⟩ := c.d.def_ 11 (d := D_is_peak) rfl
  obtain ⟨fd12, F12⟩ := c.d.def_ 12 (d := D_peaks) rfl
  obtain ⟨fd13, F13⟩ := c.d.def_ 13 (d := D_peak_heights) rfl
  obtain ⟨fd14, F14⟩ := c.d.def_ 14 (d := D_rims) rfl
  obtain ⟨fd15, F15⟩ := c.d.def_ 15 (d := D_common_divisor) rfl
  obtain ⟨fd16, F16⟩ := c.d.def_ 16 (d := D_Ratio___init__) rfl
  obtain ⟨fd17, F17⟩ := c.d.def_ 17 (d := D_Ratio___repr__) rfl
  obtain ⟨fd18, F18⟩ := c.d.def_ 18 (d := D__law_heights) rfl
  obtain ⟨fd19, F19⟩ := c.d.def_ 19 (d := D__law_widths) rfl
  obtain ⟨fd20, F20⟩ := c.d.def_ 20 (d := D__law_rims) rfl
  obtain ⟨fd21, F21⟩ := c.d.def_ 21 (d := D__law_crests) rfl
  obtain ⟨fd22, F22⟩ := c.d.def_ 22 (d := D_law) rfl
  have e := hfa.symm.trans (He.glo_ok X G (c.d.fact 46 (f := .glo "law") rfl))
  cases e
  have b := FunD.bindsA (ps := ["_law_script"]) F22 fun _ _ _ _ _ _ us hl => match us, hl with | [_], _ => rfl
  have sdP : PCls K (He.ga K "Profile") := pcls_of (He.cls_ok (c.d.fact 15 (f := .cls "Profile") rfl)) (He.noat_ok (c.d.fact 20 (f := .noat "Profile" "column_heights") rfl)) (He.noat_ok (c.d.fact 21 (f := .noat "Profile" "column_widths") rfl)) (exb_cls c.x)
  have sdR : RCls K (He.ga K "Ratio") := rcls_of (He.cls_ok (c.d.fact 17 (f := .cls "Ratio") rfl)) (He.noat_ok (c.d.fact 23 (f := .noat "Ratio" "reduced_top") rfl)) (He.noat_ok (c.d.fact 24 (f := .noat "Ratio" "reduced_bottom") rfl)) (exb_clsR c.x) (exb_ki c.x)
  have sd0 := And.intro sdP sdR
  have sd : PCls K (He.ga K "Profile") ∧ RCls K (He.ga K "Ratio") ∧ RKi K (He.ga K "Ratio") ∧ VX K (He.ga K "InvalidValley") (He.ga K "InvalidColumn") (He.ga K "RainError") := ⟨sd0.1, sd0.2, rki_of (exb_rki c.x), vx_of (exb_ox_InvalidValley c.x) (exb_no_InvalidValley c.x) (exb_vx c.x)⟩
  refine ⟨fd22, fun s v => b s [v] rfl, sd, fun base _ _ => ?_⟩
  have m_IndexError := He.free_ok X G (c.d.fact 0 (f := .free "IndexError") rfl)
  have m_len := He.free_ok X G (c.d.fact 1 (f := .free "len") rfl)
  have m_int := He.free_ok X G (c.d.fact 2 (f := .free "int") rfl)
  have m_isinstance := He.free_ok X G (c.d.fact 3 (f := .free "isinstance") rfl)
  have m_bool := He.free_ok X G (c.d.fact 4 (f := .free "bool") rfl)
  have m_enumerate := He.free_ok X G (c.d.fact 5 (f := .free "enumerate") rfl)
  have m_tuple := He.free_ok X G (c.d.fact 6 (f := .free "tuple") rfl)
  have m_list := He.free_ok X G (c.d.fact 7 (f := .free "list") rfl)
  have m_MOST_COLUMNS := He.int_ok X G (c.d.fact 8 (f := .int "MOST_COLUMNS" 60) rfl)
  have m_GREATEST := He.int_ok X G (c.d.fact 9 (f := .int "GREATEST" 1000000000000000000000000000000) rfl)
  have m_range := He.free_ok X G (c.d.fact 10 (f := .free "range") rfl)
  have m_abs := He.free_ok X G (c.d.fact 11 (f := .free "abs") rfl)
  have m_repr := He.free_ok X G (c.d.fact 12 (f := .free "repr") rfl)
  have g_InvalidValley := He.glo_ok X G (c.d.fact 13 (f := .glo "InvalidValley") rfl)
  have g_Profile := He.glo_ok X G (c.d.fact 14 (f := .glo "Profile") rfl)
  have k_Profile := He.cls_ok (c.d.fact 15 (f := .cls "Profile") rfl)
  have g_Ratio := He.glo_ok X G (c.d.fact 16 (f := .glo "Ratio") rfl)
  have k_Ratio := He.cls_ok (c.d.fact 17 (f := .cls "Ratio") rfl)
  have g_RainError := He.glo_ok X G (c.d.fact 18 (f := .glo "RainError") rfl)
  have g_InvalidColumn := He.glo_ok X G (c.d.fact 19 (f := .glo "InvalidColumn") rfl)
  have nH := He.noat_ok (c.d.fact 20 (f := .noat "Profile" "column_heights") rfl)
  have nW := He.noat_ok (c.d.fact 21 (f := .noat "Profile" "column_widths") rfl)
  have mk := He.mkr_ok (c.d.fact 22 (f := .mkr "Profile") rfl)
  have nT := He.noat_ok (c.d.fact 23 (f := .noat "Ratio" "reduced_top") rfl)
  have nB := He.noat_ok (c.d.fact 24 (f := .noat "Ratio" "reduced_bottom") rfl)
  have mkR := He.mkr_ok (c.d.fact 25 (f := .mkr "Ratio") rfl)
  obtain ⟨fg0, Fg0⟩ := c.g 0 (g := G_heights) rfl
  have cp_heights : CalP P w K mg base CX0 1 (He.ga K "Profile") "heights" (getSp (He.ga K "Profile") "column_heights") := ⟨_, _, fg0, ok_get_heights Fg0 k_Profile nH, k_Profile, pr_of (exb_heights c.x), Fg0.bindsN fun _ _ _ _ _ _ us hl => match us, hl with | [_], _ => rfl⟩
  have ox_InvalidValley := ox_ok PySem.F.excBase_IndexError mok_ie (exb_ox_InvalidValley c.x)
  have xf_InvalidValley := xfB_ok (exb_xf_InvalidValley c.x)
  have no_InvalidValley_value := of_decide_eq_true (exb_no_InvalidValley c.x)
  have ec_InvalidValley := ec_of (exb_ec_InvalidValley c.x)
  have vi_IndexError := vi_ok (exb_vi_IndexError c.x)
  have me_ini_InvalidValley := He.meth_ok (c.d.fact 26 (f := .meth "InvalidValley" "__init__") rfl)
  have cx_InvalidValley : CalX P w K mg base CX0 1 "InvalidValley" (He.ga K "InvalidValley") ["self", "value"] (spExc K (He.ga K "InvalidValley") "IndexError" "IndexError.__new__" "IndexError.__init__" bm_IndexError "value") [] "IndexError" "IndexError.__new__" "IndexError.__init__" bm_IndexError := ⟨_, fd0, [], ok_InvalidValley___init__ F0 vi_IndexError m_IndexError, ox_InvalidValley, me_ini_InvalidValley.at_, beq_iff_eq.mp me_ini_InvalidValley.fn, g_InvalidValley, F0.bindsN fun _ _ _ _ _ _ us hl => match us, hl with | [_, _], _ => rfl, .nil⟩
  have c__law_draws : Cal P w K mg base CX0 1 "_law_draws" ["_law_script"] (spDraws K) := ⟨_, fd1, ok__law_draws F1 , He.glo_ok X G (c.d.fact 27 (f := .glo "_law_draws") rfl), F1.kp, F1.bindsN fun _ _ _ _ _ _ us hl => match us, hl with | [_], _ => rfl⟩
  have c__law_draw : Cal P w K mg base CX0 1 "_law_draw" ["_law_draws_here", "_law_many"] (spDraw K) := ⟨_, fd2, ok__law_draw F2 m_len, He.glo_ok X G (c.d.fact 28 (f := .glo "_law_draw") rfl), F2.kp, F2.bindsN fun _ _ _ _ _ _ us hl => match us, hl with | [_, _], _ => rfl⟩
  have c_is_whole : Cal P w K mg base CX0 1 "is_whole" ["value"] (spWhole K) := ⟨_, fd3, ok_is_whole F3 m_int m_isinstance m_bool, He.glo_ok X G (c.d.fact 29 (f := .glo "is_whole") rfl), F3.kp, F3.bindsN fun _ _ _ _ _ _ us hl => match us, hl with | [_], _ => rfl⟩
  have c_is_whole_within : Cal P w K mg base CX0 2 "is_whole_within" ["value", "least", "greatest"] (spWithin K) := ⟨_, fd4, ok_is_whole_within F4 c_is_whole, He.glo_ok X G (c.d.fact 30 (f := .glo "is_whole_within") rfl), F4.kp, F4.bindsN fun _ _ _ _ _ _ us hl => match us, hl with | [_, _, _], _ => rfl⟩
  have c_first_outside : Cal P w K mg base CX0 3 "first_outside" ["values", "least", "greatest"] (spOutside K) := ⟨_, fd5, ok_first_outside F5 m_enumerate c_is_whole_within, He.glo_ok X G (c.d.fact 31 (f := .glo "first_outside") rfl), F5.kp, F5.bindsN fun _ _ _ _ _ _ us hl => match us, hl with | [_, _, _], _ => rfl⟩
  have c_is_row : Cal P w K mg base CX0 1 "is_row" ["values", "least", "most"] (spRow K) := ⟨_, fd6, ok_is_row F6 m_tuple m_list m_isinstance m_len, He.glo_ok X G (c.d.fact 32 (f := .glo "is_row") rfl), F6.kp, F6.bindsN fun _ _ _ _ _ _ us hl => match us, hl with | [_, _, _], _ => rfl⟩
  have c_check_heights : Cal P w K mg base CX0 4 "check_heights" ["heights"] (spCheckH K) := ⟨_, fd7, ok_check_heights F7 m_MOST_COLUMNS c_is_row m_GREATEST c_first_outside, He.glo_ok X G (c.d.fact 33 (f := .glo "check_heights") rfl), F7.kp, F7.bindsN fun _ _ _ _ _ _ us hl => match us, hl with | [_], _ => rfl⟩
  have c_check_widths : Cal P w K mg base CX0 4 "check_widths" ["widths", "many"] (spCheckW K) := ⟨_, fd8, ok_check_widths F8 c_is_row m_GREATEST c_first_outside, He.glo_ok X G (c.d.fact 34 (f := .glo "check_widths") rfl), F8.kp, F8.bindsN fun _ _ _ _ _ _ us hl => match us, hl with | [_, _], _ => rfl⟩
  obtain ⟨ds1, v1, b1⟩ := F9.binds1 (ps := ["self", "heights", "widths"]) 2 0 (show ([V.non] : List V) ≠ [] from List.cons_ne_nil _ _) rfl (fun _ _ _ _ _ _ _ us its h1 h2 => match us, its, h1, h2 with | [_, _], [_], _, _ => ⟨_, rfl, rfl⟩)
  obtain ⟨ds2, v2, b2⟩ := F9.binds1 (ps := ["self", "heights", "widths"]) 3 1 (show ([V.non] : List V) ≠ [] from List.cons_ne_nil _ _) rfl (fun _ _ _ _ _ _ _ us its h1 h2 => match us, its, h1, h2 with | [_, _, _], [_], _, _ => ⟨_, rfl, rfl⟩)
  have cm1_Profile : CalM P w K mg base CX0 5 "Profile" (He.ga K "Profile") ["self", "heights", "widths"] (spInit K (He.ga K "Profile")) [.non] := ⟨_, fd9, ds1, ok_Profile___init__ F9 c_check_heights m_len c_check_widths m_tuple, mk, g_Profile, b1, v1⟩
  have cm2_Profile : CalM P w K mg base CX0 5 "Profile" (He.ga K "Profile") ["self", "heights", "widths"] (spInit K (He.ga K "Profile")) [] := ⟨_, fd9, ds2, ok_Profile___init__ F9 c_check_heights m_len c_check_widths m_tuple, mk, g_Profile, b2, v2⟩
  have c_stretches : Cal P w K mg base CX0 1 "stretches" ["heights"] (spStretches K) := ⟨_, fd10, ok_stretches F10 m_len m_range, He.glo_ok X G (c.d.fact 35 (f := .glo "stretches") rfl), F10.kp, F10.bindsN fun _ _ _ _ _ _ us hl => match us, hl with | [_], _ => rfl⟩
  have c_is_peak : Cal P w K mg base CX0 1 "is_peak" ["heights", "first", "last"] (spIsPeak K) := ⟨_, fd11, ok_is_peak F11 m_len, He.glo_ok X G (c.d.fact 36 (f := .glo "is_peak") rfl), F11.kp, F11.bindsN fun _ _ _ _ _ _ us hl => match us, hl with | [_, _, _], _ => rfl⟩
  have c_peaks : Cal P w K mg base CX0 3 "peaks" ["profile"] (spPeaks K (He.ga K "Profile")) := ⟨_, fd12, ok_peaks F12 cp_heights c_stretches c_is_peak, He.glo_ok X G (c.d.fact 37 (f := .glo "peaks") rfl), F12.kp, F12.bindsN fun _ _ _ _ _ _ us hl => match us, hl with | [_], _ => rfl⟩
  have c_peak_heights : Cal P w K mg base CX0 4 "peak_heights" ["profile"] (spTops K (He.ga K "Profile")) := ⟨_, fd13, ok_peak_heights F13 c_peaks cp_heights, He.glo_ok X G (c.d.fact 38 (f := .glo "peak_heights") rfl), F13.kp, F13.bindsN fun _ _ _ _ _ _ us hl => match us, hl with | [_], _ => rfl⟩
  have c_rims : Cal P w K mg base (L2.CX P w) 6 "rims" ["profile", "valley"] (spRims K (He.ga K "Profile") (He.ga K "InvalidValley")) := ⟨_, fd14, ok_rims F14 c_peak_heights m_len c_is_whole_within cx_InvalidValley, He.glo_ok X G (c.d.fact 39 (f := .glo "rims") rfl), F14.kp, F14.bindsN fun _ _ _ _ _ _ us hl => match us, hl with | [_, _], _ => rfl⟩
  have c_common_divisor : Cal P w K mg base CX0 1 "common_divisor" ["first", "second"] (spGcd K) := ⟨_, fd15, ok_common_divisor F15 , He.glo_ok X G (c.d.fact 40 (f := .glo "common_divisor") rfl), F15.kp, F15.bindsN fun _ _ _ _ _ _ us hl => match us, hl with | [_, _], _ => rfl⟩
  obtain ⟨dr1, vr1, br1⟩ := F16.binds1 (ps := ["self", "numerator", "denominator"]) 2 0 (show ([V.int 1] : List V) ≠ [] from List.cons_ne_nil _ _) rfl (fun _ _ _ _ _ _ _ us its h1 h2 => match us, its, h1, h2 with | [_, _], [_], _, _ => ⟨_, rfl, rfl⟩)
  obtain ⟨dr2, vr2, br2⟩ := F16.binds1 (ps := ["self", "numerator", "denominator"]) 3 1 (show ([V.int 1] : List V) ≠ [] from List.cons_ne_nil _ _) rfl (fun _ _ _ _ _ _ _ us its h1 h2 => match us, its, h1, h2 with | [_, _, _], [_], _, _ => ⟨_, rfl, rfl⟩)
  have cm1_Ratio : CalM P w K mg base CX0 2 "Ratio" (He.ga K "Ratio") ["self", "numerator", "denominator"] (spRInit K (He.ga K "Ratio")) [.int 1] := ⟨_, fd16, dr1, ok_Ratio___init__ F16 c_is_whole m_abs c_common_divisor, mkR, g_Ratio, br1, vr1⟩
  have cm2_Ratio : CalM P w K mg base CX0 2 "Ratio" (He.ga K "Ratio") ["self", "numerator", "denominator"] (spRInit K (He.ga K "Ratio")) [] := ⟨_, fd16, dr2, ok_Ratio___init__ F16 c_is_whole m_abs c_common_divisor, mkR, g_Ratio, br2, vr2⟩
  have me_rrepr := He.meth_ok (c.d.fact 41 (f := .meth "Ratio" "__repr__") rfl)
  have cuc_repr : CalUC P w K mg base 1 (He.ga K "Ratio") "__repr__" (spRRepr K (He.ga K "Ratio")) := ⟨_, fd17, ok_Ratio___repr__ F17 , me_rrepr.at_, me_rrepr.fn, F17.bindsN fun _ _ _ _ _ _ us hl => match us, hl with | [_], _ => rfl⟩
  have c__law_heights : Cal P w K mg base CX0 2 "_law_heights" ["_law_draws_here"] (spHeights K) := ⟨_, fd18, ok__law_heights F18 c__law_draw m_int m_range, He.glo_ok X G (c.d.fact 42 (f := .glo "_law_heights") rfl), F18.kp, F18.bindsN fun _ _ _ _ _ _ us hl => match us, hl with | [_], _ => rfl⟩
  have c__law_widths : Cal P w K mg base CX0 2 "_law_widths" ["_law_draws_here", "_law_many"] (spWidths K) := ⟨_, fd19, ok__law_widths F19 c__law_draw m_range, He.glo_ok X G (c.d.fact 43 (f := .glo "_law_widths") rfl), F19.kp, F19.bindsN fun _ _ _ _ _ _ us hl => match us, hl with | [_, _], _ => rfl⟩
  have c__law_rims : CalG P w K mg base CX0 8 "_law_rims" ["_law_profile", "_law_valley"] (spTold18 K (He.ga K "Profile") (He.ga K "Ratio") (He.ga K "InvalidValley") (He.ga K "InvalidColumn") (He.ga K "RainError")) := ⟨_, fd20, ok__law_rims F20 c_rims g_RainError ec_InvalidValley m_isinstance g_InvalidColumn m_IndexError xf_InvalidValley no_InvalidValley_value cuc_repr m_repr g_InvalidValley, He.glo_ok X G (c.d.fact 44 (f := .glo "_law_rims") rfl), F20.kp, F20.bindsN fun _ _ _ _ _ _ us hl => match us, hl with | [_, _], _ => rfl⟩
  have c__law_crests : Cal P w K mg base CX0 1 "_law_crests" ["_law_heights_here"] (spCrests K) := ⟨_, fd21, ok__law_crests F21 m_len m_range, He.glo_ok X G (c.d.fact 45 (f := .glo "_law_crests") rfl), F21.kp, F21.bindsN fun _ _ _ _ _ _ us hl => match us, hl with | [_], _ => rfl⟩
  exact ok_law F22 c__law_draws c__law_heights c__law_draw m_len m_range m_int c__law_widths cm2_Profile c__law_crests c__law_rims m_tuple m_isinstance m_bool cm1_Ratio cuc_repr m_repr cp_heights
end Rv
open PySem PySem.W PySem.Calls PyProof.Rows
theorem PySem.Challenge.cw_rainvalleys_k18_rims_of_valleys_holds : PySem.Challenge.rw_rainvalleys_k18_rims_of_valleys.Holds := by
  w_on; o_law
  refine HandSHeadRun.head_any (r := OpenLaw.row PySem.Challenge.rw_rainvalleys_k18_rims_of_valleys) (q := view (OpenLaw.row PySem.Challenge.rw_rainvalleys_k18_rims_of_valleys).prog [38]) (H := Rv.hk) (ob := Rv.ob) (M := 12000) (loose := Rv.loose) (d := HandSHeadRun.topDef (OpenLaw.row PySem.Challenge.rw_rainvalleys_k18_rims_of_valleys).prog 38) (kwd := []) Rv.ob_eq
    (by kernel_rfl) (fun s => by kernel_rfl) Rv.run (by kernel_rfl) (by kernel_rfl) (by kernel_rfl) (by rfl) (by first | assumption | decide +kernel) (by decide +kernel) ⟨rfl, rfl, rfl, rfl, rfl, by decide +kernel⟩ ?hw ?hc
  case hw => w_witness2
  case hc =>
    refine Rv.walk_ofG (l := PySem.Challenge.rw_rainvalleys_k18_rims_of_valleys) (n := 63) (k := 10) (x := "_law_script") (CX := L2.CX0) rfl (by decide) (by kernel_rfl) ⟨rfl, by decide, by decide⟩ ?F (fun _ _ _ _ z => z)
    intro w mg fa h Y G hmg0
    obtain ⟨K, KX, c⟩ := Y
    have hmg : mg ("law" : PySem.Str) = some (.ref fa) := by
      have e : (HandSHeadRun.topDef (OpenLaw.row PySem.Challenge.rw_rainvalleys_k18_rims_of_valleys).prog 38).name = ("law" : PySem.Str) := by kernel_rfl
      rw [← e]
      exact hmg0
    obtain ⟨fd, hb, sd, hF⟩ := Rv.facts (P := (PySem.Challenge.rw_rainvalleys_k18_rims_of_valleys).prog) (w := w) KX G hmg c
    exact ⟨K, fd, _, KX, hb, fun H a ns hl hO hS => ⟨a, ns, rfl, hS, sd.1, sd.2.1, sd.2.2.1, sd.2.2.2, fun _ => rfl⟩, hF⟩
