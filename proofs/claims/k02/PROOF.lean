import PyProof.Rows.All
import Wide.All
import OpenK.AllK
import Wide.FinOn
import HandS.ForMost
import HandS.Codes
import HandS.Evl
import HandS.IsInst
import HandS.Rev
import HandS.Deep
import HandS.Small
import HandS.FStr
import HandS.More
import HandS.Style
import HandS.StrMore
import HandS.Flow
import HandS.Conv
import HandS.ClsMeth
import HandS.WrittenGet
import KE.GoesEnum
import KE.GoesEnumKw
import KE.KExcInit
import KE.KExcIs
import HandS.Exc
import HandS.ExcInit
import HandS.ExcField
import HandS.ExcIs
import HandS.TryOnly
import HandS.Lambda
import PyProof.ExcBaseAll.LookupError
import HandS.EndTab
import HandS.OwnEq
import HandS.ListItems
import KE.KCallOwn
import HandS.HeadHook4
import HandS.HeadWalk
import HandS.Head2
import PySem.Challenge.RW_listandpage_k02_schemas_refused
set_option Elab.async false
set_option linter.all false
set_option maxRecDepth 100000
set_option maxHeartbeats 4000000
namespace LP
open PySem L2
/-! ### the reading, rule by rule -/
section
variable {D : Ends} {σ : L2.St} {H : Hp} {Q : VK} {t u : TS} {c c' : TT} {te ta tb tc : TE} {r r' : R2} {g : TG} {v x y : V} {i : Nat} {K : PySem.W.Frag} {tas : TA}
theorem w_seq (h : t { D with nx := u D } σ H) : tSeq t u D σ H := h
theorem w_next (h : D.nx σ H) : tNext D σ H := h
theorem w_ifS (h : c σ H fun b H1 => if b = true then t D σ H1 else u D σ H1) : tIfS c t u D σ H := h
theorem w_asg (h : te σ H fun x H1 => g x σ H1 D.nx) : tAsg te g D σ H := h
theorem w_gName {k : L2.St → Hp → Prop} (h : k (σ.set i (some v)) H) : gName i v σ H k := h
theorem w_ret (h : te σ H D.rt) : tRet te D σ H := h
theorem w_retN (h : D.rt .non H) : tRetN D σ H := h
theorem w_drop (h : te σ H fun _ H1 => D.nx σ H1) : tDrop te D σ H := h
theorem w_var (e : σ[i]? = some (some v)) (h : Q v H) : tVar i σ H Q := ⟨v, e, h⟩
theorem w_c (h : Q v H) : tC v σ H Q := h
theorem w_op (h : ta σ H fun x H1 => tb σ H1 fun y H2 => r x y H2 Q) : tOp r ta tb σ H Q := h
theorem w_test {q : Bool → Hp → Prop} (h : te σ H fun x H1 => ∃ k, x = .bl k ∧ q k H1) : tTest te σ H q := h
theorem w_B {q : Bool → Hp → Prop} (h : te σ H fun x H1 => ∃ k, x = .bl k ∧ q k H1) : tB te σ H q := h
theorem w_kb {k : Bool} {q : Bool → Prop} (h : q k) : ∃ k', V.bl k = .bl k' ∧ q k' := ⟨k, rfl, h⟩
theorem w_I0 {g : Int → Int → V} {i j : Int} (h : Q (g i j) H) : rI0 g (.int i) (.int j) H Q := ⟨i, j, rfl, rfl, h⟩
theorem w_I {C : Int → Int → Prop} {g : Int → Int → V} {i j : Int} (hc : C i j) (h : Q (g i j) H) : rI C g (.int i) (.int j) H Q := ⟨i, j, rfl, rfl, hc, h⟩
theorem w_and {q : Bool → Hp → Prop} (h : c σ H fun b H1 => if b = true then c' σ H1 q else q false H1) : tAnd c c' σ H q := h
theorem w_or {q : Bool → Hp → Prop} (h : c σ H fun b H1 => if b = true then q true H1 else c' σ H1 q) : tOr c c' σ H q := h
theorem w_not {q : Bool → Hp → Prop} (h : c σ H fun b H1 => q (!b) H1) : tNot c σ H q := h
theorem w_andV (h : ta σ H fun x H1 => ∃ c, x = .bl c ∧ if c = true then tb σ H1 Q else Q (.bl false) H1) : tAndV ta tb σ H Q := h
theorem w_orV (h : ta σ H fun x H1 => ∃ c, x = .bl c ∧ if c = true then Q (.bl true) H1 else tb σ H1 Q) : tOrV ta tb σ H Q := h
theorem w_notV (h : ta σ H fun x H1 => ∃ c, x = .bl c ∧ Q (.bl (!c)) H1) : tNotV ta σ H Q := h
theorem w_ifE {t : TT} (h : t σ H fun c H1 => if c = true then ta σ H1 Q else tb σ H1 Q) : tIf t ta tb σ H Q := h
theorem w_nil {q : List V → Hp → Prop} (h : q [] H) : tNil σ H q := h
theorem w_cons {q : List V → Hp → Prop} (h : ta σ H fun x H1 => tas σ H1 fun xs H2 => q (x :: xs) H2) : tCons ta tas σ H q := h
theorem w_tup (h : tas σ H fun xs H1 => xs.length ≤ sizeLine ∧ ∀ p, H1 p = none → Q (.ref p) (upd H1 p (.tup xs))) : tTup tas σ H Q := h
theorem w_lst (h : tas σ H fun xs H1 => xs.length ≤ sizeLine ∧ ∀ p, H1 p = none → Q (.ref p) (upd H1 p (.lst xs))) : tLst tas σ H Q := h
theorem w_CB {r : List V → Hp → VK → Prop} (h : tas σ H fun vs H1 => r vs H1 Q) : tCB r tas σ H Q := h
theorem w_call {sp : Sp} {dvs : List V} {E : XK} (h : tas σ H fun vs H1 => sp (vs ++ dvs) H1 Q E) : tCall sp dvs E tas σ H Q := h
theorem w_chain (h : ta σ H fun x H1 => tb σ H1 fun y H2 => r x y H2 fun z H3 => ∃ k, z = .bl k ∧ (if k = true then tc σ H3 fun w' H4 => r' y w' H4 Q else Q (.bl false) H3)) : tChain r r' ta tb tc σ H Q := h
/-- lists, tuples, texts by their places -/
theorem w_ixL {p : Addr} {xs : List V} {i : Int} (h : SqL K H p xs) (e : atI xs i = some v) (q : Q v H) : rIxL K (.ref p) (.int i) H Q := ⟨p, xs, i, v, rfl, rfl, h, e, q⟩
theorem w_ixT {p : Addr} {xs : List V} {i : Int} (h : SqT K H p xs) (e : atI xs i = some v) (q : Q v H) : rIxT K (.ref p) (.int i) H Q := ⟨p, xs, i, v, rfl, rfl, h, e, q⟩
theorem w_fld {f : Str} {a C dx : Addr} {fs : List (Str × V)} (h : ta σ H fun x H1 => ∃ a C dx fs v, x = .ref a ∧ H1 a = some (.ins C dx fs) ∧ Cls K C ∧ NoAttr K C f ∧ fs.lookup f = some v ∧ Q v H1) : tFld K ta f σ H Q := h
theorem w_eq (h : scal x y = true) (q : Q (.bl (decide (x = y))) H) : rEq x y H Q := ⟨h, q⟩
theorem w_ne (h : scal x y = true) (q : Q (.bl (!decide (x = y))) H) : rNe x y H Q := ⟨h, q⟩
end
section
variable {σ : L2.St} {H : Hp} {Q : VK} {v : V} {i : Int} {to ti : TE} {ts : TSet}
theorem w_gSub {k : L2.St → Hp → Prop} (h : to σ H fun o H1 => ti σ H1 fun i H2 => ts o i v H2 fun H3 => k σ H3) : gSub to ti ts v σ H k := h
theorem w_setL {p : Addr} {xs : List V} {j : Nat} {k : Hp → Prop} (h : H p = some (.lst xs)) (e : ixN xs.length i = some j) (q : k (upd H p (.lst (xs.set j v)))) : rSetL (.ref p) (.int i) v H k := ⟨p, xs, i, j, rfl, rfl, h, e, q⟩
theorem fmod_lo {a b : Int} (h : 0 < b) : 0 ≤ a.fmod b := Int.fmod_nonneg_of_pos a h
theorem fmod_hi {a b : Int} (h : 0 < b) : a.fmod b < b := Int.fmod_lt_of_pos a h
theorem fdiv_lo {a b : Int} (ha : 0 ≤ a) (h : 0 < b) : 0 ≤ a.fdiv b := by
  rw [Int.fdiv_eq_ediv_of_nonneg a
          (by omega)]
  exact Int.ediv_nonneg ha (by omega)
end
/-! ### branches -/
theorem iteD {p A B : Prop} {_ : Decidable p} (h1 : p → A) (h2 : ¬ p → B) : if decide p = true then A else B := by
  by_cases h : p
  · rw [decide_eq_true h, if_pos rfl]
    exact h1 h
  · rw [decide_eq_false h, if_neg Bool.false_ne_true]
    exact h2 h
theorem iteND {p A B : Prop} {_ : Decidable p} (h1 : ¬ p → A) (h2 : p → B) : if (!decide p) = true then A else B := by
  by_cases h : p
  · rw [decide_eq_true h]
    exact iteF (h2 h)
  · rw [decide_eq_false h]
    exact iteT (h1 h)
theorem iteNF {A B : Prop} (h : A) : if (!false) = true then A else B := h
theorem iteNT {A B : Prop} (h : B) : if (!true) = true then A else B := iteF h
theorem iteB {b : Bool} {A B : Prop} (h1 : b = true → A) (h2 : b = false → B) : if b = true then A else B := by
  cases b with
  | true => exact iteT (h1 rfl)
  | false => exact iteF (h2 rfl)
/-! ### the heap without the bag -/
def del (b : Addr) (H : Hp) : Hp := fun a => if a = b then none else H a
theorem del_self {b : Addr} {H : Hp} : del b H b = none := by unfold del; rw [if_pos rfl]
theorem del_ne {b a : Addr} {H : Hp} (h : a ≠ b) : del b H a = H a := by unfold del; rw [if_neg h]
theorem del_some {b a : Addr} {H : Hp} {o : HO} (h : del b H a = some o) : a ≠ b ∧ H a = some o := by
  unfold del at h
  split at h
  · cases h
  · exact ⟨by assumption, h⟩
open Evl (Ex) in
theorem ex_del {b : Addr} {H : Hp} : Ex (del b H) H := fun a o h => (del_some h).2
open Evl (Ex) in
/-- what the heap without the bag holds stays, in the new heap without the bag too -/
theorem ex_dd {b : Addr} {H H' : Hp} (e : Ex (del b H) H') : Ex (del b H) (del b H') := fun a o h => by
  rw [del_ne (del_some h).1]
  exact e a o h
open Evl (Ex) in
theorem ex_upd_bag {b : Addr} {H : Hp} {o : HO} : Ex (del b H) (upd H b o) := fun a u h => by
  rw [upd_ne (del_some h).1]
  exact (del_some h).2
open Evl (Ex) in
theorem ex_dtrans {b : Addr} {H H1 H2 : Hp} (e : Ex (del b H) H1) (e' : Ex (del b H1) H2) : Ex (del b H) H2 := (ex_dd e).trans e'
open Evl (Ex) in
theorem ex_new_d {b p : Addr} {H : Hp} {o : HO} (h : H p = none) : Ex (del b H) (upd H p o) := ex_del.trans (Ex.new h)
/-- the bag of drawn numbers: n bounds how many were mixed -/
structure BagAt (H : Hp) (b : Addr) (n : Nat) : Prop where
  ex : ∃ d m t : Int, H b = some (.lst [.int d, .int m, .int t]) ∧ 0 ≤ d ∧ 0 ≤ m ∧ m < 2305843009214193951 ∧ 0 ≤ t ∧ t ≤ n
theorem BagAt.mono {H : Hp} {b : Addr} {n m : Nat} (h : BagAt H b n) (l : n ≤ m) : BagAt H b m := by
  obtain ⟨d, m', t, h1, h2, h3, h4, h5, h6⟩ := h.ex
  exact ⟨d, m', t, h1, h2, h3, h4, h5, by omega⟩
theorem BagAt.new {H : Hp} {b p : Addr} {n : Nat} {o : HO} (h : BagAt H b n) (f : H p = none) : BagAt (upd H p o) b n := by
  obtain ⟨d, m', t, h1, h2⟩ := h.ex
  exact ⟨d, m', t, by rw [upd_ne (ne_of_none h1 f)]; exact h1, h2⟩
theorem BagAt.upd {H : Hp} {b p : Addr} {n : Nat} {o : HO} (h : BagAt H b n) (f : b ≠ p) : BagAt (upd H p o) b n := by
  obtain ⟨d, m', t, h1, h2⟩ := h.ex
  exact ⟨d, m', t, by rw [upd_ne f]; exact h1, h2⟩
theorem BagAt.ne_none {H : Hp} {b p : Addr} {n : Nat} (h : BagAt H b n) (f : H p = none) : b ≠ p := by
  obtain ⟨d, m', t, h1, h2⟩ := h.ex
  exact ne_of_none h1 f
theorem BagAt.ext {H H' : Hp} {b : Addr} {n : Nat} (h : BagAt H b n) (e : Evl.Ex H H') : BagAt H' b n := by
  obtain ⟨d, m', t, h1, h2⟩ := h.ex
  exact ⟨d, m', t, e _ _ h1, h2⟩
theorem w_size {n : Nat} {p : Prop} (h : n ≤ sizeLine) (q : p) : n ≤ sizeLine ∧ p := ⟨h, q⟩
theorem w_rfl {α : Type} {x y : α} {p : Prop} (e : x = y) (h : p) : x = y ∧ p := ⟨e, h⟩
theorem BagAt.ne {H : Hp} {b p : Addr} {n : Nat} {xs : List V} (h : BagAt H b n) (f : H p = some (.lst xs)) (hx : ∀ i j k : Int, xs ≠ [.int i, .int j, .int k]) : p ≠ b := by
  obtain ⟨d, m', t, h1, _⟩ := h.ex
  intro e
  subst e
  rw [f] at h1
  injection h1 with h1
  injection h1 with h1
  exact hx _ _ _ h1

/-! ### what the module's names hold -/
structure Blt (mg : Str → Option Value) : Prop where
  len_ : mg "len" = none
  int_ : mg "int" = none
  abs_ : mg "abs" = none
  max_ : mg "max" = none
  min_ : mg "min" = none
  any_ : mg "any" = none
  all_ : mg "all" = none
  str_ : mg "str" = none
  bool_ : mg "bool" = none
  list_ : mg "list" = none
  tuple_ : mg "tuple" = none
  dict_ : mg "dict" = none
  isinstance_ : mg "isinstance" = none
  range_ : mg "range" = none
  reversed_ : mg "reversed" = none
  enumerate_ : mg "enumerate" = none
  zip_ : mg "zip" = none
section
variable {X : Cx} {k j : Nat} {x : Str} {sp : Sp} {dvs : List V} {p pos : Pos}
theorem pe_c0 (c : C8.Cal X.prog X.w X.K X.mg X.base k x sp dvs) (hr : Room j X.A) (hk : k ≤ j) (hg : Gl X x) (hdb : (x == ("__debug__" : Str)) = false := by decide) : PE X (.Call (.Name x p) [] [] pos) (tCall sp dvs C8.E0 tNil) := by
  obtain ⟨f,
          fd, ps, ds, F, hm, kp, b, d⟩ := c.ex
  exact pe_call0 F (hr.mono hk) hg hm kp b d C8.pass0 hdb
theorem hu64 {A : Around} (hr : Room j A) : A.units + 64 < cLine := by have := hr.un; omega
end
end LP
namespace LP
open PySem L2
/-! ### readings under names -/
def rInt1 : List V → Hp → VK → Prop := fun xs H Q => (∃ i, xs = [.int i] ∧ Q (.int i) H) ∨ ∃ k, xs = [.bl k] ∧ Q (.int (if k then 1 else 0)) H
def rAbs : List V → Hp → VK → Prop := fun xs H Q => ∃ i, xs = [.int i] ∧ Q (.int (if i < 0 then -i else i)) H
def rMax2 : List V → Hp → VK → Prop := fun ys H Q => ∃ j k, ys = [.int j, .int k] ∧ Q (.int (if k > j then k else j)) H
def rMin2 : List V → Hp → VK → Prop := fun xs H Q => ∃ i j, xs = [.int i, .int j] ∧ Q (.int (if j < i then j else i)) H
def rLenS (K : PySem.W.Frag) : List V → Hp → VK → Prop := fun us H Q => ∃ p ys, us = [.ref p] ∧ (SqL K H p ys ∨ SqT K H p ys) ∧ Q (.int ys.length) H
def rLenStr : List V → Hp → VK → Prop := fun xs H Q => ∃ z, xs = [.str z] ∧ z.length ≤ sizeLine ∧ Q (.int z.length) H
def rListS (K : PySem.W.Frag) : List V → Hp → VK → Prop := fun us H Q => ∃ p ys, us = [.ref p] ∧ (SqL K H p ys ∨ SqT K H p ys) ∧ ∀ l, H l = none → Q (.ref l) (upd H l (.lst ys))
def rTupS (K : PySem.W.Frag) : List V → Hp → VK → Prop := fun xs H Q => ∃ p ys, xs = [.ref p] ∧ ((SqL K H p ys ∧ ∀ l, H l = none → Q (.ref l) (upd H l (.tup ys))) ∨ (SqT K H p ys ∧ Q (.ref p) H))
def rDictS : List V → Hp → VK → Prop := fun xs H Q => ∃ (a : Addr) (kvs : List (Key × V)), xs = [.ref a] ∧ Rd H a (.dK kvs) ∧ ∀ p, H p = none → Q (.ref p) (upd H p (.dK kvs))
def rBoolL (K : PySem.W.Frag) : List V → Hp → VK → Prop := fun xs H Q => ∃ (a : Addr) (zs : List V), xs = [.ref a] ∧ SqL K H a zs ∧ Q (.bl (!zs.isEmpty)) H
def rAddS : R2 := fun x y H Q => ∃ i j, x = .str i ∧ y = .str j ∧ i.length + j.length ≤ sizeLine ∧ Q (.str (i ++ j)) H
def rIsN : R2 := fun v u H Q => u = .non ∧ Q (.bl (decide (v = .non))) H
def rNotN : R2 := fun v u H Q => u = .non ∧ Q (.bl (!decide (v = .non))) H
def rInSg : R2 := fun x y H Q => ∃ (c : Nat) (z : Str), x = .str ⟨#[c]⟩ ∧ y = .str z ∧ Q (.bl (decide (c ∈ z.cps.toList))) H
def rNotInSg : R2 := fun x y H Q => ∃ (c : Nat) (z : Str), x = .str ⟨#[c]⟩ ∧ y = .str z ∧ Q (.bl (!decide (c ∈ z.cps.toList))) H
def rSplit : V → List V → Hp → VK → Prop := fun x xs H Q => ∃ a b, x = .str a ∧ xs = [.str b] ∧ (b.length == 0) = false ∧ a.length + 2 ≤ sizeLine ∧ rNewStrs (Txt.split a b) H Q
def rJoin (K : PySem.W.Frag) : V → List V → Hp → VK → Prop := fun x xs H Q => ∃ a p, ∃ ys : List Str, x = .str a ∧ xs = [.ref p] ∧ (SqL K H p (ys.map V.str) ∨ SqT K H p (ys.map V.str)) ∧ (ys.map (·.length)).sum + ys.length * a.length ≤ 16777216 ∧ Q (.str (Txt.join a ys)) H
def rUpper : V → List V → Hp → VK → Prop := fun x xs H Q => ∃ a, x = .str a ∧ xs = [] ∧ a.length ≤ 5592405 ∧ Q (.str (Txt.upper a)) H
def rIsB (f : Str → Bool) : V → List V → Hp → VK → Prop := fun x xs H Q => ∃ a, x = .str a ∧ xs = [] ∧ True ∧ Q (.bl (f a)) H
def tTru (K : PySem.W.Frag) (ta : TE) : TT := fun σ H Q => ta σ H fun v H1 => ∃ b, TruV K v H1 b ∧ Q b H1
section
variable {to te : TE} {o e : Expr} {X : Cx}
theorem call_int1' : CallR X (.type "int") rInt1 := call_int1
theorem call_abs' : CallR X (.builtin "abs") rAbs := call_abs
theorem call_max2' (hc : X.calm = true) : CallR X (.builtin "max") rMax2 := call_max2 hc
theorem call_min2' (hc : X.calm = true) : CallR X (.builtin "min") rMin2 := call_min2 hc
theorem call_len_seq' : CallR X (.builtin "len") (rLenS X.K) := call_len_seq
theorem call_len_str' : CallR X (.builtin "len") rLenStr := call_len_str
theorem call_list_of' : CallR X (.type "list") (rListS X.K) := call_list_of
theorem call_tuple_of' : CallR X (.type "tuple") (rTupS X.K) := call_tuple_of
theorem call_dictD' : CallR X (.type "dict") rDictS := call_dictD
theorem call_boolL' : CallR X (.type "bool") (rBoolL X.K) := call_boolL
theorem op_add_str' : OpR X (binaryOp .Add) rAddS := op_add_str
theorem op_isN' : OpR X (compareOp .Is) rIsN := op_isN
theorem op_notN' : OpR X (compareOp .IsNot) rNotN := op_notN
theorem op_in_sign' : OpR X (compareOp .In) rInSg := op_in_sign
theorem op_notIn_sign' : OpR X (compareOp .NotIn) rNotInSg := op_notIn_sign
theorem pe_split' {apos pos : Pos} (ho : PE X o to) (he : PE X e te) (hs : starEach [e] X.env = [(false, eval e X.env)] := by rfl) (hbase : attributeBase o "split" X.env (eval o X.env) = eval o X.env := by rfl) (hline : (apos.endLine == pos.line) = true := by rfl) :
    PE X (.Call (.Attribute o "split" apos) [e] [] pos) (tM1 rSplit to te) := pe_split ho he hs hbase hline
theorem pe_join' {apos pos : Pos} (ho : PE X o to) (he : PE X e te) (hs : starEach [e] X.env = [(false, eval e X.env)] := by rfl) (hbase : attributeBase o "join" X.env (eval o X.env) = eval o X.env := by rfl) (hline : (apos.endLine == pos.line) = true := by rfl) :
    PE X (.Call (.Attribute o "join" apos) [e] [] pos) (tM1 (rJoin X.K) to te) := pe_join ho he hs hbase hline
theorem pe_upper' {apos pos : Pos} (ho : PE X o to) (hbase : attributeBase o "upper" X.env (eval o X.env) = eval o X.env := by rfl) (hline : (apos.endLine == pos.line) = true := by rfl) :
    PE X (.Call (.Attribute o "upper" apos) [] [] pos) (tM0 rUpper to) := pe_upper ho hbase hline
theorem mt_isascii' : MtR X "str.isascii" (rIsB Txt.isascii) := mt_isascii
theorem mt_isalpha' : MtR X "str.isalpha" (rIsB Txt.isalpha) := mt_isalpha
theorem mt_islower' : MtR X "str.islower" (rIsB Txt.islower) := mt_islower
theorem pt_truth' (he : PE X e te) (hw : ∀ whole, isTrue e X.env whole = (do let v ← whole; standAt e.pos; holding [v] (truthy v)) := by intro _; rfl) : PT X e (tTru X.K te) := pt_truth he hw
end
section
variable {K : PySem.W.Frag} {σ : L2.St} {H : Hp} {Q : VK} {v x y : V} {i j : Int} {to ti ta tb te : TE} {p : Addr} {xs ys : List V} {tas : TA}
theorem w_int1 (h : Q (.int i) H) : rInt1 [.int i] H Q := .inl ⟨i, rfl, h⟩
theorem w_intB {k : Bool} (h : Q (.int (if k then 1 else 0)) H) : rInt1 [.bl k] H Q := .inr ⟨k, rfl, h⟩
theorem w_abs (h : Q (.int (if i < 0 then -i else i)) H) : rAbs [.int i] H Q := ⟨i, rfl, h⟩
theorem w_max2 (h : Q (.int (if j > i then j else i)) H) : rMax2 [.int i, .int j] H Q := ⟨i, j, rfl, h⟩
theorem w_min2 (h : Q (.int (if j < i then j else i)) H) : rMin2 [.int i, .int j] H Q := ⟨i, j, rfl, h⟩
theorem w_lenL (h : SqL K H p ys) (q : Q (.int ys.length) H) : rLenS K [.ref p] H Q := ⟨p, ys, rfl, .inl h, q⟩
theorem w_lenT (h : SqT K H p ys) (q : Q (.int ys.length) H) : rLenS K [.ref p] H Q := ⟨p, ys, rfl, .inr h, q⟩
theorem w_lenStr {z : Str} (h : z.length ≤ sizeLine) (q : Q (.int z.length) H) : rLenStr [.str z] H Q := ⟨z, rfl, h, q⟩
theorem w_listL (h : SqL K H p ys) (q : ∀ l, H l = none → Q (.ref l) (upd H l (.lst ys))) : rListS K [.ref p] H Q := ⟨p, ys, rfl, .inl h, q⟩
theorem w_listT (h : SqT K H p ys) (q : ∀ l, H l = none → Q (.ref l) (upd H l (.lst ys))) : rListS K [.ref p] H Q := ⟨p, ys, rfl, .inr h, q⟩
theorem w_tupL (h : SqL K H p ys) (q : ∀ l, H l = none → Q (.ref l) (upd H l (.tup ys))) : rTupS K [.ref p] H Q := ⟨p, ys, rfl, .inl ⟨h, q⟩⟩
theorem w_boolL (h : SqL K H p ys) (q : Q (.bl (!ys.isEmpty)) H) : rBoolL K [.ref p] H Q := ⟨p, ys, rfl, h, q⟩
theorem w_addS {a b : Str} (h : a.length + b.length ≤ sizeLine) (q : Q (.str (a ++ b)) H) : rAddS (.str a) (.str b) H Q := ⟨a, b, rfl, rfl, h, q⟩
theorem w_isN (q : Q (.bl (decide (x = .non))) H) : rIsN x .non H Q := ⟨rfl, q⟩
theorem w_notN (q : Q (.bl (!decide (x = .non))) H) : rNotN x .non H Q := ⟨rfl, q⟩
theorem w_inSg {c : Nat} {z : Str} (q : Q (.bl (decide (c ∈ z.cps.toList))) H) : rInSg (.str ⟨#[c]⟩) (.str z) H Q := ⟨c, z, rfl, rfl, q⟩
theorem w_M0 {r : V → List V → Hp → VK → Prop} (h : to σ H fun x H1 => (∃ a, x = .str a) ∧ r x [] H1 Q) : tM0 r to σ H Q := h
theorem w_M1 {r : V → List V → Hp → VK → Prop} (h : to σ H fun x H1 => (∃ a, x = .str a) ∧ te σ H1 fun y H2 => r x [y] H2 Q) : tM1 r to te σ H Q := h
theorem w_str {z : Str} {p : Prop} (h : p) : (∃ a, V.str z = .str a) ∧ p := ⟨⟨z, rfl⟩, h⟩
theorem w_isB {f : Str → Bool} {z : Str} (q : Q (.bl (f z)) H) : rIsB f (.str z) [] H Q := ⟨z, rfl, rfl, trivial, q⟩
theorem w_split {a b : Str} (h : (b.length == 0) = false) (h2 : a.length + 2 ≤ sizeLine) (q : ∀ p, H p = none → Q (.ref p) (upd H p (.lst ((Txt.split a b).map V.str)))) : rSplit (.str a) [.str b] H Q := ⟨a, b, rfl, rfl, h, h2, q⟩
theorem w_join {a : Str} {ss : List Str} (h : SqL K H p (ss.map V.str)) (hl : (ss.map (·.length)).sum + ss.length * a.length ≤ 16777216) (q : Q (.str (Txt.join a ss)) H) : rJoin K (.str a) [.ref p] H Q := ⟨a, p, ss, rfl, rfl, .inl h, hl, q⟩
theorem w_upper {a : Str} (h : a.length ≤ 5592405) (q : Q (.str (Txt.upper a)) H) : rUpper (.str a) [] H Q := ⟨a, rfl, rfl, h, q⟩
theorem w_BM {T : String} {r : V → List V → Hp → VK → Prop} (h : to σ H fun x H1 => tyV K T x H1 ∧ tas σ H1 fun xs H2 => r x xs H2 Q) : tBM K T r to tas σ H Q := h
theorem w_BM0 {T : String} {r : V → List V → Hp → VK → Prop} (h : to σ H fun x H1 => tyV K T x H1 ∧ r x [] H1 Q) : tBM0 K T r to σ H Q := h
theorem w_tyS {z : Str} {q : Prop} (h : q) : tyV K "str" (.str z) H ∧ q := ⟨rfl, h⟩
theorem w_tyL {q : Prop} (hl : H p = some (.lst xs)) (h : q) : tyV K "list" (.ref p) H ∧ q := ⟨.inl ⟨rfl, xs, SqL.of hl⟩, h⟩
theorem w_app (hl : H p = some (.lst xs)) (hz : xs.length < sizeLine) (q : Q .non (upd H p (.lst (xs ++ [v])))) : rAppend (.ref p) [v] H Q := ⟨p, xs, v, rfl, rfl, hl, hz, q⟩
theorem w_ext {b : Addr} {zs : List V} (hl : H p = some (.lst xs)) (hb : H b = some (.lst zs)) (hz : xs.length + zs.length ≤ sizeLine) (q : Q .non (upd H p (.lst (xs ++ zs)))) : rExtend (.ref p) [.ref b] H Q := ⟨p, b, xs, zs, rfl, rfl, hl, hb, hz, q⟩
theorem w_cat {b : Addr} {zs : List V} (hl : H p = some (.lst xs)) (hb : H b = some (.lst zs)) (hz : xs.length + zs.length ≤ sizeLine) (q : ∀ l, H l = none → Q (.ref l) (upd H l (.lst (xs ++ zs)))) : rCat (.ref p) (.ref b) H Q := ⟨p, b, xs, zs, rfl, rfl, hl, hb, hz, q⟩
theorem w_ixS {z : Str} {c : Nat} (hz : z.length ≤ sizeLine) (e : atI z.cps.toList i = some c) (q : Q (.str ⟨#[c]⟩) H) : rIxS (.str z) (.int i) H Q := ⟨z, i, c, rfl, rfl, hz, e, q⟩
theorem w_inL {neg : Bool} (h : SqL K H p xs) (hx : flatV x = true) (hs : xs.all flatV = true) (q : Q (.bl (if neg then !inV x xs else inV x xs)) H) : rIn K neg x (.ref p) H Q := ⟨p, xs, rfl, .inl h, hx, hs, q⟩
theorem w_inT {neg : Bool} (h : SqT K H p xs) (hx : flatV x = true) (hs : xs.all flatV = true) (q : Q (.bl (if neg then !inV x xs else inV x xs)) H) : rIn K neg x (.ref p) H Q := ⟨p, xs, rfl, .inr h, hx, hs, q⟩
theorem w_sl {r : V → Option Int → Option Int → Hp → VK → Prop} {tl th : TO} (h : te σ H fun x H1 => tl σ H1 fun l H2 => th σ H2 fun u H3 => r x l u H3 Q) : tSl r te tl th σ H Q := h
theorem w_noPart {q : Option Int → Hp → Prop} (h : q none H) : tNoPart σ H q := h
theorem w_part {q : Option Int → Hp → Prop} (h : te σ H fun x H1 => ∃ i, x = .int i ∧ q (some i) H1) : tPart te σ H q := h
theorem w_ki {q : Int → Prop} (h : q i) : ∃ i', V.int i = .int i' ∧ q i' := ⟨i, rfl, h⟩
theorem w_slS {z : Str} {lo hi : Option Int} (h : z.length ≤ sizeLine) (q : Q (.str (cutS z lo hi)) H) : rSlS (.str z) lo hi H Q := ⟨z, rfl, h, q⟩
theorem w_tru {q : Bool → Hp → Prop} (h : te σ H fun x H' => ∃ k, TruV K x H' k ∧ q k H') : tTru K te σ H q := h
theorem w_truL {q : Bool → Prop} (h : SqL K H p xs) (hq : q (!xs.isEmpty)) : ∃ k, TruV K (.ref p) H k ∧ q k := ⟨_, .inl ⟨xs, h, rfl⟩, hq⟩
/-- any, all of a list of truth values -/
theorem w_any {bs : List Bool} (h : SqL K H p (bs.map V.bl)) (q : Q (.bl (bs.any id)) H) : rAny K [.ref p] H Q := ⟨p, bs, rfl, h, q⟩
theorem w_all {bs : List Bool} (h : SqL K H p (bs.map V.bl)) (q : Q (.bl (bs.all id)) H) : rAll K [.ref p] H Q := ⟨p, bs, rfl, h, q⟩
/-- for and comprehensions: what is walked -/
theorem w_for {wi : TI} {g : TG} {tb : TS} {D : Ends} (h : wi σ H fun J H1 => ∃ W : Nat → Nat → L2.St → Hp → Prop, (∃ m, W 0 m σ H1) ∧ ∀ i m σ H, W i m σ H → (J.stop i H ∧ D.nx σ H) ∨ (J.go i H ∧ ∃ Go : L2.St → Hp → Prop, (∀ σ' H', Go σ' H' → ∃ m', m' < m ∧ W (i + 1) m' σ' H') ∧ ∀ x H', J.yld i H x H' → g x σ H' fun σ2 H2 => tb { D with nx := Go, ct := Go, bk := D.nx } σ2 H2)) : tFor wi g tb D σ H := h
end
end LP
namespace LP
open PySem L2
section
variable {X : Cx} {K : PySem.W.Frag} {o e a : Expr} {es : List Expr} {te to ta : TE} {t : TA} {f : Str} {pos apos cpos : Pos} {tg : Expr}
theorem ix_tupK (hK : X.K = K) : IxR X (rIxT K) := hK ▸ ix_tup
theorem ix_listK (hK : X.K = K) : IxR X (rIxL K) := hK ▸ ix_list
theorem op_in_seqK (hK : X.K = K) : OpR X (compareOp .In) (rIn K false) := hK ▸ op_in_seq
theorem op_notIn_seqK (hK : X.K = K) : OpR X (compareOp .NotIn) (rIn K true) := hK ▸ op_notIn_seq
theorem op_eqDK (hK : X.K = K) (hu : X.A.units + 64 < cLine) : OpR X (compareOp .Eq) (rEqD K) := hK ▸ op_eqD hu
theorem op_neDK (hK : X.K = K) (hu : X.A.units + 64 < cLine) : OpR X (compareOp .NotEq) (rNeD K) := hK ▸ op_neD hu
theorem call_len_seqK (hK : X.K = K) : CallR X (.builtin "len") (rLenS K) := hK ▸ call_len_seq'
theorem call_list_ofK (hK : X.K = K) : CallR X (.type "list") (rListS K) := hK ▸ call_list_of'
theorem call_tuple_ofK (hK : X.K = K) : CallR X (.type "tuple") (rTupS K) := hK ▸ call_tuple_of'
theorem call_boolLK (hK : X.K = K) : CallR X (.type "bool") (rBoolL K) := hK ▸ call_boolL'
theorem cr_anyK (hK : X.K = K) (hc : X.calm = true) : CallR X (.builtin "any") (rAny K) := hK ▸ cr_any hc
theorem cr_allK (hK : X.K = K) (hc : X.calm = true) : CallR X (.builtin "all") (rAll K) := hK ▸ cr_all hc
theorem call_isiK1 (hK : X.K = K) : CallR X (.builtin "isinstance") (rIsi K) := hK ▸ call_isi
theorem sl_listK (hK : X.K = K) : SlR X (rSlL K) := hK ▸ sl_list
theorem pe_joinK (hK : X.K = K) (ho : PE X o to) (he : PE X e te) (hs : starEach [e] X.env = [(false, eval e X.env)] := by rfl) (hbase : attributeBase o "join" X.env (eval o X.env) = eval o X.env := by rfl) (hline : (apos.endLine == pos.line) = true := by rfl) :
    PE X (.Call (.Attribute o "join" apos) [e] [] pos) (tM1 (rJoin K) to te) := by
  subst hK
  exact pe_join' ho he hs hbase hline
theorem pe_fldK (hK : X.K = K) (he : PE X e ta) (hb : attributeBase e f X.env (eval e X.env) = eval e X.env) : PE X (.Attribute e f pos) (tFld K ta f) := by
  subst hK
  exact pe_fld he hb
theorem pi_listK (hK : X.K = K) (hl : PE X e te) : PI X tg e (iList K te) := by
  subst hK
  exact pi_list hl
theorem pi_tupK (hK : X.K = K) (hl : PE X e te) : PI X tg e (iTup K te) := by
  subst hK
  exact pi_tup hl
theorem pi_reversedK {p : Pos} (hK : X.K = K) (hg : Gl X "reversed") (hm : X.mg "reversed" = none) (ha : PA X [e] t) (hs : starEach [e] X.env = [(false, eval e X.env)] := by rfl) : PI X tg (.Call (.Name "reversed" p) [e] [] pos) (iRev K t) := by
  subst hK
  exact pi_reversed hg hm ha hs
theorem pg_tupK {k : Nat} {tt : TGs} {n : Nat} (hK : X.K = K) (hc : X.calm = true) (h : PGs X es tt) (hn : (assignEach es X.env).length = n := by rfl) (hst : (assignEach es X.env).findIdx? (·.1) = none := by rfl) : PG X (.Tuple es k pos) (gTup K n tt) := by
  subst hK
  exact pg_tup hc h hn hst
theorem pt_truthK (hK : X.K = K) (he : PE X e te) (hw : ∀ whole, isTrue e X.env whole = (do let v ← whole; standAt e.pos; holding [v] (truthy v)) := by intro _; rfl) : PT X e (tTru K te) := by
  subst hK
  exact pt_truth' he hw
theorem pe_bmK {T id : String} {name : Str} {r : V → List V → Hp → VK → Prop} (hK : X.K = K) (pa : PlainAttrs T) (slot : Slot T name id) (hty : typeOf (.builtin id) = pure (.type "method_descriptor")) (hm : MtR X id r) (ho : PE X o to) (ha : PA X (e :: es) t)
    (hbase : attributeBase o name X.env
            (eval o X.env) = eval o X.env := by rfl)
    (hfew :
            ((backTo cpos (starEach (e :: es) X.env)).all (fun x => !x.1) && (backToKw cpos (keywordEach [] X.env)).all (fun x => x.1.isSome)
      && decide
              ((e :: es).length + ([] : List Keyword).length + (if ([] : List Keyword).isEmpty then 0 else 1) < 30)) = true := by rfl)
    (hline :
            (apos.endLine == cpos.line) = true := by rfl) (hs : starEach (e :: es) X.env = (false, eval e X.env) :: starEach es X.env := by rfl) (hplain : (backTo cpos (starEach es X.env)).any (·.1) = false := by rfl) :
    PE X (.Call (.Attribute o name apos) (e :: es) [] cpos) (tBM K T r to t) := by
  subst hK
  exact pe_bm pa slot hty hm ho ha hbase hfew hline hs hplain
theorem pe_bm0K {T id : String} {name : Str} {r : V → List V → Hp → VK → Prop} (hK : X.K = K) (pa : PlainAttrs T) (slot : Slot T name id) (hty : typeOf (.builtin id) = pure (.type "method_descriptor")) (hm : MtR X id r) (ho : PE X o to)
    (hbase : attributeBase o name X.env (eval o X.env) = eval o X.env := by rfl) (hline : (apos.endLine == cpos.line) = true := by rfl) : PE X (.Call (.Attribute o name apos) [] [] cpos) (tBM0 K T r to) := by
  subst hK
  exact pe_bm0 pa slot hty hm ho hbase hline
end
end LP
namespace LP
open PySem L2
open Evl (Ex)
/-! ### rules of our own: a static method by its class or an instance, an own in, tuple of a dict -/
/-- C.m is a static method: its record at p, its def at g -/
structure SMet (K : PySem.W.Frag) (C : Addr) (mc : Value) (m : Str) (p g : Addr) : Prop where
  at_ : PySem.W.findCls K (.ref C) mc m = some (.get (.builtin "staticmethod.__get__") (.ref p) .none (.ref C))
  rc : ∃ rest, PySem.W.recIn K p "staticmethod" = some (.ref g :: rest)
  kp : PySem.W.keepIn K (.ref g) = true
/-- .. reached through an instance -/
structure SInst (K : PySem.W.Frag) (C : Addr) (m : Str) (p g : Addr) : Prop where
  pg : PySem.W.plainGet K C Str.empty =
          true
  ic : PySem.W.isClsIn K C =
          true
  at_ : PySem.W.findIn K
          (.ref C) m = some (some (.ref p))
  ty : PySem.W.typeIn K (.ref p) = some (.type "staticmethod")
  get : PySem.W.specialIn K (.ref p) "__get__" = some (some (.builtin "staticmethod.__get__"))
  tk : PySem.W.takesIn K
          (.ref p) = some false
  cp : PySem.W.copiedNames.contains m =
          false
  rc : ∃ rest, PySem.W.recIn K p "staticmethod" = some (.ref g :: rest)
  kp : PySem.W.keepIn K (.ref g) = true
def tSMeth (C : Addr) (sp : Sp) (E : XK) (ta : TE) (t : TA) : TE := fun σ H Q => ta σ H fun x H1 => x = .ref C ∧ t σ H1 fun vs H2 => sp vs H2 Q E
def tSInst (C : Addr) (m : Str) (sp : Sp) (E : XK) (ta : TE) (t : TA) : TE := fun σ H Q => ta σ H fun x H1 => ∃ a dx fs, x = .ref a ∧ H1 a = some (.ins C dx fs) ∧ fs.lookup m = none ∧ t σ H1 fun vs H2 => sp vs H2 Q E
section
variable {X : Cx} {CX : CXT} {k : Nat} {C p g : Addr} {mc : Value} {sp : Sp} {E : XK} {o e : Expr} {es : List Expr} {m : Str} {pos apos : Pos} {ta : TE} {t : TA} {pl : Sem Bool} {fd : FuncData} {ps : List Str}
theorem pe_smeth (he : PE X o ta) (r : ClX.CRead X.K C mc) (c : SMet X.K C mc m p g) (F : FnOk X.prog X.w X.K X.mg X.base CX k g fd ps sp) (hr : Room k X.A) (hb : Binds X.K fd ps []) (hx : Passes CX X E) (ha : PA X (e :: es) t)
    (hst : starEach
            (e :: es) X.env = (false, eval e X.env) :: starEach es X.env := by rfl) (hpl : (backTo pos (starEach es X.env)).any (·.1) = false := by rfl)
    (ht : eval (.Call (.Attribute o m apos) (e :: es) [] pos) X.env = (do let ov ← eval o X.env; standAt apos.atName; let (f, first) ← holding [ov] (getMethod ov m pl); callWith pos f first (backTo pos (starEach (e :: es) X.env)) (backToKw pos (keywordEach [] X.env))) := by rfl) :
    PE X (.Call (.Attribute o m apos) (e :: es) [] pos) (tSMeth C sp E ta t) := by
  refine ⟨fun pins s σ H Q I h => PySem.W.methodCall_KW (pl := pl) (thn (he.run pins s σ H _ I h) fun u s1 ⟨x, H1, I1, rx, ex, q⟩ => ?_) ht⟩
  subst ex
  cases (show u = Value.ref C from rx)
  obtain ⟨rest, hp⟩ := c.rc
  refine PySem.W.method_cls I1.kIn r.ga (PySem.W.cls_bind I1.kIn r.rd c.at_ (wpAny_call (PySem.W.sm_get (s := { s1 with toks := s1.toks + 1 }) I1.kIn hp (PySem.W.handed_on rfl ?_))))
  have I2 : Inv X pins σ H1 { s1 with toks := s1.toks + 1 } := I1.tok _
  refine PySem.W.callWith_K (first := []) (h₀ := X.base) I.ok.mod.kin c.kp (thn (ha.run pos pins _ σ H1 _ I2 q) fun us s3 ⟨vs, H2, I3, rv, q2⟩ => ⟨I3.kIn, ?_⟩) hst hpl
  exact run_fn (us := us) (vs := vs) F hr hb .nil hx I3 rv (by rw [List.append_nil]; exact q2)
theorem pe_sinst (he : PE X o ta) (c : SInst X.K C m p g) (F : FnOk X.prog X.w X.K X.mg X.base CX k g fd ps sp) (hr : Room k X.A) (hb : Binds X.K fd ps []) (hx : Passes CX X E) (ha : PA X (e :: es) t)
    (hst : starEach
            (e :: es) X.env = (false, eval e X.env) :: starEach es X.env := by rfl) (hpl : (backTo pos (starEach es X.env)).any (·.1) = false := by rfl)
    (ht : eval (.Call (.Attribute o m apos) (e :: es) [] pos) X.env = (do let ov ← eval o X.env; standAt apos.atName; let (f, first) ← holding [ov] (getMethod ov m pl); callWith pos f first (backTo pos (starEach (e :: es) X.env)) (backToKw pos (keywordEach [] X.env))) := by rfl) :
    PE X (.Call (.Attribute o m apos) (e :: es) [] pos) (tSInst C m sp E ta t) := by
  refine ⟨fun pins s σ H Q I h => PySem.W.methodCall_KW (pl := pl) (thn (he.run pins s σ H _ I h) fun u s1 ⟨x, H1, I1, rx, a, dx, fs, ex, ea, l, q⟩ => ?_) ht⟩
  subst ex
  cases (show u =
          Value.ref a from rx)
  obtain ⟨mA,
          O, rr, _, _, _⟩ := ins_get I1.hok ea
  have hn : mA m =
          none := RelO.none_of (by rw [← l]; exact rr m)
  obtain ⟨od, J, hl⟩ := O.look
  obtain ⟨rest, hp⟩ := c.rc
  have I2 : Inv X pins σ H1 { s1 with toks := s1.toks + 1 } := I1.tok _
  refine PySem.W.method_usual (r := some (.ref p)) I1.kIn J (PySem.W.plainGet_of (show PySem.W.plainGet X.K C m = true from c.pg)).1 (PySem.W.plainGet_of (show PySem.W.plainGet X.K C m = true from c.pg)).2 c.at_ ?_ ?_
  · show
          ((PySem.W.typeIn X.K (.ref p)).any fun t => t != .type "function" && t != .type "method_descriptor" && t != .type "wrapper_descriptor") = true
    rw [c.ty]
    decide +kernel
  · refine PySem.W.get_bind I1.kIn J (PySem.W.plainGet_of (show PySem.W.plainGet X.K C m = true from c.pg)).1 (ClX.find_cm c.ic c.at_ c.get c.tk c.cp (by rw [hl m, hn])) (PySem.W.plainGet_of (show PySem.W.plainGet X.K C m = true from c.pg)).2 (wpAny_call (PySem.W.sm_get (s := { s1 with toks := s1.toks + 1 }) I1.kIn hp (PySem.W.handed_on rfl ?_)))
    refine PySem.W.callWith_K (first := []) (h₀ := X.base) I.ok.mod.kin c.kp (thn (ha.run pos pins _ σ H1 _ I2 q) fun us s3 ⟨vs, H2, I3, rv, q2⟩ => ⟨I3.kIn, ?_⟩) hst hpl
    exact run_fn (us := us) (vs := vs) F hr hb .nil hx I3 rv (by rw [List.append_nil]; exact q2)
end
/-! ### x in o, o an instance of the class at C with __contains__ -/
def rOwnIn (C : Addr) (neg : Bool) (sp : Sp) (E : XK) : R2 := fun x y H Q => ∃ a dx fs, y = .ref a ∧ H a = some (.ins C dx fs) ∧ sp [y, x] H (fun v H' => ∃ b, v = .bl b ∧ Q (.bl (if neg then !b else b)) H') E
section
variable {X : Cx} {CX : CXT} {k : Nat} {C g : Addr} {sp : Sp} {E : XK} {fd : FuncData} {ps : List Str}
theorem contains_i {pins : List (Addr × Obj)} {σ : L2.St} {H : Hp} {s : Shared} {a dx : Addr} {fs : List (Str × V)} {v : Value} {A : Around} {Q : Bool → Shared → Prop} {Ex : Value → Shared → Prop} (I : Inv X pins σ H s) (e : H a = some (.ins C dx fs)) (hm : Meth X.K C "__contains__" g)
    (h : wpAny (model X.prog X.w) A (call (.ref g) [.ref a, v]) (fun r s' => wpAny (model X.prog X.w) A (truthy r) Q Ex s') Ex s) : wpAny (model X.prog X.w) A (contains (.ref a) v) Q Ex s := by
  obtain ⟨mA,
          O, _, _, _, _⟩ := ins_get I.hok e
  obtain ⟨od, J, hl⟩ := O.look
  unfold contains
  have look := PySem.W.looks_findIn (M := model X.prog X.w) I.kIn hm.at_
  refine wpAny_holding (wpAny_bind (wpAny_bind (J.type.here (look.here ?_))))
  rw [if_neg (show ¬ ((some (Value.ref g) == some Value.none) = true) by simp)]
  exact wpAny_bind (PySem.W.unlessNone_K I.kIn J hm.at_ hm.fn h)
theorem op_own_in (hm : Meth X.K C "__contains__" g) (F : FnOk X.prog X.w X.K X.mg X.base CX k g fd ps sp) (hr : Room k X.A) (hb : Binds X.K fd ps []) (hx : Passes CX X E) : OpR X (compareOp .In) (rOwnIn C false sp E) := by
  intro pins s σ H x y v u Q I rx ry h; obtain ⟨a, dx, fs, rfl, e, q⟩ := h
  cases (show u =
          Value.ref a from ry)
  refine wpAny_bind (contains_i I e hm ?_)
  refine thn (run_fn (us := [.ref a, v]) (vs := [.ref a, x]) F hr hb .nil hx I (.cons rfl (.cons rx .nil)) q) fun r s1 ⟨z, H1, I1, rz, b, ez, q1⟩ => ?_
  subst ez
  cases (show r = Value.bool b from rz)
  exact wpAny_truthy_bool (wpAny_pure ⟨.bl b, H1, I1, rfl, q1⟩)
theorem op_own_notin (hm : Meth X.K C "__contains__" g) (F : FnOk X.prog X.w X.K X.mg X.base CX k g fd ps sp) (hr : Room k X.A) (hb : Binds X.K fd ps []) (hx : Passes CX X E) : OpR X (compareOp .NotIn) (rOwnIn C true sp E) := by
  intro pins s σ H x y v u Q I rx ry h; obtain ⟨a, dx, fs, rfl, e, q⟩ := h
  cases (show u =
          Value.ref a from ry)
  refine wpAny_bind (contains_i I e hm ?_)
  refine thn (run_fn (us := [.ref a, v]) (vs := [.ref a, x]) F hr hb .nil hx I (.cons rfl (.cons rx .nil)) q) fun r s1 ⟨z, H1, I1, rz, b, ez, q1⟩ => ?_
  subst ez
  cases (show r = Value.bool b from rz)
  exact wpAny_truthy_bool (wpAny_pure ⟨.bl !b, H1, I1, rfl, q1⟩)
/-- a static method of the class at C, as a promise -/
structure SCal (P : Program) (w : World) (K : PySem.W.Frag) (mg : Str → Option Value) (base : Heap) (k : Nat) (C : Addr) (mc : Value) (m : Str) (sp : Sp) : Prop where
  ex : ∃ (p g : Addr) (fd : FuncData) (ps : List Str), ClX.CRead K C mc ∧ SMet K C mc m p g ∧ SInst K C m p g ∧ FnOk P w K mg base C8.CX0 k g fd ps sp ∧ Binds K fd ps []
theorem pe_sm {mc : Value} {j : Nat} {m : Str} {o e : Expr} {es : List Expr} {pos apos : Pos} {ta : TE} {t : TA} {pl : Sem Bool} (c : SCal X.prog X.w X.K X.mg X.base k C mc m sp) (hr : Room j X.A) (hk : k ≤ j) (he : PE X o ta) (ha : PA X (e :: es) t)
    (hst : starEach
            (e :: es) X.env = (false, eval e X.env) :: starEach es X.env := by rfl) (hpl : (backTo pos (starEach es X.env)).any (·.1) = false := by rfl)
    (ht : eval (.Call (.Attribute o m apos) (e :: es) [] pos) X.env = (do let ov ← eval o X.env; standAt apos.atName; let (f, first) ← holding [ov] (getMethod ov m pl); callWith pos f first (backTo pos (starEach (e :: es) X.env)) (backToKw pos (keywordEach [] X.env))) := by rfl) :
    PE X (.Call (.Attribute o m apos) (e :: es) [] pos) (tSMeth C sp C8.E0 ta t) := by
  obtain ⟨p, g, fd, ps, r, c1, c2, F, b⟩ := c.ex
  exact pe_smeth (pl := pl) he r c1 F (hr.mono hk) b C8.pass0 ha hst hpl ht
theorem pe_si {mc : Value} {j : Nat} {m : Str} {o e : Expr} {es : List Expr} {pos apos : Pos} {ta : TE} {t : TA} {pl : Sem Bool} (c : SCal X.prog X.w X.K X.mg X.base k C mc m sp) (hr : Room j X.A) (hk : k ≤ j) (he : PE X o ta) (ha : PA X (e :: es) t)
    (hst : starEach
            (e :: es) X.env = (false, eval e X.env) :: starEach es X.env := by rfl) (hpl : (backTo pos (starEach es X.env)).any (·.1) = false := by rfl)
    (ht : eval (.Call (.Attribute o m apos) (e :: es) [] pos) X.env = (do let ov ← eval o X.env; standAt apos.atName; let (f, first) ← holding [ov] (getMethod ov m pl); callWith pos f first (backTo pos (starEach (e :: es) X.env)) (backToKw pos (keywordEach [] X.env))) := by rfl) :
    PE X (.Call (.Attribute o m apos) (e :: es) [] pos) (tSInst C m sp C8.E0 ta t) := by
  obtain ⟨p, g, fd, ps, r, c1, c2, F, b⟩ := c.ex
  exact pe_sinst (pl := pl) he c2 F (hr.mono hk) b C8.pass0 ha hst hpl ht
/-- in and not in by the class's own method -/
theorem op_oin {j : Nat} {dvs : List V} (c : C8.Met X.prog X.w X.K X.mg X.base k C "__contains__" sp []) (hr : Room j X.A) (hk : k ≤ j) : OpR X (compareOp .In) (rOwnIn C false sp C8.E0) := by
  obtain ⟨f,
          fd, ps, ds, hc, hm, F, b, d⟩ := c.ex
  cases d
  exact op_own_in hm F (hr.mono hk) b C8.pass0
theorem op_onin {j : Nat} {dvs : List V} (c : C8.Met X.prog X.w X.K X.mg X.base k C "__contains__" sp []) (hr : Room j X.A) (hk : k ≤ j) : OpR X (compareOp .NotIn) (rOwnIn C true sp C8.E0) := by
  obtain ⟨f,
          fd, ps, ds, hc, hm, F, b, d⟩ := c.ex
  cases d
  exact op_own_notin hm F (hr.mono hk) b C8.pass0
end
section
variable {K : PySem.W.Frag} {σ : L2.St} {H : Hp} {Q : VK} {C : Addr} {sp : Sp} {E : XK} {ta : TE} {t : TA} {m : Str}
theorem w_smeth (h : ta σ H fun x H1 => x = .ref C ∧ t σ H1 fun vs H2 => sp vs H2 Q E) : tSMeth C sp E ta t σ H Q := h
theorem w_ownIn {neg : Bool} {a dx : Addr} {fs : List (Str × V)} {x : V} (e : H a = some (.ins C dx fs)) (h : sp [.ref a, x] H (fun v H' => ∃ b, v = .bl b ∧ Q (.bl (if neg then !b else b)) H') E) : rOwnIn C neg sp E x (.ref a) H Q := ⟨a, dx, fs, rfl, e, h⟩
end
/-! ### tuple(d), the keys of a dict -/
def rTupD : List V → Hp → VK → Prop := fun xs H Q => ∃ (a : Addr) (kvs : List (Key × V)), xs = [.ref a] ∧ Rd H a (.dK kvs) ∧ ∀ p, H p = none → Q (.ref p) (upd H p (.tup (kvs.map fun kv => kV kv.1)))
end LP
namespace LP
open PySem L2
open Evl (Ex)
section
variable {K : PySem.W.Frag} {a : Addr} {xs : List V} {g : TG} {tb : TS} {D : Ends} {σ : L2.St} {H H1 : Hp}
def kList (K : PySem.W.Frag) (x : V) (H1 : Hp) (R : It → Hp → Prop) : Prop := ∃ a, x = .ref a ∧ (∃ xs, SqL K H1 a xs) ∧ R (Itl K a) H1
def kTup (K : PySem.W.Frag) (x : V) (H1 : Hp) (R : It → Hp → Prop) : Prop := ∃ a, x = .ref a ∧ (∃ xs, SqT K H1 a xs) ∧ R (Itt K a) H1
def kRng1 (vs : List V) (H1 : Hp) (R : It → Hp → Prop) : Prop := ∃ j : Int, vs = [.int j] ∧ -(2 ^ 62) ≤ j ∧ j < 2 ^ 62 ∧ R (Itr 0 j.toNat) H1
def kStr (v : V) (H1 : Hp) (R : It → Hp → Prop) : Prop := ∃ x, v = .str x ∧ R (Its x) H1
def kRev (K : PySem.W.Frag) (vs : List V) (H1 : Hp) (R : It → Hp → Prop) : Prop := ∃ (a : Addr) (xs : List V), vs = [.ref a] ∧ SqL K H1 a xs ∧ R (Itv K a xs.length) H1
theorem w_iList {tl : TE} {R : It → Hp → Prop} (h : tl σ H fun x H1 => kList K x H1 R) : iList K tl σ H R := h
theorem w_kList {R : It → Hp → Prop} (h : SqL K H a xs) (q : R (Itl K a) H) : kList K (.ref a) H R := ⟨a, rfl, ⟨xs, h⟩, q⟩
theorem w_iTup {tl : TE} {R : It → Hp → Prop} (h : tl σ H fun x H1 => kTup K x H1 R) : iTup K tl σ H R := h
theorem w_kTup {R : It → Hp → Prop} (h : SqT K H a xs) (q : R (Itt K a) H) : kTup K (.ref a) H R := ⟨a, rfl, ⟨xs, h⟩, q⟩
theorem w_iRng1 {ta : TA} {R : It → Hp → Prop} (h : ta σ H fun vs H1 => kRng1 vs H1 R) : iRng1 ta σ H R := h
theorem w_kRng1 {j : Int} {R : It → Hp → Prop} (h1 : -(2 ^ 62) ≤ j) (h2 : j < 2 ^ 62) (q : R (Itr 0 j.toNat) H) : kRng1 [V.int j] H R := ⟨j, rfl, h1, h2, q⟩
theorem w_iStr {te : TE} {R : It → Hp → Prop} (h : te σ H fun v H1 => kStr v H1 R) : iStr te σ H R := h
theorem w_kStr {z : Str} {R : It → Hp → Prop} (h : R (Its z) H) : kStr (.str z) H R := ⟨z, rfl, h⟩
theorem w_iRev {ta : TA} {R : It → Hp → Prop} (h : ta σ H fun vs H1 => kRev K vs H1 R) : iRev K ta σ H R := h
theorem w_kRev {R : It → Hp → Prop} (h : SqL K H a xs) (q : R (Itv K a xs.length) H) : kRev K [V.ref a] H R := ⟨a, xs, rfl, h, q⟩
theorem w_lc {wi : TI} {tt : TT} {te : TE} {vs : List Nat} {Q : VK} (h : wi σ H fun J H1 => ∀ D, H1 D = none → ∃ W : Nat → Nat → Hp → Prop, (∃ m, W 0 m (upd H1 D (.lst []))) ∧ ∀ i m H, W i m H →
  (J.stop i H ∧ Q (.ref D) H) ∨ (J.go i H ∧ ∃ Go : Hp → Prop, (∀ H', Go H' → ∃ m', m' < m ∧ W (i + 1) m' H') ∧ ∀ x H', J.yld i H x H' → g x (wipe σ vs) H' fun σ2 H2 => wipe σ2 vs = wipe σ vs ∧ tt σ2 H2 fun b H3 =>
    if b = true then te σ2 H3 fun y H4 => ∃ got, H4 D = some (.lst got) ∧ got.length < sizeLine ∧ Go (upd H4 D (.lst (got ++ [y]))) else Go H3)) : tLc wi g tt te vs σ H Q := h
theorem w_yes {q : Bool → Hp → Prop} (h : q true H) : tYes σ H q := h
theorem w_gTup {n : Nat} {t : TGs} {k : L2.St → Hp → Prop} (h : SqT K H a xs) (hn : xs.length = n) (q : t xs σ H k) : gTup K n t (.ref a) σ H k := ⟨a, xs, rfl, h, hn, q⟩
theorem w_gCons {t : TG} {u : TGs} {v : V} {r : List V} {k : L2.St → Hp → Prop} (h : t v σ H fun σ' H' => u r σ' H' k) : gCons t u (v :: r) σ H k := ⟨v, r, rfl, h⟩
theorem w_gNil {k : L2.St → Hp → Prop} (h : k σ H) : gNil [] σ H k := ⟨rfl, h⟩
theorem w_par {i j : Nat} {ta : TA} (h : ta σ H fun vs H1 => ∃ v w, vs = [v, w] ∧ D.nx ((σ.set i (some v)).set j (some w)) H1) : tPar i j ta D σ H := h
theorem w_kPar {v w : V} {q : V → V → Prop} (h : q v w) : ∃ v' w', [v, w] = [v', w'] ∧ q v' w' := ⟨v, w, rfl, h⟩

/-- a for over a list: what is done, what is left -/
theorem loopL (Pv : List V → List V → L2.St → Hp → Prop) (h0 : Pv [] xs σ H) (hl : ∀ d r σ H, d ++ r = xs → Pv d r σ H → SqL K H a xs)
    (hs : ∀ d y r σ H, d ++ y :: r = xs → Pv d (y :: r) σ H → g y σ H fun σ2 H2 => tb { D with nx := Pv (d ++ [y]) r, ct := Pv (d ++ [y]) r, bk := D.nx } σ2 H2) (hd : ∀ σ H, Pv xs [] σ H → D.nx σ H) :
    ∃ W : Nat →
            Nat → L2.St → Hp → Prop, (∃ m, W 0 m σ H) ∧ ∀ i m σ H, W i m σ H →
      ((Itl K a).stop i H ∧ D.nx σ H) ∨ ((Itl K a).go i H ∧ ∃ N : L2.St → Hp → Prop, (∀ σ' H', N σ' H' → ∃ m', m' < m ∧ W (i + 1) m' σ' H') ∧ ∀ x H', (Itl K a).yld i H x H' → g x σ H' fun σ2 H2 => tb { D with nx := N, ct := N, bk := D.nx } σ2 H2) := by
  refine for_list (xs := xs) (fun i σ H => Pv (xs.take i) (xs.drop i) σ H) (by simpa using h0) (fun i σ H _ h => hl _ _ σ H (List.take_append_drop i xs) h) (fun i x σ H hx h => ?_) (fun σ H h => hd σ H (by simpa using h))
  have hlt : i < xs.length := (List.getElem?_eq_some_iff.mp hx).1
  have e1 : xs.drop i = x :: xs.drop (i + 1) := by
    rw [List.drop_eq_getElem_cons hlt, (List.getElem?_eq_some_iff.mp hx).2]
  have e2 : xs.take (i + 1) = xs.take i ++ [x] := by
    rw [List.take_succ, hx]
    rfl
  have z := hs (xs.take i) x (xs.drop (i + 1)) σ H (by rw [← e1]; exact List.take_append_drop i xs) (by rw [← e1]; exact h)
  rw [← e2] at z
  exact z
/-- a for over range(n) -/
theorem loopR {n : Nat} (Pv : Nat → L2.St → Hp → Prop) (h0 : Pv 0 σ H)
    (hs : ∀ i σ H, i < n → Pv i σ H → g (.int (i : Int)) σ H fun σ2 H2 => tb { D with nx := Pv (i + 1), ct := Pv (i + 1), bk := D.nx } σ2 H2) (hd : ∀ σ H, Pv n σ H → D.nx σ H) :
    ∃ W : Nat →
            Nat → L2.St → Hp → Prop, (∃ m, W 0 m σ H) ∧ ∀ i m σ H, W i m σ H →
      ((Itr 0 n).stop i H ∧ D.nx σ H) ∨ ((Itr 0 n).go i H ∧ ∃ N : L2.St → Hp → Prop, (∀ σ' H', N σ' H' → ∃ m', m' < m ∧ W (i + 1) m' σ' H') ∧ ∀ x H', (Itr 0 n).yld i H x H' → g x σ H' fun σ2 H2 => tb { D with nx := N, ct := N, bk := D.nx } σ2 H2) :=
  for_range Pv h0 (fun i σ H hi h => by rw [Int.zero_add]; exact hs i σ H hi h) hd
/-- a for over the signs of a text -/
theorem loopS {z : Str} (Pv : List Nat → List Nat → L2.St → Hp → Prop) (h0 : Pv [] z.cps.toList σ H)
    (hs : ∀ d c r σ H, d ++ c :: r = z.cps.toList → Pv d (c :: r) σ H → g (.str ⟨#[c]⟩) σ H fun σ2 H2 => tb { D with nx := Pv (d ++ [c]) r, ct := Pv (d ++ [c]) r, bk := D.nx } σ2 H2) (hd : ∀ σ H, Pv z.cps.toList [] σ H → D.nx σ H) :
    ∃ W : Nat →
            Nat → L2.St → Hp → Prop, (∃ m, W 0 m σ H) ∧ ∀ i m σ H, W i m σ H →
      ((Its z).stop i H ∧ D.nx σ H) ∨ ((Its z).go i H ∧ ∃ N : L2.St → Hp → Prop, (∀ σ' H', N σ' H' → ∃ m', m' < m ∧ W (i + 1) m' σ' H') ∧ ∀ x H', (Its z).yld i H x H' → g x σ H' fun σ2 H2 => tb { D with nx := N, ct := N, bk := D.nx } σ2 H2) := by
  have hz : z.cps.size = z.cps.toList.length := by simp
  refine ⟨fun i m σ H => m = z.cps.size - i ∧ i ≤ z.cps.size ∧ Pv (z.cps.toList.take i) (z.cps.toList.drop i) σ H, ⟨z.cps.size, by simp, Nat.zero_le _, by simpa using h0⟩, ?_⟩
  rintro i m σ H ⟨rfl, hi, p⟩
  by_cases hlt : i < z.cps.size
  · refine .inr ⟨hlt, fun σ H => Pv (z.cps.toList.take (i + 1)) (z.cps.toList.drop (i + 1)) σ H, fun σ' H' p' => ⟨z.cps.size - (i + 1), by omega, rfl, hlt, p'⟩, fun x H' y => ?_⟩
    obtain ⟨e, c, hc, rfl⟩ := y
    subst e
    have hx : z.cps.toList[i]? = some c := by rw [Array.getElem?_toList]; exact hc
    have hl : i < z.cps.toList.length := hz ▸ hlt
    have e1 : z.cps.toList.drop i = c :: z.cps.toList.drop (i + 1) := by
      rw [List.drop_eq_getElem_cons hl, (List.getElem?_eq_some_iff.mp hx).2]
    have e2 : z.cps.toList.take (i + 1) = z.cps.toList.take i ++ [c] := by
      rw [List.take_succ, hx]
      rfl
    have q := hs (z.cps.toList.take i) c (z.cps.toList.drop (i + 1)) σ H' (by rw [← e1]; exact List.take_append_drop i _) (by rw [← e1]; exact p)
    rw [← e2] at q
    exact q
  · refine .inl ⟨by show z.cps.size ≤ i; omega, hd σ H ?_⟩
    have : i = z.cps.toList.length := by omega
    rw [this, List.take_length, List.drop_length] at p
    exact p
/-- a for over reversed(list): the last item first -/
theorem loopV (Pv : List V → List V → L2.St → Hp → Prop) (h0 : Pv xs [] σ H) (hl : ∀ d r σ H, d ++ r = xs → Pv d r σ H → SqL K H a xs)
    (hs : ∀ d y r σ H, d ++ y :: r = xs → Pv (d ++ [y]) r σ H → g y σ H fun σ2 H2 => tb { D with nx := Pv d (y :: r), ct := Pv d (y :: r), bk := D.nx } σ2 H2) (hd : ∀ σ H, Pv [] xs σ H → D.nx σ H) :
    ∃ W : Nat →
            Nat → L2.St → Hp → Prop, (∃ m, W 0 m σ H) ∧ ∀ i m σ H, W i m σ H →
      ((Itv K a xs.length).stop i H ∧ D.nx σ H) ∨ ((Itv K a xs.length).go i H ∧ ∃ N : L2.St → Hp → Prop, (∀ σ' H', N σ' H' → ∃ m', m' < m ∧ W (i + 1) m' σ' H') ∧ ∀ x H', (Itv K a xs.length).yld i H x H' → g x σ H' fun σ2 H2 => tb { D with nx := N, ct := N, bk := D.nx } σ2 H2) := by
  refine ⟨fun i m σ H => m = xs.length - i ∧ i ≤ xs.length ∧ Pv (xs.take (xs.length - i)) (xs.drop (xs.length - i)) σ H, ⟨xs.length, by simp, Nat.zero_le _, by simpa using h0⟩, ?_⟩
  rintro i m σ H ⟨rfl, hi, p⟩
  by_cases hlt : i < xs.length
  · have hj : xs.length - 1 - i <
          xs.length := by omega
    have q := hl _ _ σ H (List.take_append_drop _ xs) p
    have hx : xs[xs.length - 1 - i]? = some xs[xs.length - 1 - i] := by simp [hj]
    refine .inr ⟨⟨hlt, xs, xs[xs.length - 1 - i], q, hx⟩, fun σ H => Pv (xs.take (xs.length - (i + 1))) (xs.drop (xs.length - (i + 1))) σ H, fun σ' H' p' => ⟨xs.length - (i + 1), by omega, rfl, hlt, p'⟩, fun x H' y => ?_⟩
    obtain ⟨e, y⟩ := y
    subst e
    have hxx := y xs q
    have ex : x = xs[xs.length - 1 - i] := by
      rw [hx] at hxx
      exact (Option.some.inj hxx).symm
    have n1 : xs.length - i = (xs.length - 1 - i) + 1 := by omega
    have n2 : xs.length - (i + 1) = xs.length - 1 - i := by omega
    have e1 : xs.drop (xs.length - 1 - i) = x :: xs.drop (xs.length - i) := by
      rw [List.drop_eq_getElem_cons hj, ex, n1]
    have e2 : xs.take (xs.length - i) = xs.take (xs.length - 1 - i) ++ [x] := by
      rw [n1, List.take_succ, hx, ex]
      rfl
    have z := hs (xs.take (xs.length - 1 - i)) x (xs.drop (xs.length - i)) σ H' (by rw [← e1]; exact List.take_append_drop _ xs) (by rw [← e2]; exact p)
    rw [← e1, ← n2] at z
    exact z
  · refine .inl ⟨by show xs.length ≤ i; omega, hd σ H ?_⟩
    have : xs.length - i = 0 := by omega
    rw [this] at p
    simpa using p
end
section
variable {K : PySem.W.Frag} {a : Addr} {xs : List V} {g : TG} {tt : TT} {te : TE} {vs : List Nat} {σ : L2.St} {H1 : Hp} {D : Addr} {Qd : Hp → Prop}
/-- a comprehension over a list, whatever its turns do -/
theorem compL (Pv : List V → List V → List V → Hp → Prop) (hlen : xs.length ≤ 90000) (h0 : Pv [] xs [] (upd H1 D (.lst []))) (hl : ∀ d r got H, d ++ r = xs → Pv d r got H → SqL K H a xs)
    (hs : ∀ d y r got H, d ++ y :: r = xs → H D = some (.lst got) → got.length ≤ d.length → Pv d (y :: r) got H → ∀ (k : V → Hp → Prop) (kn : Hp → Prop),
      (∀ y' H4, H4 D = some (.lst got) → Pv (d ++ [y]) r (got ++ [y']) (upd H4 D (.lst (got ++ [y']))) → k y' H4) → (∀ H3, H3 D = some (.lst got) → Pv (d ++ [y]) r got H3 → kn H3) →
      g y (wipe σ vs) H fun σ2 H2 => wipe σ2 vs = wipe σ vs ∧ tt σ2 H2 fun b H3 => if b = true then te σ2 H3 k else kn H3)
    (hd : ∀ got H, H D = some (.lst got) → got.length ≤ xs.length → Pv xs [] got H → Qd H) :
    ∃ W : Nat →
            Nat → Hp → Prop, (∃ m, W 0 m (upd H1 D (.lst []))) ∧ ∀ i m H, W i m H →
      ((Itl K a).stop i H ∧ Qd H) ∨ ((Itl K a).go i H ∧ ∃ Go : Hp → Prop, (∀ H', Go H' → ∃ m', m' < m ∧ W (i + 1) m' H') ∧ ∀ x H', (Itl K a).yld i H x H' → g x (wipe σ vs) H' fun σ2 H2 => wipe σ2 vs = wipe σ vs ∧ tt σ2 H2 fun b H3 =>
        if b = true then te σ2 H3 fun y H4 => ∃ got, H4 D = some (.lst got) ∧ got.length < sizeLine ∧ Go (upd H4 D (.lst (got ++ [y]))) else Go H3) := by
  have sz : ∀ n : Nat, n ≤ 90000 → n < sizeLine := fun n h => Nat.lt_of_le_of_lt h (by decide)
  refine lc_list (xs := xs) (fun i H => ∃ got, H D = some (.lst got) ∧ got.length ≤ i ∧ Pv (xs.take i) (xs.drop i) got H) ⟨[], upd_same, Nat.le_refl _, by simpa using h0⟩ (fun i H _ ⟨got, _, _, h⟩ => hl _ _ got H (List.take_append_drop i xs) h) (fun i x H hx ⟨got, ha, hacc, h⟩ => ?_) (fun H ⟨got, ha, hacc, h⟩ => hd got H ha hacc (by simpa using h))
  have hlt : i < xs.length := (List.getElem?_eq_some_iff.mp hx).1
  have e1 : xs.drop i = x :: xs.drop (i + 1) := by
    rw [List.drop_eq_getElem_cons hlt, (List.getElem?_eq_some_iff.mp hx).2]
  have e2 : xs.take (i + 1) = xs.take i ++ [x] := by
    rw [List.take_succ, hx]
    rfl
  refine hs (xs.take i) x (xs.drop (i + 1)) got H (by rw [← e1]; exact List.take_append_drop i xs) ha (by rw [List.length_take]; omega) (by rw [← e1]; exact h) _ _ (fun y' H4 h4 p => ?_) (fun H3 h3 p => ?_)
  · exact ⟨got, h4, sz _ (by omega), got ++ [y'], upd_same, by rw [List.length_append]; simp; omega, by rw [e2]; exact p⟩
  · exact ⟨got, h3, by omega, by rw [e2]; exact p⟩
theorem compR {n : Nat} (Pv : Nat → List V → Hp → Prop) (hlen : n ≤ 90000) (h0 : Pv 0 [] (upd H1 D (.lst [])))
    (hs : ∀ i got H, i < n → H D = some (.lst got) → got.length ≤ i → Pv i got H → ∀ (k : V → Hp → Prop) (kn : Hp → Prop),
      (∀ y' H4, H4 D = some (.lst got) → Pv (i + 1) (got ++ [y']) (upd H4 D (.lst (got ++ [y']))) → k y' H4) → (∀ H3, H3 D = some (.lst got) → Pv (i + 1) got H3 → kn H3) →
      g (.int (i : Int)) (wipe σ vs) H fun σ2 H2 => wipe σ2 vs = wipe σ vs ∧ tt σ2 H2 fun b H3 => if b = true then te σ2 H3 k else kn H3)
    (hd : ∀ got H, H D = some (.lst got) → got.length ≤ n → Pv n got H → Qd H) :
    ∃ W : Nat →
            Nat → Hp → Prop, (∃ m, W 0 m (upd H1 D (.lst []))) ∧ ∀ i m H, W i m H →
      ((Itr 0 n).stop i H ∧ Qd H) ∨ ((Itr 0 n).go i H ∧ ∃ Go : Hp → Prop, (∀ H', Go H' → ∃ m', m' < m ∧ W (i + 1) m' H') ∧ ∀ x H', (Itr 0 n).yld i H x H' → g x (wipe σ vs) H' fun σ2 H2 => wipe σ2 vs = wipe σ vs ∧ tt σ2 H2 fun b H3 =>
        if b = true then te σ2 H3 fun y H4 => ∃ got, H4 D = some (.lst got) ∧ got.length < sizeLine ∧ Go (upd H4 D (.lst (got ++ [y]))) else Go H3) := by
  have sz : ∀ n : Nat, n ≤ 90000 → n < sizeLine := fun n h => Nat.lt_of_le_of_lt h (by decide)
  refine lc_range (fun i H => ∃ got, H D = some (.lst got) ∧ got.length ≤ i ∧ Pv i got H) ⟨[], upd_same, Nat.le_refl _, h0⟩ (fun i H hi ⟨got, ha, hacc, h⟩ => ?_) (fun H ⟨got, ha, hacc, h⟩ => hd got H ha hacc h)
  rw [Int.zero_add]
  refine hs i got H hi ha hacc h _ _ (fun y' H4 h4 p => ?_) (fun H3 h3 p => ?_)
  · exact ⟨got, h4, sz _ (by omega), got ++ [y'], upd_same, by rw [List.length_append]; simp; omega, p⟩
  · exact ⟨got, h3, by omega, p⟩
/-- a comprehension whose turns make new things alone: each item has a value, or is left out -/
theorem compP (val : V → Option V) (hD : H1 D = none) (hx : SqL K H1 a xs) (hlen : xs.length ≤ 90000)
    (hs : ∀ y, y ∈ xs → ∀ H, Ex H1 H → ∀ (k : V → Hp → Prop) (kn : Hp → Prop), (∀ y' H4, Ex H H4 → val y = some y' → k y' H4) → (∀ H3, Ex H H3 → val y = none → kn H3) →
      g y (wipe σ vs) H fun σ2 H2 => wipe σ2 vs = wipe σ vs ∧ tt σ2 H2 fun b H3 => if b = true then te σ2 H3 k else kn H3)
    (hd : ∀ H, Ex H1 H → H D = some (.lst (xs.filterMap val)) → Qd H) :
    ∃ W : Nat →
            Nat → Hp → Prop, (∃ m, W 0 m (upd H1 D (.lst []))) ∧ ∀ i m H, W i m H →
      ((Itl K a).stop i H ∧ Qd H) ∨ ((Itl K a).go i H ∧ ∃ Go : Hp → Prop, (∀ H', Go H' → ∃ m', m' < m ∧ W (i + 1) m' H') ∧ ∀ x H', (Itl K a).yld i H x H' → g x (wipe σ vs) H' fun σ2 H2 => wipe σ2 vs = wipe σ vs ∧ tt σ2 H2 fun b H3 =>
        if b = true then te σ2 H3 fun y H4 => ∃ got, H4 D = some (.lst got) ∧ got.length < sizeLine ∧ Go (upd H4 D (.lst (got ++ [y]))) else Go H3) := by
  refine compL (xs := xs) (fun d _ got H => Ex H1 H ∧ got = d.filterMap val) hlen ⟨Ex.new hD, rfl⟩ (fun _ _ _ H _ h => Evl.ex_l h.1 hx) (fun d y r got H hd ha _ h k kn hk hn => ?_) (fun got H ha _ h => hd H h.1 (h.2 ▸ ha))
  obtain ⟨e, rfl⟩ := h
  refine hs y (by rw [← hd]; simp) H e k kn (fun y' H4 e4 hv => ?_) (fun H3 e3 hv => ?_)
  · exact hk y' H4 (e4 _ _ ha) ⟨(e.trans e4).mut hD, by rw [List.filterMap_append, List.filterMap_cons_some hv, List.filterMap_nil]⟩
  · exact hn H3 (e3 _ _ ha) ⟨e.trans e3, by rw [List.filterMap_append, List.filterMap_cons_none hv, List.filterMap_nil, List.append_nil]⟩
end
end LP
namespace LP
open PySem L2
def top (i : Nat) : Stmt := PySem.Challenge.pw_listandpage_k02_schemas_refused.main.body.getD i (.Pass ⟨0, 0, 0, 0⟩)
abbrev s__wall : Stmt := top 0
abbrev s_is_letters : Stmt := top 3
abbrev s_is_word : Stmt := top 4
abbrev s_is_link : Stmt := top 6
abbrev s_has_list : Stmt := top 7
abbrev s_may_lack : Stmt := top 8
abbrev s_ListandpageError : Stmt := top 10
abbrev s_BadSchema : Stmt := top 11
abbrev s_BadSchema___init__ : Stmt := inClass (top 11) 0
abbrev s_BadLine : Stmt := top 12
abbrev s_BadLine___init__ : Stmt := inClass (top 12) 0
abbrev s_BadStore : Stmt := top 13
abbrev s_BadStore___init__ : Stmt := inClass (top 13) 0
abbrev s_NoName : Stmt := top 14
abbrev s_NoName___init__ : Stmt := inClass (top 14) 0
abbrev s_write_lines : Stmt := top 16
abbrev s__write_column : Stmt := top 17
abbrev s_read_lines : Stmt := top 18
abbrev s__is_head : Stmt := top 19
abbrev s__read_column : Stmt := top 20
abbrev s__read_link : Stmt := top 21
abbrev s_Schema : Stmt := top 27
abbrev s_Schema___init__ : Stmt := inClass (top 27) 0
abbrev s_Schema__take_columns : Stmt := inClass (top 27) 1
abbrev s_Schema__is_column : Stmt := inClass (top 27) 2
abbrev s_Schema__is_list : Stmt := inClass (top 27) 3
abbrev s_Schema_columns : Stmt := inClass (top 27) 4
abbrev s_Schema_lists : Stmt := inClass (top 27) 5
abbrev s_Schema_filled : Stmt := inClass (top 27) 6
abbrev s_Schema_read : Stmt := inClass (top 27) 7
abbrev s_Schema_is_name : Stmt := inClass (top 27) 8
abbrev s_Schema___len__ : Stmt := inClass (top 27) 9
abbrev s_Schema___contains__ : Stmt := inClass (top 27) 10
abbrev s_Schema___eq__ : Stmt := inClass (top 27) 11
abbrev s_Schema___str__ : Stmt := inClass (top 27) 12
abbrev s__meets : Stmt := top 28
abbrev s__law_start : Stmt := top 30
abbrev s__law_take : Stmt := top 31
abbrev s__law_of : Stmt := top 32
abbrev s__law_reserved : Stmt := top 33
abbrev s__law_draw_letters : Stmt := top 34
abbrev s__law_new_name : Stmt := top 35
abbrev s__law_all_links : Stmt := top 36
abbrev s__law_reach : Stmt := top 37
abbrev s__law_is_listed : Stmt := top 38
abbrev s__law_is_heavy : Stmt := top 39
abbrev s__law_names_taken : Stmt := top 40
abbrev s__law_allowed : Stmt := top 41
abbrev s__law_draw_columns : Stmt := top 42
abbrev s__law_draw_tables : Stmt := top 43
abbrev s__law_is_name : Stmt := top 44
abbrev s__law_odd_name : Stmt := top 45
abbrev s__law_find_column : Stmt := top 46
abbrev s__law_fits : Stmt := top 47
abbrev s__law_broken : Stmt := top 48
abbrev s__law_what_is_due : Stmt := top 49
abbrev s__law_what_comes : Stmt := top 50
abbrev s__law_spoilt : Stmt := top 51
abbrev s_law : Stmt := top 52
end LP
namespace LP
open PySem L2
open Evl (Ex)
abbrev S (cs : List Nat) : Str := ⟨cs.toArray⟩
theorem S_tl (x : Str) : S x.cps.toList = x := by cases x; rfl
theorem S_inj {a b : List Nat} (e : S a = S b) : a = b := congrArg (fun z : Str => z.cps.toList) e
theorem str_ext {x y : Str} (h : x.cps.toList = y.cps.toList) : x = y := by rw [← S_tl x, ← S_tl y, h]
theorem len_tl (x : Str) : x.length = x.cps.toList.length := by simp [Str.length]
/-! ### names -/
def reservedL : List Str := ["all", "and", "any", "as", "else", "false", "for", "if", "in", "is", "lacks", "no", "not", "or", "return", "some", "super", "thing", "true", "user"]
def Low (w : Str) : Prop := ∀ c ∈ w.cps.toList, 97 ≤ c ∧ c ≤ 122
def IsWord (w : Str) : Prop := 1 ≤ w.length ∧ w.length ≤ 8 ∧ Low w
def IsName (w : Str) : Prop := IsWord w ∧ w ∉ reservedL
def vOpt : Option Str → V
  | none => .non
  | some x => .str x
def lettersS : Str := "abcdefghijklmnopqrstuvwxyz"
theorem letters_tl : lettersS.cps.toList = (List.range 26).map (· + 97) := by decide +kernel
theorem inV_str (w : Str) (xs : List Str) : inV (.str w) (xs.map V.str) = decide (w ∈ xs) := by
  unfold inV
  rw [List.any_map]
  by_cases h : w ∈ xs
  · rw [decide_eq_true h, List.any_eq_true]
    exact ⟨w, h, by simp [eqV]⟩
  · rw [decide_eq_false h, List.any_eq_false]
    intro x hx
    simp only [Function.comp, eqV, beq_iff_eq]
    intro e
    exact h (e ▸ hx)
theorem flat_strs (xs : List Str) : (xs.map V.str).all flatV = true := by
  rw [List.all_map, List.all_eq_true]
  intro x _
  rfl
theorem joinL_chars : ∀ cs : List Nat, TL.joinL [] (cs.map fun c => [c]) = cs
  | [] => rfl
  | [_] => rfl
  | c :: c' :: r => by
    show [c] ++ ([] ++ TL.joinL [] ((c' :: r).map fun c => [c])) = c :: c' :: r
    rw [joinL_chars (c' :: r)]
    rfl
theorem join_chars (cs : List Nat) : Txt.join "" (cs.map fun c => S [c]) = S cs := by
  have h := SX.join_S [] (cs.map fun c => [c])
  rw [List.map_map] at h
  rw [show ("" : Str) = SX.S [] by decide +kernel]
  refine Eq.trans h ?_
  rw [joinL_chars]
/-! ### the promises of the helpers that draw -/
def spOf (K : PySem.W.Frag) : Sp := fun vs H Q _ => ∃ (b p : Addr) (xs : List V) (n : Nat), vs = [.ref b, .ref p] ∧ BagAt H b n ∧ n < 100000000 ∧ SqL K (del b H) p xs ∧ xs ≠ [] ∧ xs.length ≤ 90000 ∧
  ∀ (v : V) (H' : Hp), v ∈ xs → BagAt H' b (n + 1) → Ex (del b H) H' → Q v H'
def spReserved : Sp := fun vs H Q _ => vs = [] ∧ ∀ p, H p = none → Q (.ref p) (upd H p (.lst (reservedL.map V.str)))
def spLetters : Sp := fun vs H Q _ => ∃ (b : Addr) (most : Int) (n : Nat), vs = [.ref b, .int most] ∧ BagAt H b n ∧ n < 90000000 ∧ 1 ≤ most ∧ most ≤ 1000 ∧
  ∀ (w : Str) (H' : Hp), 1 ≤ w.length → (w.length : Int) ≤ most → Low w → BagAt H' b (n + 1 + most.toNat) → Ex (del b H) H' → Q (.str w) H'
def spNewName (K : PySem.W.Frag) : Sp := fun vs H Q _ => ∃ (b t : Addr) (xs : List (Option Str)) (n : Nat), vs = [.ref b, .ref t] ∧ BagAt H b n ∧ n < 90000000 ∧ SqL K (del b H) t (xs.map vOpt) ∧ xs.length ≤ 600 ∧
  ∀ (w : Str) (H' : Hp), IsName w → some w ∉ xs → BagAt H' b (n + 9) → Ex (del b H) H' → Q (.str w) H'
end LP
namespace LP
open PySem L2
open Evl (Ex)
section
variable {K : PySem.W.Frag} {H : Hp} {p : Addr} {Q : VK}
theorem w_notInStr {w : Str} {xs : List Str} (h : SqL K H p (xs.map V.str)) (q : Q (.bl (!decide (w ∈ xs))) H) : rIn K true (.str w) (.ref p) H Q := by
  refine w_inL h rfl (flat_strs xs) ?_
  rw [inV_str]
  exact q
theorem w_inStr {w : Str} {xs : List Str} (h : SqL K H p (xs.map V.str)) (q : Q (.bl (decide (w ∈ xs))) H) : rIn K false (.str w) (.ref p) H Q := by
  refine w_inL h rfl (flat_strs xs) ?_
  rw [inV_str]
  exact q
theorem inV_opt (w : Str) (xs : List (Option Str)) : inV (.str w) (xs.map vOpt) = decide (some w ∈ xs) := by
  unfold inV
  rw [List.any_map]
  by_cases h : some w ∈ xs
  · rw [decide_eq_true h, List.any_eq_true]
    exact ⟨some w, h, by simp [vOpt, eqV]⟩
  · rw [decide_eq_false h, List.any_eq_false]
    intro x hx
    cases x with
    | none => simp [vOpt, eqV]
    | some y =>
      simp only [Function.comp, vOpt, eqV, beq_iff_eq]
      intro e
      exact h (e ▸ hx)
theorem flat_opts (xs : List (Option Str)) : (xs.map vOpt).all flatV = true := by
  rw [List.all_map, List.all_eq_true]
  intro x _
  cases x <;> rfl
theorem w_notInOpt {w : Str} {xs : List (Option Str)} (h : SqL K H p (xs.map vOpt)) (q : Q (.bl (!decide (some w ∈ xs))) H) : rIn K true (.str w) (.ref p) H Q := by
  refine w_inL h rfl (flat_opts xs) ?_
  rw [inV_opt]
  exact q
end
theorem cut_to {w : Str} {i : Int} (h : 0 ≤ i) : cutS w none (some i) = S (w.cps.toList.take i.toNat) := by
  rw [C8.cutS_slice, ← SX.S_tl w]
  exact SX.slice_to h
theorem cut_from {w : Str} {i : Int} (h : 0 ≤ i) : cutS w (some i) none = S (w.cps.toList.drop i.toNat) := by
  rw [C8.cutS_slice, ← SX.S_tl w]
  exact SX.slice_from h
theorem S_cat (a b : List Nat) : S a ++ S b = S (a ++ b) := SX.S_cat a b
theorem S_len (a : List Nat) : (S a).length = a.length := by simp [Str.length]
/-- a list without repetition in a shorter one: no -/
theorem pigeon {α : Type} [BEq α] [LawfulBEq α] : ∀ {l m : List α}, l.Nodup → (∀ x ∈ l, x ∈ m) → l.length ≤ m.length
  | [], m, _, _ => Nat.zero_le m.length
  | x :: r, m, nd, h => by
    have hx : x ∈ m := h x List.mem_cons_self
    have nd' := List.nodup_cons.mp nd
    have := pigeon (l := r) (m := m.erase x) nd'.2 fun y hy => (List.mem_erase_of_ne (fun e : y = x => nd'.1 (e ▸ hy))).mpr (h y (List.mem_cons_of_mem _ hy))
    rw [List.length_erase_of_mem hx] at this
    have hm : 0 < m.length := List.length_pos_of_mem hx
    rw [List.length_cons]
    omega
end LP
namespace LP
open PySem L2
open Evl (Ex)
/-! ### columns and tables as the program holds them -/
inductive Col where
  /-- a flag or a number: its kind, its name -/
  | plain (flag : Bool) (name : Str)
  | word (name : Str) (opt : Bool)
  | link (name target : Str) (opt : Bool) (lst : Option Str)
  deriving DecidableEq
namespace Col
def name : Col → Str
  | plain _ n => n
  | word n _ => n
  | link n _ _ _ => n
def kind : Col → Str
  | plain true _ => "flag"
  | plain false _ => "number"
  | word .. => "word"
  | link .. => "link"
def isLink : Col → Bool
  | link .. => true
  | _ => false
def target : Col → Str
  | link _ t _ _ => t
  | _ => ""
def lst : Col → Option Str
  | link _ _ _ l => l
  | _ => none
def opt : Col → Bool
  | word _ o => o
  | link _ _ o _ => o
  | _ => false
end Col
def Col.vals : Col → List V
  | .plain f n => [.str (if f then "flag" else "number"), .str n]
  | .word n o => [.str "word", .str n, .bl o]
  | .link n t o l => [.str "link", .str n, .str t, .bl o, vOpt l]
abbrev Tabs := List (Str × List Col)
def ColAt (H : Hp) (v : V) (c : Col) : Prop := ∃ a, v = .ref a ∧ H a = some (.tup c.vals)
abbrev ColsV (H : Hp) (vs : List V) (cs : List Col) : Prop := Paired (ColAt H) vs cs
def ColsAt (H : Hp) (p : Addr) (cs : List Col) : Prop := ∃ vs, H p = some (.lst vs) ∧ ColsV H vs cs
def TabAt (H : Hp) (v : V) (t : Str × List Col) : Prop := ∃ a p, v = .ref a ∧ H a = some (.tup [.str t.1, .ref p]) ∧ ColsAt H p t.2
abbrev TabsV (H : Hp) (vs : List V) (ts : Tabs) : Prop := Paired (TabAt H) vs ts
def TabsAt (H : Hp) (p : Addr) (ts : Tabs) : Prop := ∃ vs, H p = some (.lst vs) ∧ TabsV H vs ts
theorem paired_imp {α β : Type} {R R' : α → β → Prop} (h : ∀ a b, R a b → R' a b) : ∀ {l : List α} {m : List β}, Paired R l m → Paired R' l m
  | _, _, .nil => .nil
  | _, _, .cons x r => .cons (h _ _ x) (paired_imp h r)
theorem ColAt.ext {H H' : Hp} {v : V} {c : Col} (e : Ex H H') (h : ColAt H v c) : ColAt H' v c := by
  obtain ⟨a, ev, ha⟩ := h
  exact ⟨a, ev, e _ _ ha⟩
theorem ColsV.ext {H H' : Hp} {vs : List V} {cs : List Col} (e : Ex H H') (h : ColsV H vs cs) : ColsV H' vs cs := paired_imp (fun _ _ => ColAt.ext e) h
theorem ColsAt.ext {H H' : Hp} {p : Addr} {cs : List Col} (e : Ex H H') (h : ColsAt H p cs) : ColsAt H' p cs := by
  obtain ⟨vs, hp, hv⟩ := h
  exact ⟨vs, e _ _ hp, hv.ext e⟩
theorem TabAt.ext {H H' : Hp} {v : V} {t : Str × List Col} (e : Ex H H') (h : TabAt H v t) : TabAt H' v t := by
  obtain ⟨a, p, ev, ha, hc⟩ := h
  exact ⟨a, p, ev, e _ _ ha, hc.ext e⟩
theorem TabsV.ext {H H' : Hp} {vs : List V} {ts : Tabs} (e : Ex H H') (h : TabsV H vs ts) : TabsV H' vs ts := paired_imp (fun _ _ => TabAt.ext e) h
theorem TabsAt.ext {H H' : Hp} {p : Addr} {ts : Tabs} (e : Ex H H') (h : TabsAt H p ts) : TabsAt H' p ts := by
  obtain ⟨vs, hp, hv⟩ := h
  exact ⟨vs, e _ _ hp, hv.ext e⟩
theorem ColAt.upd {H : Hp} {v : V} {c : Col} {q : Addr} {xs : List V} {o : HO} (hq : H q = some (.lst xs)) (h : ColAt H v c) : ColAt (upd H q o) v c := by
  obtain ⟨a, ev, ha⟩ := h
  exact ⟨a, ev, by rw [upd_ne (ne_of ha hq (by intro z; cases z))]; exact ha⟩
theorem ColsV.upd {H : Hp} {vs : List V} {cs : List Col} {q : Addr} {xs : List V} {o : HO} (hq : H q = some (.lst xs)) (h : ColsV H vs cs) : ColsV (upd H q o) vs cs := paired_imp (fun _ _ => ColAt.upd hq) h
theorem BagAt.tup_ne {H : Hp} {b a : Addr} {n : Nat} {xs : List V} (h : BagAt H b n) (ha : H a = some (.tup xs)) : a ≠ b := by
  obtain ⟨d, m, t, h1, _⟩ := h.ex
  exact ne_of ha h1 (by intro z; cases z)
theorem ColAt.del {H : Hp} {b : Addr} {n : Nat} {v : V} {c : Col} (hB : BagAt H b n) (h : ColAt H v c) : ColAt (del b H) v c := by
  obtain ⟨a, ev, ha⟩ := h
  exact ⟨a, ev, by rw [del_ne (hB.tup_ne ha)]; exact ha⟩
theorem ColsV.del {H : Hp} {b : Addr} {n : Nat} {vs : List V} {cs : List Col} (hB : BagAt H b n) (h : ColsV H vs cs) : ColsV (del b H) vs cs := paired_imp (fun _ _ => ColAt.del hB) h
theorem ColsV.refs {H : Hp} {vs : List V} {cs : List Col} (h : ColsV H vs cs) : ∀ i j k : Int, vs ≠ [.int i, .int j, .int k] := by
  intro i j k e
  subst e
  cases h with
  | cons h _ =>
    obtain ⟨a, e, _⟩ := h
    cases e
theorem ColsAt.del {H : Hp} {b q : Addr} {n : Nat} {cs : List Col} (hB : BagAt H b n) (h : ColsAt H q cs) : ColsAt (del b H) q cs := by
  obtain ⟨vs, hq, hv⟩ := h
  exact ⟨vs, by rw [del_ne (hB.ne hq hv.refs)]; exact hq, hv.del hB⟩
theorem paired_len {α β : Type} {R : α → β → Prop} : ∀ {l : List α} {m : List β}, Paired R l m → l.length = m.length
  | _, _, .nil => rfl
  | _, _, .cons _ r => by rw [List.length_cons, List.length_cons, paired_len r]
/-- an item of the first list has its partner -/
theorem paired_mem {α β : Type} {R : α → β → Prop} : ∀ {l : List α} {m : List β}, Paired R l m → ∀ x ∈ l, ∃ y ∈ m, R x y
  | _, _, .cons (a := a) (b := b) h r, x, hx => by
    rcases List.mem_cons.1 hx with rfl | hx
    · exact ⟨b, List.mem_cons_self, h⟩
    · obtain ⟨y, hy, q⟩ := paired_mem r x hx
      exact ⟨y, List.mem_cons_of_mem _ hy, q⟩
theorem paired_app {α β : Type} {R : α → β → Prop} : ∀ {l l' : List α} {m m' : List β}, Paired R l m → Paired R l' m' → Paired R (l ++ l') (m ++ m')
  | _, _, _, _, .nil, q => q
  | _, _, _, _, .cons h r, q => .cons h (paired_app r q)
/-- cut where the first list is cut -/
theorem paired_cut {α β : Type} {R : α → β → Prop} : ∀ {d r : List α} {m : List β}, Paired R (d ++ r) m → ∃ md mr, m = md ++ mr ∧ Paired R d md ∧ Paired R r mr
  | [], r, m, h => ⟨[], m, rfl, .nil, h⟩
  | x :: d, r, _, .cons h q => by
    obtain ⟨md, mr, rfl, h1, h2⟩ := paired_cut (d := d) q
    exact ⟨_ :: md, mr, rfl, .cons h h1, h2⟩
theorem paired_cons {α β : Type} {R : α → β → Prop} {x : α} {r : List α} {m : List β} (h : Paired R (x :: r) m) : ∃ y mr, m = y :: mr ∧ R x y ∧ Paired R r mr := by
  cases h with
  | cons h q => exact ⟨_, _, rfl, h, q⟩
/-- what is told of each item alone -/
theorem paired_filterMap {α β γ δ : Type} {R : α → β → Prop} {R' : γ → δ → Prop} {f : α → Option γ} {g : β → Option δ}
    (h : ∀ a b, R a b → (f a = none ∧ g b = none) ∨ ∃ x y, f a = some x ∧ g b = some y ∧ R' x y) : ∀ {l : List α} {m : List β}, Paired R l m → Paired R' (l.filterMap f) (m.filterMap g)
  | _, _, .nil => .nil
  | _, _, .cons (a := a) (b := b) q r => by
    have ih := paired_filterMap h r
    rcases h a b q with ⟨h1, h2⟩ | ⟨x, y, h1, h2, h3⟩
    · rw [List.filterMap_cons_none h1, List.filterMap_cons_none h2]
      exact ih
    · rw [List.filterMap_cons_some h1, List.filterMap_cons_some h2]
      exact .cons h3 ih
/-! ### the places of a column's values -/
theorem Col.at0 (c : Col) : atI c.vals 0 = some (.str c.kind) := by
  cases c with
  | plain f n => cases f <;> rfl
  | word n o => rfl
  | link n t o l => rfl
theorem Col.at1 (c : Col) : atI c.vals 1 = some (.str c.name) := by
  cases c with
  | plain f n => cases f <;> rfl
  | word n o => rfl
  | link n t o l => rfl
theorem Col.at2 {c : Col} (h : c.isLink = true) : atI c.vals 2 = some (.str c.target) := by
  cases c with
  | link n t o l => rfl
  | _ => cases h
theorem Col.at3 {c : Col} (h : c.isLink = true) : atI c.vals 3 = some (.bl c.opt) := by
  cases c with
  | link n t o l => rfl
  | _ => cases h
theorem Col.at4 {c : Col} (h : c.isLink = true) : atI c.vals 4 = some (vOpt c.lst) := by
  cases c with
  | link n t o l => rfl
  | _ => cases h
theorem Col.kind_link (c : Col) : decide (V.str c.kind = V.str "link") = c.isLink := by
  cases c with
  | plain f n =>
    cases f with
    | true => show decide (V.str "flag" = V.str "link") = false; decide +kernel
    | false => show decide (V.str "number" = V.str "link") = false; decide +kernel
  | word n o => show decide (V.str "word" = V.str "link") = false; decide +kernel
  | link n t o l => exact decide_eq_true rfl
/-- a link of the columns that has been told -/
theorem vOpt_non (o : Option Str) : (!decide (vOpt o = V.non)) = o.isSome := by
  cases o with
  | none => rfl
  | some x => rfl
end LP
namespace LP
open PySem L2
open Evl (Ex)
/-! ### values of any kind, and what isinstance says of them -/
def tyD : PyData → String
  | .none => "NoneType"
  | .bool _ => "bool"
  | .int _ => "int"
  | .str _ => "str"
  | .list _ => "list"
  | .tuple _ => "tuple"
  | .dict _ => "dict"
theorem dp_ty {K : PySem.W.Frag} {H : Hp} {v : V} {d : PyData} (h : Dp K H v d) : TyX K H v (.type (tyD d)) := by
  cases h with
  | non => exact .base .non
  | bl b => exact .base (.bl b)
  | int i => exact .base (.int i)
  | str x => exact .base (.str x)
  | lst hs _ =>
    rcases hs with (h | ⟨o, h⟩) | ⟨o, its, n, h1, h2, _⟩
    · exact .base (.lst h)
    · exact .base (.frz h)
    · exact .kList h1 h2
  | tup hs _ =>
    rcases hs with (h | ⟨o, h⟩) | ⟨o, its, n, h1, h2, _⟩
    · exact .base (.tup h)
    · exact .fTuple h
    · exact .kTuple h1 h2
mutual
theorem dp_ext {K : PySem.W.Frag} {H H' : Hp} (e : Ex H H') : ∀ {v : V} {d : PyData}, Dp K H v d → Dp K H' v d
  | _, _, .non => .non
  | _, _, .bl b => .bl b
  | _, _, .int i => .int i
  | _, _, .str x => .str x
  | _, _, .lst h r => .lst (Evl.ex_l e h) (dpAll_ext e r)
  | _, _, .tup h r => .tup (Evl.ex_t e h) (dpAll_ext e r)
theorem dpAll_ext {K : PySem.W.Frag} {H H' : Hp} (e : Ex H H') : ∀ {vs : List V} {ds : List PyData}, DpAll K H vs ds → DpAll K H' vs ds
  | _, _, .nil => .nil
  | _, _, .cons h r => .cons (dp_ext e h) (dpAll_ext e r)
end
def isStrD (d : PyData) : Bool := match d with
  | .str _ => true
  | _ => false
section
variable {K : PySem.W.Frag} {H : Hp} {Q : VK} {v : V}
theorem w_isi {c t : String} {r : Bool} (ty : TyX K H v (.type t)) (hk : kitB t c = some r) (q : Q (.bl r) H) : rIsi K [v, .ty c] H Q := ⟨v, .ty c, .type t, .type c, r, rfl, .ty c, ty, kit_ty hk, q⟩
theorem w_isStr {d : PyData} (h : Dp K H v d) (q : Q (.bl (isStrD d)) H) : rIsi K [v, .ty "str"] H Q := by
  refine w_isi (dp_ty h) ?_ q
  cases d with
  | none => show kitB "NoneType" "str" = some false; decide +kernel
  | bool b => show kitB "bool" "str" = some false; decide +kernel
  | int i => show kitB "int" "str" = some false; decide +kernel
  | str x => show kitB "str" "str" = some true; decide +kernel
  | list l => show kitB "list" "str" = some false; decide +kernel
  | tuple l => show kitB "tuple" "str" = some false; decide +kernel
  | dict l => show kitB "dict" "str" = some false; decide +kernel
end
/-! ### letters -/
theorem letter_facts : ∀ c, c < 128 → Unicode.isAlpha c = (decide (65 ≤ c ∧ c ≤ 90) || decide (97 ≤ c ∧ c ≤ 122)) ∧ Unicode.isLower c = decide (97 ≤ c ∧ c ≤ 122) ∧ (Unicode.isUpper c || Unicode.isTitle c) = decide (65 ≤ c ∧ c ≤ 90) := by decide +kernel
def lettersB (w : Str) : Bool := Txt.isascii w && (Txt.isalpha w && Txt.islower w)
theorem lettersB_iff (w : Str) : lettersB w = true ↔ 1 ≤ w.length ∧ Low w := by
  unfold lettersB Txt.isascii Txt.isalpha Txt.islower Low
  simp only [Bool.and_eq_true, ← Array.all_toList, ← Array.any_toList, List.all_eq_true, List.any_eq_true, decide_eq_true_eq, Bool.not_eq_true']
  constructor
  · rintro ⟨h1, ⟨h2, h3⟩, h4, h5⟩
    refine ⟨by omega, fun c hc => ?_⟩
    have f := letter_facts c (h1 c hc)
    have a := h3 c hc
    rw [f.1, Bool.or_eq_true, decide_eq_true_eq, decide_eq_true_eq] at a
    rcases a with a | a
    · have b := List.any_eq_false.mp h5 c hc
      rw [f.2.2] at b
      exact absurd (decide_eq_true a) b
    · exact a
  · rintro ⟨h1, h2⟩
    have lt : ∀ c ∈ w.cps.toList, c < 128 := fun c hc => by have := h2 c hc; omega
    refine ⟨lt, ⟨by omega, fun c hc => ?_⟩, ?_, List.any_eq_false.mpr fun c hc => ?_⟩
    · rw [(letter_facts c (lt c hc)).1, Bool.or_eq_true, decide_eq_true_eq, decide_eq_true_eq]
      exact .inr (h2 c hc)
    · rw [len_tl] at h1
      cases e : w.cps.toList with
      | nil => rw [e] at h1; exact absurd h1 (by decide)
      | cons c r =>
        have hc : c ∈ w.cps.toList := by rw [e]; exact List.mem_cons_self
        exact ⟨c, List.mem_cons_self, by rw [(letter_facts c (lt c hc)).2.1]; exact decide_eq_true (h2 c hc)⟩
    · rw [(letter_facts c (lt c hc)).2.2]
      have := h2 c hc
      simp only [decide_eq_true_eq]
      omega
def wordB (w : Str) : Bool := lettersB w && decide (w.length ≤ 8)
theorem wordB_iff (w : Str) : wordB w = true ↔ IsWord w := by
  unfold wordB IsWord
  rw [Bool.and_eq_true, lettersB_iff, decide_eq_true_eq]
  constructor
  · rintro ⟨⟨h1, h2⟩, h3⟩; exact ⟨h1, h3, h2⟩
  · rintro ⟨h1, h2, h3⟩; exact ⟨⟨h1, h3⟩, h2⟩
def nameB (w : Str) : Bool := wordB w && !decide (w ∈ reservedL)
theorem nameB_iff (w : Str) : nameB w = true ↔ IsName w := by
  unfold nameB IsName
  rw [Bool.and_eq_true, wordB_iff, Bool.not_eq_true', decide_eq_false_iff_not]
def strD (f : Str → Bool) : PyData → Bool
  | .str w => f w
  | _ => false
/-! ### dicts with text keys -/
section
variable {K : PySem.W.Frag} {σ : L2.St} {H : Hp} {Q : VK} {v : V} {ta tb tc : TE} {D : Ends} {a : Addr} {kvs : List (Key × V)} {k : Str}
theorem w_dget (h : ta σ H fun x H1 => tb σ H1 fun y H2 => ∃ a v, x = .ref a ∧ DGet H2 a y (some v) ∧ Q v H2) : tDGet ta tb σ H Q := h
theorem w_din (h : ta σ H fun y H1 => tb σ H1 fun x H2 => ∃ a o, x = .ref a ∧ DGet H2 a y o ∧ Q (.bl o.isSome) H2) : tDIn ta tb σ H Q := h
theorem w_kGet (h : H a = some (.dK kvs)) (e : valV kvs (Sum.inr k : Key) = some v) (q : Q v H) : ∃ a' v', V.ref a = .ref a' ∧ DGet H a' (.str k) (some v') ∧ Q v' H := ⟨a, v, rfl, e ▸ DGet.k (k := Sum.inr k) h, q⟩
theorem w_kIn (h : H a = some (.dK kvs)) (q : Q (.bl (valV kvs (Sum.inr k : Key)).isSome) H) : ∃ a' o, V.ref a = .ref a' ∧ DGet H a' (.str k) o ∧ Q (.bl o.isSome) H := ⟨a, _, rfl, DGet.k (k := Sum.inr k) h, q⟩
theorem w_dput (h : tc σ H fun v H1 => ta σ H1 fun x H2 => tb σ H2 fun y H3 => ∃ a H4, x = .ref a ∧ DPut H3 a y v H4 ∧ D.nx σ H4) : sDPut ta tb tc D σ H := h
theorem w_kPut {q : Hp → Prop} (h : H a = some (.dK kvs)) (l : kvs.length < sizeLine) (hq : q (upd H a (.dK (putK kvs (Sum.inr k : Key) v)))) : ∃ a' H4, V.ref a = .ref a' ∧ DPut H a' (.str k) v H4 ∧ q H4 := ⟨a, _, rfl, DPut.k (k := Sum.inr k) h l, hq⟩
end
end LP
namespace LP
open PySem L2
open Evl (Ex)
section
variable {K : PySem.W.Frag} {a : Addr} {xs : List V} {g : TG} {tt : TT} {te : TE} {vs : List Nat} {σ : L2.St} {H1 : Hp} {D : Addr} {Qd : Hp → Prop}
/-- a comprehension beside a list of data: each item has a value, or is left out; nothing but new things comes of a turn -/
theorem compQ {α δ : Type} (zs : List α) (R : V → α → Prop) (f : α → Option δ) (R' : V → δ → Prop) (hD : H1 D = none) (hx : SqL K H1 a xs) (hlen : xs.length ≤ 90000) (hz : Paired R xs zs)
    (hs : ∀ y z, R y z → z ∈ zs → ∀ H, Ex H1 H → ∀ (k : V → Hp → Prop) (kn : Hp → Prop), (∀ y' d H4, Ex H H4 → f z = some d → R' y' d → k y' H4) → (∀ H3, Ex H H3 → f z = none → kn H3) →
      g y (wipe σ vs) H fun σ2 H2 => wipe σ2 vs = wipe σ vs ∧ tt σ2 H2 fun b H3 => if b = true then te σ2 H3 k else kn H3)
    (hd : ∀ got H, Ex H1 H → H D = some (.lst got) → Paired R' got (zs.filterMap f) → Qd H) :
    ∃ W : Nat →
            Nat → Hp → Prop, (∃ m, W 0 m (upd H1 D (.lst []))) ∧ ∀ i m H, W i m H →
      ((Itl K a).stop i H ∧ Qd H) ∨ ((Itl K a).go i H ∧ ∃ Go : Hp → Prop, (∀ H', Go H' → ∃ m', m' < m ∧ W (i + 1) m' H') ∧ ∀ x H', (Itl K a).yld i H x H' → g x (wipe σ vs) H' fun σ2 H2 => wipe σ2 vs = wipe σ vs ∧ tt σ2 H2 fun b H3 =>
        if b = true then te σ2 H3 fun y H4 => ∃ got, H4 D = some (.lst got) ∧ got.length < sizeLine ∧ Go (upd H4 D (.lst (got ++ [y]))) else Go H3) := by
  refine compL (xs := xs) (fun d r got H => Ex H1 H ∧ ∃ md mr, zs = md ++ mr ∧ Paired R d md ∧ Paired R r mr ∧ Paired R' got (md.filterMap f)) hlen ⟨Ex.new hD, [], zs, rfl, .nil, hz, .nil⟩ (fun _ _ _ H _ h => Evl.ex_l h.1 hx) (fun d y r got H hd ha _ h k kn hk hn => ?_) (fun got H ha _ h => ?_)
  · obtain ⟨e, md, mr, ez, p1, p2, p3⟩ := h
    obtain ⟨z, mr, rfl, rz, p2⟩ := paired_cons p2
    have ez' : zs = (md ++ [z]) ++ mr := by rw [ez, List.append_assoc]; rfl
    refine hs y z rz (by rw [ez]; simp) H e k kn (fun y' d' H4 e4 hv hr => ?_) (fun H3 e3 hv => ?_)
    · refine hk y' H4 (e4 _ _ ha) ⟨(e.trans e4).mut hD, md ++ [z], mr, ez', paired_app p1 (.cons rz .nil), p2, ?_⟩
      rw [List.filterMap_append, List.filterMap_cons_some hv, List.filterMap_nil]
      exact paired_app p3 (.cons hr .nil)
    · refine hn H3 (e3 _ _ ha) ⟨e.trans e3, md ++ [z], mr, ez', paired_app p1 (.cons rz .nil), p2, ?_⟩
      rw [List.filterMap_append, List.filterMap_cons_none hv, List.filterMap_nil, List.append_nil]
      exact p3
  · obtain ⟨e, md, mr, ez, p1, p2, p3⟩ := h
    cases p2
    rw [List.append_nil] at ez
    subst ez
    exact hd got H e ha p3
/-- the values of a list of texts (or None) -/
theorem vals_strs {got : List V} {l : List Str} (h : Paired (fun v x => v = V.str x) got l) : got = l.map V.str := by
  induction h with
  | nil => rfl
  | cons h _ ih => rw [List.map_cons, h, ih]
theorem vals_opts {got : List V} {l : List (Option Str)} (h : Paired (fun v x => v = vOpt x) got l) : got = l.map vOpt := by
  induction h with
  | nil => rfl
  | cons h _ ih => rw [List.map_cons, h, ih]
theorem vals_bls {got : List V} {l : List Bool} (h : Paired (fun v x => v = V.bl x) got l) : got = l.map V.bl := by
  induction h with
  | nil => rfl
  | cons h _ ih => rw [List.map_cons, h, ih]
theorem filterMap_some {α β : Type} (f : α → β) (l : List α) : l.filterMap (fun x => some (f x)) = l.map f := by
  induction l with
  | nil => rfl
  | cons x r ih => exact congrArg (f x :: ·) ih
theorem filterMap_if {α : Type} (p : α → Bool) (l : List α) : l.filterMap (fun x => if p x = true then some x else none) = l.filter p := by
  induction l with
  | nil => rfl
  | cons x r ih =>
    cases h : p x with
    | true => rw [List.filterMap_cons_some (by rw [if_pos h]), ih, List.filter_cons_of_pos h]
    | false => rw [List.filterMap_cons_none (by rw [h]; rfl), ih, List.filter_cons_of_neg (by rw [h]; exact Bool.false_ne_true)]
theorem filterMap_ifm {α β : Type} (p : α → Bool) (f : α → β) (l : List α) : l.filterMap (fun x => if p x = true then some (f x) else none) = (l.filter p).map f := by
  induction l with
  | nil => rfl
  | cons x r ih =>
    cases h : p x with
    | true => rw [List.filterMap_cons_some (by rw [if_pos h]), ih, List.filter_cons_of_pos h, List.map_cons]
    | false => rw [List.filterMap_cons_none (by rw [h]; rfl), ih, List.filter_cons_of_neg (by rw [h]; exact Bool.false_ne_true)]
end
end LP
namespace LP
open PySem L2
open PySem.W (KdlSrc)
section
variable {prog : Program}
        {w : World} {A : Around} {E : Value → Shared → Prop} {s : Shared} {T : String} {r d : Addr} {n : Nat} {P : Nat → Value → Prop} {OK : Heap → Prop}
/-- what list(x) can take, a tuple can be made of -/
theorem collect_src {Q : List Value → Shared → Prop} (src : KdlSrc prog w T r d n P OK) (calm : A.handled = none) (ok : OK s.heap) (few : n ≤ sizeLine)
    (q : ∀ (h' : Heap) (tk : Nat) (acc : Array Value), (∀ b o, s.heap.get? b = some o → h'.get? b = some o) → ItemsOf P acc n → Q acc.toList { s with heap := h', toks := tk }) : wpAny (model prog w) A (collect (.ref r)) Q E s := by
  have lt := src.there _ ok
  let S := s.heap.objs.size
  let s1 : Shared := { s with heap := s.heap.push { cls := .type "list", data := .seq ([] : List Value).toArray } }
  have hS : s1.heap.get? S = some { cls := .type "list", data := .seq #[] 0 } := Heap.get?_push_size _ rfl
  have up : ∀ b o, s.heap.get? b = some o → s1.heap.get? b = some o := fun b o e => Heap.get?_push_of_some _ e
  have ok1 : OK s1.heap := src.keep _ _ ok fun b _ o e => up b o e
  unfold collect
  refine wpAny_bind
          (wpAny_runValue (codeAny_builtin F.entry_proto_collect ?_))
  rw [Around.under_plainId F.plain_proto_collect _]; show wpAny _ A.in1 (newList [] >>= fun l => again (.builtin "list.__iadd__" ⟨[l, .ref r], []⟩)) _ _ s
  refine wpAny_bind (wpAny_newObj_type (wpAny_pure ⟨plainId_quiet F.plain_list_iadd _, codeAny_builtin F.entry_list_iadd ?_⟩))
  rw [Around.under_plainId F.plain_list_iadd _]; show wpAny _ A.in1 (Builtin.List.listExtendWith (.ref S) (.ref r) (.ref S)) _ _ s1
  let R : Result → Shared → Prop := fun rr s' => rr = .ok (.ret (.ref S)) ∧ ∃ (h' : Heap) (tk : Nat) (acc : Array Value) (c : Nat), s' = { s with heap := h', toks := tk } ∧ (∀ b o, s.heap.get? b = some o → h'.get? b = some o) ∧ h'.get? S = some { cls := .type "list", dict := none, data := .seq acc c, slots := #[] } ∧ ItemsOf P acc n
  have ext := PySem.W.kdl_extend (A := A) (R := R) src calm ok1 S (Nat.ne_of_gt lt.1) (Nat.ne_of_gt lt.2) (.ref S) 0 hS (fun h' tk acc c k e i => ⟨rfl, h', tk, acc, c, rfl, fun b o z => k b o (Nat.ne_of_lt (Heap.lt_size z)) (up b o z), e, i⟩) few
  have fin : ∀ {s' : Shared}, R (.ok (.ret (.ref S))) s' → wpAny (model prog w) A (load S >>= fun ob => match ob.data with | Data.seq xs _ => pure xs.toList | _ => unsupported "internal:collect") Q E s' := fun {s'} h => by
    obtain ⟨_, h', tk, acc, c, rfl, k, hS', i⟩ := h
    exact wpAny_bind (wpAny_load hS' (wpAny_pure (q h' tk acc k i)))
  refine wpAny_mono ext (fun f s' h => ?_) (fun e s' h => absurd h.1 (by simp))
  cases f with
  | done f =>
    cases h.1
    exact fin h
  | again c => exact ⟨h.1, codeAny_mono h.2 fun rr s'' z => by cases z.1; exact fin z⟩
theorem tuple_new_dict {Q : Value → Shared → Prop} (src : KdlSrc prog w "dict" r d n P OK) (calm : A.handled = none) (ok : OK s.heap) (few : n ≤ sizeLine)
    (q : ∀ (h' : Heap) (tk : Nat) (acc : Array Value), (∀ b o, s.heap.get? b = some o → h'.get? b = some o) → ItemsOf P acc n → Q (.ref h'.objs.size) { s with heap := h'.push { cls := .type "tuple", data := .seq acc }, toks := tk }) :
    codeAny (model prog w) A (.call (.builtin "tuple.__new__") ⟨[.type "tuple", .ref r], []⟩) (wants Q E) s := by
  refine codeAny_of_tree ?_
  show wpAny _ A.in1 (checkBuiltinCall "tuple.__new__" ⟨[.type "tuple", .ref r], []⟩ >>= fun _ => again (.builtin "tuple.__new__" ⟨[.type "tuple", .ref r], []⟩)) _ _ s
  refine wpAny_bind
          (wpAny_of_eq (F.newCall_tuple_1 _) (wpAny_pure ⟨plainId_quiet F.plain_tuple_new _, codeAny_builtin F.entry_tuple_new ?_⟩))
  rw [Around.under_plainId F.plain_tuple_new _]; have f1 := sub_tuple_self
  have f2 := init_tuple_lookup
  have f3 := madeHere_tuple
  have f4 := src.type s ok
  have calm1 : A.in1.handled = none := calm
  wp_walk using wpAny_typeOf f4, collect_src (A := A.in1) src calm1 ok few
  intro h' tk acc keep items
  have e : acc.toList.toArray =
          acc := by simp
  show wpAny _ _ (Builtin.Tuple.tupleExact acc.toList.toArray >>= fun z => ret z) _ _ _
  rw [e]
  unfold Builtin.Tuple.tupleExact; exact wpAny_bind (wpAny_newObj_type (wpAny_pure (q h' tk acc keep items)) (by show acc.size ≤ sizeLine; rw [items.1]; exact few))
theorem call_tuple_dict {Q : Value → Shared → Prop} (src : KdlSrc prog w "dict" r d n P OK) (calm : A.handled = none) (ok : OK s.heap) (few : n ≤ sizeLine)
    (q : ∀ (h' : Heap) (tk : Nat) (acc : Array Value), (∀ b o, s.heap.get? b = some o → h'.get? b = some o) → ItemsOf P acc n → Q (.ref h'.objs.size) { s with heap := h'.push { cls := .type "tuple", data := .seq acc }, toks := tk }) :
    wpAny (model prog w)
            A (call (.type "tuple") [.ref r]) Q E s := by
  have made := tuple_new_dict (A := A.in1) (E := E) (Q := fun obj s₁ => s₁.TypeIs obj "tuple" ∧ Q obj s₁) src calm ok few fun h' tk acc k i => ⟨⟨_, Heap.get?_push_size _ rfl, rfl⟩, q h' tk acc k i⟩
  refine callType_codes F.called_tuple (F.typeCall_tuple_1 _) F.entry_object_init made fun obj s₁ h₁ => ⟨h₁.1, F.args_object_init_2 obj _, ?_⟩
  exact object_init_meets F.called_tuple.init.lookup F.called_tuple.made (by decide) prog w A.in1 _ s₁ ⟨h₁.1, rfl, h₁.2⟩
end
section
variable {X : Cx}
theorem call_tupD (calm : X.calm = true) : CallR X (.type "tuple") rTupD := by
  intro pins s σ H xs us Q I rv q
  obtain ⟨a, kvs, rfl, hd, q⟩ := q
  obtain ⟨u, rfl, rx⟩ := vals1 rv
  cases rx
  obtain ⟨z,
          lo, vs, rel, dd⟩ := dk_rd I.hok hd
  obtain ⟨ep, hat⟩ := dd.dictAt
  have ek :
          (kvs.map fun kv => kV kv.1) = vs.map fun p => kV p.1 := by
    have e :=
            congrArg (List.map kV) rel.keys
    rw [List.map_map,
            List.map_map] at e
    exact e
  refine call_tuple_dict (PySem.W.kdl_dict (knd := mixKind X.prog X.w) (kvs := vs) (ep := ep) lo) (I.ok.hd calm) hat (by rw [← rel.length]; exact z) fun h' tk acc hk hacc => ?_
  have hv : Vals
          (vs.map fun p => kV p.1) acc.toList := keys_at (by rw [Array.length_toList]; exact hacc.1) fun j v e => hacc.2 j v (by rw [← Array.getElem?_toList]; exact e)
  have I1 : Inv X pins σ H { s with heap := h', toks := tk } := I.kept (t' := tk) hk
  have I2 : Inv X pins σ (upd H h'.objs.size (.tup (kvs.map fun kv => kV kv.1))) { s with heap := h'.push { cls := .type "tuple", data := .seq acc }, toks := tk } :=
    I1.laid (t' := tk) (fun b o e => Heap.get?_push_of_some _ e) (Nat.le_refl _) (show ObjOk X.prog X.w _ _ _ (.tup (kvs.map fun kv => kV kv.1)) from ⟨by rw [List.length_map]; exact z, acc.toList, by rw [ek]; exact hv, by
      rw [Array.toArray_toList]
      exact PyProof.Rows.IsTup.new _ _⟩)
  exact ⟨.ref h'.objs.size,
          _, I2, rfl, q _ (I1.hok.fresh (Nat.le_refl _))⟩
end
end LP
namespace LP
open PySem L2
/-! ### d.get(k, x), d a dict of the module with text keys, the key there -/
def tKGet (K : PySem.W.Frag) (d : Addr) (td ty tx : TE) : TE := fun σ H Q => td σ H fun x H1 => x = .ref d ∧ ty σ H1 fun y H2 => tx σ H2 fun _ H3 => ∃ k u0 v0, y = .str k ∧ PySem.W.nsIn K d k = some (some u0) ∧ RelV v0 u0 ∧ Q v0 H3
section
variable {X : Cx} {d : Addr} {es : Array DictEntry} {n : Nat} {o e f : Expr} {apos cpos : Pos} {td ty tx : TE}
theorem pe_kget2 (D : KDict X.K X.w d es n) (ho : PE X o td) (he : PE X e ty) (hf : PE X f tx) (m : M2 X o "get" apos e f cpos) : PE X (.Call (.Attribute o "get" apos) [e, f] [] cpos) (tKGet X.K d td ty tx) := by
  refine ⟨fun pins s σ H Q I h => ?_⟩; refine wpAny_Call_method m.base m.few m.line PySem.F.plainAttrs_dict PySem.F.slot_dict_get PySem.F.type_dict_get (thn (ho.run pins s σ H _ I h) fun u s1 ⟨x, H1, I1, rx, ex, q1⟩ => ?_)
  subst ex
  cases (show u = Value.ref d from rx)
  have at1 := I1.kIn d _ D.at_
  refine ⟨kd_type D I1, fun b eb => ?_, ?_⟩
  · cases eb
    exact ⟨_, at1, rfl⟩
  · rw [m.trees]
    refine Calls.callWith_builtin rfl (Calls.evalArgs_plain (Calls.spliced_cons (thn (he.run pins s1 σ H1 _ I1 q1) fun iv s2 ⟨y, H2, I2, ry, q2⟩ => Calls.spliced_cons (thn (hf.run pins s2 σ H2 _ I2 q2) fun fv s3 ⟨z, H3, I3, rz, k, u0, v0, ey, e0, r0, q3⟩ => Calls.spliced_nil ?_))))
    subst ey
    obtain ⟨t, rfl⟩ := (show ∃ t, iv = Value.str k t from ry)
    have mp := PySem.W.mapOf_K (prog := X.prog) (w := X.w) I3.kIn D.at_ D.lit
    have mt := meets_dict_get_default (PySem.strKind X.prog X.w) d (PySem.strKind_is X.prog X.w k t) D.low fv
    refine call_meetsIn PySem.F.slot_dict_get mp.typeIs PySem.F.entry_dict_get (PySem.F.args_dict_get_3 _ _ _) mt ⟨_, mp, ⟨v0, H3, I3.tok _, ?_, q3⟩⟩
    rw [PySem.W.find_K D.at_ e0]
    exact r0
end
end LP
namespace LP
open PySem L2
open Evl (Ex)
/-! ### what the helpers reckon -/
def reachStep (t : Str × List Col) (found : List Str) : List Str := if t.1 ∈ found then found ++ (t.2.filter Col.isLink).map Col.target else found
def reach (ts : Tabs) (n : Str) : List Str := ts.foldr reachStep [n]
def isListed (cs : List Col) : Bool := cs.any fun c => c.lst.isSome
def isHeavy (ts : Tabs) (c : Col) : Bool := c.isLink && ts.any fun t => decide (t.1 ∈ reach ts c.target) && isListed t.2
def linkLists (cs : List Col) (tg : Str) : List (Option Str) := (cs.filter fun c => c.isLink && decide (c.target = tg)).map Col.lst
def takenStep (tg : Str) (t : Str × List Col) : List (Option Str) := linkLists t.2 tg ++ if t.1 = tg then t.2.map (fun c => some c.name) else []
def namesTaken (ts : Tabs) (cs : List Col) (tg : Str) : List (Option Str) := ts.flatMap (takenStep tg) ++ linkLists cs tg
theorem taken_len (tg : Str) {ts : Tabs} (h : ∀ t ∈ ts, t.2.length ≤ 20) : (ts.flatMap (takenStep tg)).length ≤ 40 * ts.length := by
  induction ts with
  | nil => exact Nat.zero_le _
  | cons t r ih =>
    have := ih fun t' ht' => h t' (List.mem_cons_of_mem _ ht')
    have l1 := h t List.mem_cons_self
    rw [List.flatMap_cons, List.length_append, List.length_cons]
    have l2 : (takenStep tg t).length ≤ 40 := by
      unfold takenStep linkLists
      rw [List.length_append, List.length_map]
      have l3 := List.length_filter_le (fun c => c.isLink && decide (c.target = tg)) t.2
      split
      · rw [List.length_map]
        omega
      · rw [List.length_nil]
        omega
    omega
def listedOf (cs : List Col) : List Col := cs.filter fun c => c.lst.isSome
def Col.bare : Col → Col
  | .link n t o _ => .link n t o none
  | c => c
def allowStep (ts : Tabs) (first c : Col) : Option Col := if c.isLink = false ∨ c = first then some c else if isHeavy ts c = true then none else some c.bare
def allowed (ts : Tabs) (cs : List Col) : List Col :=
  match listedOf cs with
  | [] => cs
  | first :: _ => if cs.any (isHeavy ts) = true then cs.filterMap (allowStep ts first) else cs
/-- few tables, few columns -/
def Few (ts : Tabs) : Prop := ts.length ≤ 20 ∧ ∀ t ∈ ts, t.2.length ≤ 20
theorem reachStep_in {t : Str × List Col} {f : List Str} (h : t.1 ∈ f) : reachStep t f = f ++ (t.2.filter Col.isLink).map Col.target := by unfold reachStep; rw [if_pos h]
theorem reachStep_out {t : Str × List Col} {f : List Str} (h : ¬ t.1 ∈ f) : reachStep t f = f := by unfold reachStep; rw [if_neg h]
theorem reach_len {ts : Tabs} (h : ∀ t ∈ ts, t.2.length ≤ 20) (n : Str) : (ts.foldr reachStep [n]).length ≤ 1 + 20 * ts.length := by
  induction ts with
  | nil => show 1 ≤ 1 + 20 * 0; omega
  | cons t r ih =>
    have := ih fun t' ht' => h t' (List.mem_cons_of_mem _ ht')
    have l1 := h t List.mem_cons_self
    have l2 := List.length_filter_le Col.isLink t.2
    rw [List.foldr_cons, List.length_cons]
    unfold reachStep
    split
    · rw [List.length_append, List.length_map]
      unfold reachStep at this
      omega
    · unfold reachStep at this
      omega
/-! ### promises -/
section
variable (K : PySem.W.Frag)
/-- a list of columns, read -/
def ColsR (H : Hp) (p : Addr) (cs : List Col) : Prop := ∃ vs, SqL K H p vs ∧ ColsV H vs cs
def TabsR (H : Hp) (p : Addr) (ts : Tabs) : Prop := ∃ vs, SqL K H p vs ∧ TabsV H vs ts
variable {K}
theorem ColsR.ext {H H' : Hp} {p : Addr} {cs : List Col} (e : Ex H H') (h : ColsR K H p cs) : ColsR K H' p cs := by
  obtain ⟨vs, hp, hv⟩ := h
  exact ⟨vs, Evl.ex_l e hp, hv.ext e⟩
theorem TabsR.ext {H H' : Hp} {p : Addr} {ts : Tabs} (e : Ex H H') (h : TabsR K H p ts) : TabsR K H' p ts := by
  obtain ⟨vs, hp, hv⟩ := h
  exact ⟨vs, Evl.ex_l e hp, hv.ext e⟩
theorem ColsAt.read {H : Hp} {p : Addr} {cs : List Col} (h : ColsAt H p cs) : ColsR K H p cs := by
  obtain ⟨vs, hp, hv⟩ := h
  exact ⟨vs, SqL.of hp, hv⟩
theorem TabsAt.read {H : Hp} {p : Addr} {ts : Tabs} (h : TabsAt H p ts) : TabsR K H p ts := by
  obtain ⟨vs, hp, hv⟩ := h
  exact ⟨vs, SqL.of hp, hv⟩
variable (K)
def spAllLinks : Sp := fun vs H Q _ => ∃ (p : Addr) (cs : List Col), vs = [.ref p] ∧ ColsR K H p cs ∧ cs.length ≤ 20 ∧
  ∀ (q : Addr) (H' : Hp), H q = none → Ex H H' → ColsAt H' q (cs.filter Col.isLink) → Q (.ref q) H'
def spReach : Sp := fun vs H Q _ => ∃ (p : Addr) (ts : Tabs) (n : Str), vs = [.ref p, .str n] ∧ TabsR K H p ts ∧ Few ts ∧
  ∀ (q : Addr) (H' : Hp), H q = none → Ex H H' → H' q = some (.lst ((reach ts n).map V.str)) → Q (.ref q) H'
def spIsListed : Sp := fun vs H Q _ => ∃ (p : Addr) (cs : List Col), vs = [.ref p] ∧ ColsR K H p cs ∧ cs.length ≤ 20 ∧
  ∀ (H' : Hp), Ex H H' → Q (.bl (isListed cs)) H'
def spIsHeavy : Sp := fun vs H Q _ => ∃ (p : Addr) (ts : Tabs) (v : V) (c : Col), vs = [.ref p, v] ∧ TabsR K H p ts ∧ Few ts ∧ ColAt H v c ∧
  ∀ (H' : Hp), Ex H H' → Q (.bl (isHeavy ts c)) H'
def spNamesTaken : Sp := fun vs H Q _ => ∃ (p r : Addr) (ts : Tabs) (cs : List Col) (tg : Str), vs = [.ref p, .ref r, .str tg] ∧ TabsR K H p ts ∧ Few ts ∧ ColsR K H r cs ∧ cs.length ≤ 20 ∧
  ∀ (q : Addr) (H' : Hp), H q = none → Ex H H' → H' q = some (.lst ((namesTaken ts cs tg).map vOpt)) → Q (.ref q) H'
end
end LP
namespace LP
open PySem L2
open Evl (Ex)
section
variable {K : PySem.W.Frag} {a : Addr} {xs : List V} {g : TG} {tb : TS} {D : Ends} {σ : L2.St} {H H1 : Hp}
theorem loopT (Pv : List V → List V → L2.St → Hp → Prop) (h0 : Pv [] xs σ H) (hl : ∀ d r σ H, d ++ r = xs → Pv d r σ H → SqT K H a xs)
    (hs : ∀ d y r σ H, d ++ y :: r = xs → Pv d (y :: r) σ H → g y σ H fun σ2 H2 => tb { D with nx := Pv (d ++ [y]) r, ct := Pv (d ++ [y]) r, bk := D.nx } σ2 H2) (hd : ∀ σ H, Pv xs [] σ H → D.nx σ H) :
    ∃ W : Nat →
            Nat → L2.St → Hp → Prop, (∃ m, W 0 m σ H) ∧ ∀ i m σ H, W i m σ H →
      ((Itt K a).stop i H ∧ D.nx σ H) ∨ ((Itt K a).go i H ∧ ∃ N : L2.St → Hp → Prop, (∀ σ' H', N σ' H' → ∃ m', m' < m ∧ W (i + 1) m' σ' H') ∧ ∀ x H', (Itt K a).yld i H x H' → g x σ H' fun σ2 H2 => tb { D with nx := N, ct := N, bk := D.nx } σ2 H2) := by
  refine for_tup (xs := xs) (fun i σ H => Pv (xs.take i) (xs.drop i) σ H) (by simpa using h0) (fun i σ H _ h => hl _ _ σ H (List.take_append_drop i xs) h) (fun i x σ H hx h => ?_) (fun σ H h => hd σ H (by simpa using h))
  have hlt : i < xs.length := (List.getElem?_eq_some_iff.mp hx).1
  have e1 : xs.drop i = x :: xs.drop (i + 1) := by
    rw [List.drop_eq_getElem_cons hlt, (List.getElem?_eq_some_iff.mp hx).2]
  have e2 : xs.take (i + 1) = xs.take i ++ [x] := by
    rw [List.take_succ, hx]
    rfl
  have z := hs (xs.take i) x (xs.drop (i + 1)) σ H (by rw [← e1]; exact List.take_append_drop i xs) (by rw [← e1]; exact h)
  rw [← e2] at z
  exact z
end
section
variable {K : PySem.W.Frag} {a : Addr} {xs : List V} {g : TG} {tt : TT} {te : TE} {vs : List Nat} {σ : L2.St} {H1 : Hp} {D : Addr} {Qd : Hp → Prop}
theorem compLT (Pv : List V → List V → List V → Hp → Prop) (hlen : xs.length ≤ 90000) (h0 : Pv [] xs [] (upd H1 D (.lst []))) (hl : ∀ d r got H, d ++ r = xs → Pv d r got H → SqT K H a xs)
    (hs : ∀ d y r got H, d ++ y :: r = xs → H D = some (.lst got) → got.length ≤ d.length → Pv d (y :: r) got H → ∀ (k : V → Hp → Prop) (kn : Hp → Prop),
      (∀ y' H4, H4 D = some (.lst got) → Pv (d ++ [y]) r (got ++ [y']) (upd H4 D (.lst (got ++ [y']))) → k y' H4) → (∀ H3, H3 D = some (.lst got) → Pv (d ++ [y]) r got H3 → kn H3) →
      g y (wipe σ vs) H fun σ2 H2 => wipe σ2 vs = wipe σ vs ∧ tt σ2 H2 fun b H3 => if b = true then te σ2 H3 k else kn H3)
    (hd : ∀ got H, H D = some (.lst got) → got.length ≤ xs.length → Pv xs [] got H → Qd H) :
    ∃ W : Nat →
            Nat → Hp → Prop, (∃ m, W 0 m (upd H1 D (.lst []))) ∧ ∀ i m H, W i m H →
      ((Itt K a).stop i H ∧ Qd H) ∨ ((Itt K a).go i H ∧ ∃ Go : Hp → Prop, (∀ H', Go H' → ∃ m', m' < m ∧ W (i + 1) m' H') ∧ ∀ x H', (Itt K a).yld i H x H' → g x (wipe σ vs) H' fun σ2 H2 => wipe σ2 vs = wipe σ vs ∧ tt σ2 H2 fun b H3 =>
        if b = true then te σ2 H3 fun y H4 => ∃ got, H4 D = some (.lst got) ∧ got.length < sizeLine ∧ Go (upd H4 D (.lst (got ++ [y]))) else Go H3) := by
  have sz : ∀ n : Nat, n ≤ 90000 → n < sizeLine := fun n h => Nat.lt_of_le_of_lt h (by decide)
  refine lc_tup (xs := xs) (fun i H => ∃ got, H D = some (.lst got) ∧ got.length ≤ i ∧ Pv (xs.take i) (xs.drop i) got H) ⟨[], upd_same, Nat.le_refl _, by simpa using h0⟩ (fun i H _ ⟨got, _, _, h⟩ => hl _ _ got H (List.take_append_drop i xs) h) (fun i x H hx ⟨got, ha, hacc, h⟩ => ?_) (fun H ⟨got, ha, hacc, h⟩ => hd got H ha hacc (by simpa using h))
  have hlt : i < xs.length := (List.getElem?_eq_some_iff.mp hx).1
  have e1 : xs.drop i = x :: xs.drop (i + 1) := by
    rw [List.drop_eq_getElem_cons hlt, (List.getElem?_eq_some_iff.mp hx).2]
  have e2 : xs.take (i + 1) = xs.take i ++ [x] := by
    rw [List.take_succ, hx]
    rfl
  refine hs (xs.take i) x (xs.drop (i + 1)) got H (by rw [← e1]; exact List.take_append_drop i xs) ha (by rw [List.length_take]; omega) (by rw [← e1]; exact h) _ _ (fun y' H4 h4 p => ?_) (fun H3 h3 p => ?_)
  · exact ⟨got, h4, sz _ (by omega), got ++ [y'], upd_same, by rw [List.length_append]; simp; omega, by rw [e2]; exact p⟩
  · exact ⟨got, h3, by omega, by rw [e2]; exact p⟩
theorem compQT {α δ : Type} (zs : List α) (R : V → α → Prop) (f : α → Option δ) (R' : V → δ → Prop) (hD : H1 D = none) (hx : SqT K H1 a xs) (hlen : xs.length ≤ 90000) (hz : Paired R xs zs)
    (hs : ∀ y z, R y z → z ∈ zs → ∀ H, Ex H1 H → ∀ (k : V → Hp → Prop) (kn : Hp → Prop), (∀ y' d H4, Ex H H4 → f z = some d → R' y' d → k y' H4) → (∀ H3, Ex H H3 → f z = none → kn H3) →
      g y (wipe σ vs) H fun σ2 H2 => wipe σ2 vs = wipe σ vs ∧ tt σ2 H2 fun b H3 => if b = true then te σ2 H3 k else kn H3)
    (hd : ∀ got H, Ex H1 H → H D = some (.lst got) → Paired R' got (zs.filterMap f) → Qd H) :
    ∃ W : Nat →
            Nat → Hp → Prop, (∃ m, W 0 m (upd H1 D (.lst []))) ∧ ∀ i m H, W i m H →
      ((Itt K a).stop i H ∧ Qd H) ∨ ((Itt K a).go i H ∧ ∃ Go : Hp → Prop, (∀ H', Go H' → ∃ m', m' < m ∧ W (i + 1) m' H') ∧ ∀ x H', (Itt K a).yld i H x H' → g x (wipe σ vs) H' fun σ2 H2 => wipe σ2 vs = wipe σ vs ∧ tt σ2 H2 fun b H3 =>
        if b = true then te σ2 H3 fun y H4 => ∃ got, H4 D = some (.lst got) ∧ got.length < sizeLine ∧ Go (upd H4 D (.lst (got ++ [y]))) else Go H3) := by
  refine compLT (xs := xs) (fun d r got H => Ex H1 H ∧ ∃ md mr, zs = md ++ mr ∧ Paired R d md ∧ Paired R r mr ∧ Paired R' got (md.filterMap f)) hlen ⟨Ex.new hD, [], zs, rfl, .nil, hz, .nil⟩ (fun _ _ _ H _ h => Evl.ex_t h.1 hx) (fun d y r got H hd ha _ h k kn hk hn => ?_) (fun got H ha _ h => ?_)
  · obtain ⟨e, md, mr, ez, p1, p2, p3⟩ := h
    obtain ⟨z, mr, rfl, rz, p2⟩ := paired_cons p2
    have ez' : zs = (md ++ [z]) ++ mr := by rw [ez, List.append_assoc]; rfl
    refine hs y z rz (by rw [ez]; simp) H e k kn (fun y' d' H4 e4 hv hr => ?_) (fun H3 e3 hv => ?_)
    · refine hk y' H4 (e4 _ _ ha) ⟨(e.trans e4).mut hD, md ++ [z], mr, ez', paired_app p1 (.cons rz .nil), p2, ?_⟩
      rw [List.filterMap_append, List.filterMap_cons_some hv, List.filterMap_nil]
      exact paired_app p3 (.cons hr .nil)
    · refine hn H3 (e3 _ _ ha) ⟨e.trans e3, md ++ [z], mr, ez', paired_app p1 (.cons rz .nil), p2, ?_⟩
      rw [List.filterMap_append, List.filterMap_cons_none hv, List.filterMap_nil, List.append_nil]
      exact p3
  · obtain ⟨e, md, mr, ez, p1, p2, p3⟩ := h
    cases p2
    rw [List.append_nil] at ez
    subst ez
    exact hd got H e ha p3
end
end LP
namespace LP
open PySem L2
open Evl (Ex)
/-! ### columns as data that == compares -/
def SOk (x : Str) : Prop := PyData.strOk x = true
theorem SOk.low {x : Str} (h : Low x) : SOk x := by
  unfold SOk PyData.strOk
  rw [← Array.all_toList,
          List.all_eq_true]
  intro c hc
  have := h c hc
  exact decide_eq_true
          (by omega)
def dOpt : Option Str → PyData
  | none => .none
  | some x => .str x
def Col.ds : Col → List PyData
  | .plain f n => [.str (if f then "flag" else "number"), .str n]
  | .word n o => [.str "word", .str n, .bool o]
  | .link n t o l => [.str "link", .str n, .str t, .bool o, dOpt l]
def Col.data (c : Col) : PyData := .tuple c.ds
def Col.Ok : Col → Prop
  | .plain _ n => SOk n
  | .word n _ => SOk n
  | .link n t _ l => SOk n ∧ SOk t ∧ ∀ x, l = some x → SOk x
theorem dp_opt {K : PySem.W.Frag} {H : Hp} (l : Option Str) : Dp K H (vOpt l) (dOpt l) := by
  cases l with
  | none => exact .non
  | some x => exact .str x
theorem ColAt.dp {K : PySem.W.Frag} {H : Hp} {v : V} {c : Col} (h : ColAt H v c) : Dp K H v c.data := by
  obtain ⟨a, rfl, ha⟩ := h
  refine .tup (SqT.of ha) ?_
  cases c with
  | plain f n => exact .cons (.str _) (.cons (.str _) .nil)
  | word n o => exact .cons (.str _) (.cons (.str _) (.cons (.bl _) .nil))
  | link n t o l => exact .cons (.str _) (.cons (.str _) (.cons (.str _) (.cons (.bl _) (.cons (dp_opt l) .nil))))
theorem ColsV.dp {K : PySem.W.Frag} {H : Hp} {vs : List V} {cs : List Col} (h : ColsV H vs cs) : DpAll K H vs (cs.map Col.data) := by
  induction h with
  | nil => exact .nil
  | cons h _ ih => exact .cons h.dp ih
theorem Col.shaped {c : Col} (h : c.Ok) : SeqAt.shaped c.data = true := by
  unfold SeqAt.shaped
  rw [Bool.and_eq_true]
  have h4 : PyData.strOk "flag" = true := by decide +kernel
  have h5 : PyData.strOk "number" = true := by decide +kernel
  have h6 : PyData.strOk "word" = true := by decide +kernel
  have h7 : PyData.strOk "link" = true := by decide +kernel
  cases c with
  | plain f n =>
    have h1 : PyData.strOk n = true := h
    refine ⟨?_, ?_⟩
    · simp only [Col.data, Col.ds, PyData.canLay0, PyData.canLayAll0, h1, Bool.and_true, Bool.true_and]
      cases f <;> assumption
    · simp [Col.data, Col.ds, PyData.depth, PyData.depthAll]
  | word n o =>
    have h1 : PyData.strOk n = true := h
    refine ⟨?_, ?_⟩
    · simp only [Col.data, Col.ds, PyData.canLay0, PyData.canLayAll0, h1, h6, Bool.and_true, Bool.true_and]
    · simp [Col.data, Col.ds, PyData.depth, PyData.depthAll]
  | link n t o l =>
    obtain ⟨h1, h2, h3⟩ := h
    have h1 : PyData.strOk n = true := h1
    have h2 : PyData.strOk t = true := h2
    refine ⟨?_, ?_⟩
    · cases l with
      | none => simp only [Col.data, Col.ds, dOpt, PyData.canLay0, PyData.canLayAll0, h1, h2, h7, Bool.and_true, Bool.true_and]
      | some x =>
        have h3 : PyData.strOk x = true := h3 x rfl
        simp only [Col.data, Col.ds, dOpt, PyData.canLay0, PyData.canLayAll0, h1, h2, h3, h7, Bool.and_true, Bool.true_and]
    · cases l <;> simp [Col.data, Col.ds, dOpt, PyData.depth, PyData.depthAll]
theorem bdec {α : Type} [BEq α] [LawfulBEq α] [DecidableEq α] (a b : α) : (a == b) = decide (a = b) := by
  by_cases h : a = b
  · rw [decide_eq_true h, beq_iff_eq.mpr h]
  · rw [decide_eq_false h, beq_eq_false_iff_ne.mpr h]
theorem Col.eqv (c d : Col) : PyData.eqv c.data d.data = decide (c = d) := by
  have n1 : ((("flag" : Str)) == ("number" : Str)) = false := by decide +kernel
  have n2 : ((("number" : Str)) == ("flag" : Str)) = false := by decide +kernel
  have n3 : ((("word" : Str)) == ("link" : Str)) = false := by decide +kernel
  cases c with
  | plain f n =>
    cases d with
    | plain g m => cases f <;> cases g <;> simp [Col.data, Col.ds, PyData.eqv, PyData.eqvAll, n1, n2, bdec]
    | word m o => cases f <;> simp [Col.data, Col.ds, PyData.eqv, PyData.eqvAll]
    | link m t o l => cases f <;> simp [Col.data, Col.ds, PyData.eqv, PyData.eqvAll]
  | word n o =>
    cases d with
    | plain g m => cases g <;> simp [Col.data, Col.ds, PyData.eqv, PyData.eqvAll]
    | word m o' => simp [Col.data, Col.ds, PyData.eqv, PyData.eqvAll, bdec]
    | link m t o l => simp [Col.data, Col.ds, PyData.eqv, PyData.eqvAll]
  | link n t o l =>
    cases d with
    | plain g m => cases g <;> simp [Col.data, Col.ds, PyData.eqv, PyData.eqvAll]
    | word m o' => simp [Col.data, Col.ds, PyData.eqv, PyData.eqvAll]
    | link m t' o' l' => cases l <;> cases l' <;> simp [Col.data, Col.ds, dOpt, PyData.eqv, PyData.eqvAll, bdec]
theorem shapedL_cols {cs : List Col} (h : ∀ c ∈ cs, c.Ok) : SeqAt.shaped (.list (cs.map Col.data)) = true := by
  have key : ∀ cs : List Col, (∀ c ∈ cs, c.Ok) → PyData.canLayAll0 (cs.map Col.data) = true ∧ PyData.depthAll (cs.map Col.data) ≤ 63 := fun cs => by
    induction cs with
    | nil => exact fun _ => ⟨rfl, by show 0 ≤ 63; omega⟩
    | cons c r ih =>
      intro h
      obtain ⟨i1, i2⟩ := ih fun c hc => h c (List.mem_cons_of_mem _ hc)
      have s := Col.shaped (h c List.mem_cons_self)
      unfold SeqAt.shaped at s
      rw [Bool.and_eq_true, decide_eq_true_eq] at s
      have d1 : PyData.depth c.data ≤ 2 := by
        cases c with
        | plain f n => simp [Col.data, Col.ds, PyData.depth, PyData.depthAll]
        | word n o => simp [Col.data, Col.ds, PyData.depth, PyData.depthAll]
        | link n t o l => cases l <;> simp [Col.data, Col.ds, dOpt, PyData.depth, PyData.depthAll]
      rw [List.map_cons]
      refine ⟨?_, ?_⟩
      · simp only [PyData.canLayAll0, s.1, i1, Bool.and_self]
      · simp only [PyData.depthAll]
        omega
  obtain ⟨k1, k2⟩ := key cs h
  unfold SeqAt.shaped
  rw [Bool.and_eq_true, decide_eq_true_eq]
  exact ⟨by simp only [PyData.canLay0]; exact k1, by simp only [PyData.depth]; omega⟩
theorem eqv_nil (cs : List Col) : PyData.eqv (.list (cs.map Col.data)) (.list []) = cs.isEmpty := by
  cases cs with
  | nil => simp [PyData.eqv, PyData.eqvAll]
  | cons c r => simp [PyData.eqv, PyData.eqvAll]
theorem listed_link (cs : List Col) : ((cs.filter Col.isLink).filter fun c => c.lst.isSome) = listedOf cs := by
  unfold listedOf
  rw [List.filter_filter]
  refine List.filter_congr fun c _ => ?_
  cases c <;> simp [Col.lst, Col.isLink]
theorem shaped_nil : SeqAt.shaped (.list []) = true := by decide
def spAllowed (K : PySem.W.Frag) : Sp := fun vs H Q _ => ∃ (p r : Addr) (ts : Tabs) (cs : List Col), vs = [.ref p, .ref r] ∧ TabsR K H p ts ∧ Few ts ∧ ColsAt H r cs ∧ cs.length ≤ 20 ∧ (∀ c ∈ cs, c.Ok) ∧
  ∀ (q : Addr) (H' : Hp), Ex H H' → ColsAt H' q (allowed ts cs) → Q (.ref q) H'
end LP
namespace LP
open PySem L2
open Evl (Ex)
/-! ### columns and tables that may stand -/
structure PreCols (ts : Tabs) (cs : List Col) : Prop where
  nm : ∀ c ∈ cs, IsName c.name
  nd : (cs.map Col.name).Nodup
  tg : ∀ c ∈ cs, c.isLink = true → c.target ∈ ts.map (·.1)
  ls : ∀ c ∈ cs, ∀ l, c.lst = some l → IsName l
  fr : cs.Pairwise fun c c' => c.isLink = true → c.target = c'.target → ∀ l, c'.lst = some l → c.lst ≠ some l
  old : ∀ c ∈ cs, ∀ l, c.lst = some l → ∀ t ∈ ts, some l ∉ takenStep c.target t
/-- whether a table is listed or leads to a listed one, by the tables ahead of it -/
def meetOf (m : List (Str × Bool)) (cs : List Col) : Bool := isListed cs || cs.any fun c => c.isLink && (m.lookup c.target == some true)
def meetMap (ts : Tabs) : List (Str × Bool) := ts.foldl (fun m t => m ++ [(t.1, meetOf m t.2)]) []
def meets (ts : Tabs) (n : Str) : Bool := (meetMap ts).lookup n == some true
def Rule6 (ts : Tabs) (cs : List Col) : Prop := ∀ c ∈ cs, c.isLink = true → meets ts c.target = true → listedOf cs ≠ [] → listedOf cs = [c]
structure GoodCols (ts : Tabs) (cs : List Col) : Prop extends PreCols ts cs where
  few : cs.length ≤ 6
  r6 : Rule6 ts cs
inductive GoodTabs : Tabs → Prop where
  | nil : GoodTabs []
  | snoc {ts : Tabs} {n : Str} {cs : List Col} : GoodTabs ts → IsName n → n ∉ ts.map (·.1) → GoodCols ts cs → GoodTabs (ts ++ [(n, cs)])
theorem lst_link {c : Col} {l : Str} (h : c.lst = some l) : c.isLink = true := by
  cases c with
  | link n t o l => rfl
  | plain f n => cases h
  | word n o => cases h
theorem bare_name (c : Col) : c.bare.name = c.name := by cases c <;> rfl
theorem bare_target (c : Col) : c.bare.target = c.target := by cases c <;> rfl
theorem bare_link (c : Col) : c.bare.isLink = c.isLink := by cases c <;> rfl
theorem bare_lst (c : Col) : c.bare.lst = none := by cases c <;> rfl
/-- what stays of a column -/
structure Stays (c c' : Col) : Prop where
  nm : c'.name = c.name
  tg : c'.target = c.target
  lk : c'.isLink = c.isLink
  ls : c'.lst = c.lst ∨ c'.lst = none
theorem allow_stays {ts : Tabs} {f c c' : Col} (h : allowStep ts f c = some c') : Stays c c' := by
  unfold allowStep at h
  split at h
  · cases h
    exact ⟨rfl, rfl, rfl, .inl rfl⟩
  · split at h
    · cases h
    · cases h
      exact ⟨bare_name c, bare_target c, bare_link c, .inr (bare_lst c)⟩
theorem PreCols.filterMap {ts : Tabs} {cs : List Col} {f : Col → Option Col} (h : PreCols ts cs) (hf : ∀ c c', f c = some c' → Stays c c') : PreCols ts (cs.filterMap f) := by
  have mem : ∀ c' ∈ cs.filterMap f, ∃ c ∈ cs, Stays c c' := fun c' hc' => by
    obtain ⟨c, hc, e⟩ := List.mem_filterMap.mp hc'
    exact ⟨c, hc, hf c c' e⟩
  have lsm : ∀ {c c' : Col} {l : Str}, Stays c c' → c'.lst = some l → c.lst = some l := fun {c c' l} s e => by
    rcases s.ls with h | h
    · rw [← h]; exact e
    · rw [h] at e; cases e
  refine ⟨fun c' hc' => ?_, ?_, fun c' hc' hl => ?_, fun c' hc' l hl => ?_, ?_, fun c' hc' l hl t ht => ?_⟩
  · obtain ⟨c, hc, s⟩ := mem c' hc'
    rw [s.nm]
    exact h.nm c hc
  · have nd := List.pairwise_map.mp h.nd
    refine List.pairwise_map.mpr (nd.filterMap f fun a a' hn b hb b' hb' e => hn ?_)
    rw [← (hf a b hb).nm, ← (hf a' b' hb').nm]
    exact e
  · obtain ⟨c, hc, s⟩ := mem c' hc'
    rw [s.tg]
    exact h.tg c hc (s.lk ▸ hl)
  · obtain ⟨c, hc, s⟩ := mem c' hc'
    exact h.ls c hc l (lsm s hl)
  · refine h.fr.filterMap f fun a a' hn b hb b' hb' hl et l hbl hbl' => ?_
    have sa := hf a b hb
    have sb := hf a' b' hb'
    exact hn (sa.lk ▸ hl) (by rw [← sa.tg, ← sb.tg]; exact et) l (lsm sb hbl) (lsm sa hbl')
  · obtain ⟨c, hc, s⟩ := mem c' hc'
    rw [s.tg]
    exact h.old c hc l (lsm s hl) t ht
theorem allowed_eq (ts : Tabs) (cs : List Col) : (allowed ts cs = cs ∧ (listedOf cs = [] ∨ cs.any (isHeavy ts) = false)) ∨ ∃ f, f ∈ listedOf cs ∧ allowed ts cs = cs.filterMap (allowStep ts f) := by
  cases e : listedOf cs with
  | nil => exact .inl ⟨by unfold allowed; rw [e], .inl rfl⟩
  | cons f r =>
    cases ea : cs.any (isHeavy ts) with
    | false => exact .inl ⟨by unfold allowed; rw [e]; show (if cs.any (isHeavy ts) = true then _ else cs) = cs; rw [ea]; rfl, .inr rfl⟩
    | true =>
      refine .inr ⟨f, List.mem_cons_self, ?_⟩
      unfold allowed
      rw [e]
      show (if cs.any (isHeavy ts) = true then _ else cs) = _
      rw [ea]
      rfl
theorem PreCols.allowed {ts : Tabs} {cs : List Col} (h : PreCols ts cs) : PreCols ts (allowed ts cs) := by
  rcases allowed_eq ts cs with ⟨e, _⟩ | ⟨f, _, e⟩
  · rw [e]; exact h
  · rw [e]; exact h.filterMap fun _ _ => allow_stays
theorem allowed_len (ts : Tabs) (cs : List Col) : (allowed ts cs).length ≤ cs.length := by
  rcases allowed_eq ts cs with ⟨e, _⟩ | ⟨f, _, e⟩
  · rw [e]; exact Nat.le_refl _
  · rw [e]; exact List.length_filterMap_le _ _
/-! ### what leads to a listed table is heavy -/
theorem reachStep_sub {t : Str × List Col} {f g : List Str} (h : ∀ x ∈ f, x ∈ g) : ∀ x ∈ reachStep t f, x ∈ reachStep t g := fun x hx => by
  by_cases h1 : t.1 ∈ f
  · rw [reachStep_in h1] at hx
    rw [reachStep_in (h _ h1)]
    rcases List.mem_append.1 hx with hx | hx
    · exact List.mem_append.mpr (.inl (h x hx))
    · exact List.mem_append.mpr (.inr hx)
  · rw [reachStep_out h1] at hx
    by_cases h2 : t.1 ∈ g
    · rw [reachStep_in h2]
      exact List.mem_append.mpr (.inl (h x hx))
    · rw [reachStep_out h2]
      exact h x hx
theorem foldr_sub {ts : Tabs} {f g : List Str} (h : ∀ x ∈ f, x ∈ g) : ∀ x ∈ ts.foldr reachStep f, x ∈ ts.foldr reachStep g := by
  induction ts with
  | nil => exact h
  | cons t r ih => exact reachStep_sub ih
theorem foldr_keep {ts : Tabs} {f : List Str} : ∀ x ∈ f, x ∈ ts.foldr reachStep f := by
  induction ts with
  | nil => exact fun x h => h
  | cons t r ih =>
    intro x hx
    have := ih x hx
    rw [List.foldr_cons]
    by_cases h1 : t.1 ∈ r.foldr reachStep f
    · rw [reachStep_in h1]
      exact List.mem_append.mpr (.inl this)
    · rw [reachStep_out h1]
      exact this
theorem meetMap_snoc (ts : Tabs) (t : Str × List Col) : meetMap (ts ++ [t]) = meetMap ts ++ [(t.1, meetOf (meetMap ts) t.2)] := by
  unfold meetMap
  rw [List.foldl_append]
  rfl
theorem meetMap_keys (ts : Tabs) : (meetMap ts).map (·.1) = ts.map (·.1) := by
  have : ∀ (ts : Tabs) (m : List (Str × Bool)), (ts.foldl (fun m t => m ++ [(t.1, meetOf m t.2)]) m).map (·.1) = m.map (·.1) ++ ts.map (·.1) := fun ts => by
    induction ts with
    | nil => intro m; simp
    | cons t r ih => intro m; rw [List.foldl_cons, ih]; simp
  unfold meetMap
  rw [this]
  rfl
theorem lookup_app {m m' : List (Str × Bool)} {n : Str} (h : n ∉ m.map (·.1)) : (m ++ m').lookup n = m'.lookup n := by
  induction m with
  | nil => rfl
  | cons p r ih =>
    rw [List.cons_append, List.lookup_cons]
    have h1 : n ≠ p.1 := fun e => h (by rw [e]; exact List.mem_cons_self)
    rw [show (n == p.1) = false from beq_eq_false_iff_ne.mpr h1]
    exact ih fun hx => h (List.mem_cons_of_mem _ hx)
theorem lookup_left {m m' : List (Str × Bool)} {n : Str} {b : Bool} (h : m.lookup n = some b) : (m ++ m').lookup n = some b := by
  induction m with
  | nil => cases h
  | cons p r ih =>
    rw [List.lookup_cons] at h
    rw [List.cons_append, List.lookup_cons]
    split
    · rename_i e
      rw [e] at h
      exact h
    · rename_i e
      rw [e] at h
      exact ih h
theorem lookup_none {m : List (Str × Bool)} {n : Str} (h : n ∉ m.map (·.1)) : m.lookup n = none := by
  have := lookup_app (m' := []) h
  rw [List.append_nil] at this
  exact this
theorem meets_heavy {ts : Tabs} (g : GoodTabs ts) : ∀ n, meets ts n = true → ∃ t ∈ ts, t.1 ∈ reach ts n ∧ isListed t.2 = true := by
  induction g with
  | nil => intro n h; cases h
  | snoc g hn hx hc ih =>
    rename_i ts n0 cs
    intro n h
    unfold meets at h
    rw [meetMap_snoc] at h
    by_cases hm : n ∈ ts.map (·.1)
    · have hne : n0 ≠ n := fun e => hx (e ▸ hm)
      have h1 : meets ts n = true := by
        unfold meets
        cases e : (meetMap ts).lookup n with
        | none =>
          rw [lookup_app (m' := [(n0, meetOf (meetMap ts) cs)])] at h
          · rw [List.lookup_cons, show (n == n0) = false from beq_eq_false_iff_ne.mpr (Ne.symm hne)] at h
            cases h
          · intro hk
            obtain ⟨p, hp, rfl⟩ := List.mem_map.mp hk
            have : ∀ (m : List (Str × Bool)), p ∈ m → m.lookup p.1 ≠ none := fun m => by
              induction m with
              | nil => intro h; cases h
              | cons q r ih =>
                intro hq
                rw [List.lookup_cons]
                split
                · intro h; cases h
                · rename_i e
                  rcases List.mem_cons.1 hq with rfl | hq
                  · simp at e
                  · exact ih hq
            exact this _ hp e
        | some b =>
          rw [lookup_left e] at h
          exact h
      obtain ⟨t, ht, hr, hl⟩ := ih n h1
      refine ⟨t, List.mem_append.mpr (.inl ht), ?_, hl⟩
      unfold reach at hr ⊢
      rw [List.foldr_append, List.foldr_cons, List.foldr_nil, reachStep_out (by simpa using hne)]
      exact hr
    · rw [lookup_app (by rw [meetMap_keys]; exact hm), List.lookup_cons] at h
      split at h
      · rename_i e
        have e : n = n0 := beq_iff_eq.mp e
        subst e
        have h2 : meetOf (meetMap ts) cs = true := by simpa using h
        unfold meetOf at h2
        rw [Bool.or_eq_true] at h2
        rcases h2 with h2 | h2
        · exact ⟨(n, cs), by simp, foldr_keep _ (by simp), h2⟩
        · rw [List.any_eq_true] at h2
          obtain ⟨c, hc', h3⟩ := h2
          rw [Bool.and_eq_true] at h3
          obtain ⟨t, ht, hr, hl⟩ := ih c.target h3.2
          refine ⟨t, List.mem_append.mpr (.inl ht), ?_, hl⟩
          unfold reach at hr ⊢
          rw [List.foldr_append, List.foldr_cons, List.foldr_nil, reachStep_in (by simp)]
          refine foldr_sub (fun x hx => ?_) _ hr
          rw [List.mem_singleton.1 hx]
          exact List.mem_append.mpr (.inr (List.mem_map.mpr ⟨c, List.mem_filter.mpr ⟨hc', h3.1⟩, rfl⟩))
      · rw [List.lookup_nil] at h
        cases h
theorem heavy_of {ts : Tabs} (g : GoodTabs ts) {c : Col} (hl : c.isLink = true) (h : meets ts c.target = true) : isHeavy ts c = true := by
  obtain ⟨t, ht, hr, hls⟩ := meets_heavy g _ h
  unfold isHeavy
  rw [hl, Bool.true_and, List.any_eq_true]
  exact ⟨t, ht, by rw [decide_eq_true hr, hls]; rfl⟩
theorem all_one {α : Type} {l : List α} {f : α} (nd : l.Nodup) (hf : f ∈ l) (h : ∀ x ∈ l, x = f) : l = [f] := by
  cases l with
  | nil => cases hf
  | cons a r =>
    have ea := h a List.mem_cons_self
    subst ea
    cases r with
    | nil => rfl
    | cons b r =>
      have eb := h b (by simp)
      subst eb
      exact absurd (List.nodup_cons.mp nd).1 (by simp)
/-- what the rule of listed tables asks, of the columns that are left -/
theorem allowed_r6 {ts : Tabs} {cs : List Col} (g : GoodTabs ts) (pre : PreCols ts cs) : Rule6 ts (allowed ts cs) := by
  intro c hc hl hm hne
  have hv := heavy_of g hl hm
  have nd2 := pre.allowed.nd
  rcases allowed_eq ts cs with ⟨e, h1 | h1⟩ | ⟨f, hf, e⟩
  · rw [e] at hne
    exact absurd h1 hne
  · rw [e] at hc
    have : cs.any (isHeavy ts) = true := List.any_eq_true.mpr ⟨c, hc, hv⟩
    rw [h1] at this
    cases this
  · have hf' := List.mem_filter.mp hf
    have hfl : f.isLink = true := by
      cases ef : f.lst with
      | none => rw [ef] at hf'; cases hf'.2
      | some l => exact lst_link ef
    have look : ∀ c' ∈ allowed ts cs, c' = f ∨ c'.isLink = false ∨ (c'.lst = none ∧ isHeavy ts c' = false) := fun c' hc' => by
      rw [e] at hc'
      obtain ⟨c0, h0, es⟩ := List.mem_filterMap.mp hc'
      unfold allowStep at es
      split at es
      · rename_i ho
        cases es
        rcases ho with ho | ho
        · exact .inr (.inl ho)
        · exact .inl ho
      · rename_i ho
        split at es
        · cases es
        · rename_i hh
          cases es
          refine .inr (.inr ⟨bare_lst c0, ?_⟩)
          have e1 : isHeavy ts c0.bare = isHeavy ts c0 := by unfold isHeavy; rw [bare_link, bare_target]
          rw [e1]
          exact Bool.eq_false_iff.mpr hh
    have ecf : c = f := by
      rcases look c hc with h | h | ⟨_, h⟩
      · exact h
      · rw [hl] at h; cases h
      · rw [hv] at h; cases h
    subst ecf
    refine all_one ?_ (List.mem_filter.mpr ⟨hc, hf'.2⟩) fun x hx => ?_
    · exact List.Pairwise.filter _ ((List.pairwise_map.mp nd2).imp fun hn e => hn (congrArg Col.name e))
    · obtain ⟨hx1, hx2⟩ := List.mem_filter.mp hx
      rcases look x hx1 with h | h | ⟨h, _⟩
      · exact h
      · cases ex : x.lst with
        | none => rw [ex] at hx2; cases hx2
        | some l => rw [lst_link ex] at h; cases h
      · rw [h] at hx2; cases hx2
theorem IsName.ok {x : Str} (h : IsName x) : SOk x := SOk.low h.1.2.2
theorem GoodTabs.names {ts : Tabs} (g : GoodTabs ts) : ∀ t ∈ ts, IsName t.1 := by
  induction g with
  | nil => exact fun t h => absurd h List.not_mem_nil
  | snoc g hn hx hc ih =>
    intro t ht
    rcases List.mem_append.1 ht with h | h
    · exact ih t h
    · rw [List.mem_singleton.1 h]
      exact hn
theorem GoodTabs.cols {ts : Tabs} (g : GoodTabs ts) : ∀ t ∈ ts, t.2.length ≤ 6 := by
  induction g with
  | nil => exact fun t h => absurd h List.not_mem_nil
  | snoc g hn hx hc ih =>
    intro t ht
    rcases List.mem_append.1 ht with h | h
    · exact ih t h
    · rw [List.mem_singleton.1 h]
      exact hc.few
theorem GoodTabs.few {ts : Tabs} (g : GoodTabs ts) (h : ts.length ≤ 20) : Few ts := ⟨h, fun t ht => Nat.le_trans (g.cols t ht) (by omega)⟩
theorem PreCols.ok {ts : Tabs} {cs : List Col} (g : GoodTabs ts) (h : PreCols ts cs) : ∀ c ∈ cs, c.Ok := fun c hc => by
  have h1 := (h.nm c hc).ok
  cases c with
  | plain f n => exact h1
  | word n o => exact h1
  | link n t o l =>
    refine ⟨h1, ?_, fun x e => (h.ls _ hc x e).ok⟩
    have h2 : t ∈ ts.map (·.1) := h.tg _ hc rfl
    obtain ⟨t', ht', rfl⟩ := List.mem_map.mp h2
    exact (g.names t' ht').ok
/-- one more column -/
theorem PreCols.snoc {ts : Tabs} {cs : List Col} {c : Col} (h : PreCols ts cs) (hn : IsName c.name) (hx : c.name ∉ cs.map Col.name) (ht : c.isLink = true → c.target ∈ ts.map (·.1))
    (hl : ∀ l, c.lst = some l → IsName l ∧ some l ∉ namesTaken ts cs c.target) : PreCols ts (cs ++ [c]) := by
  refine ⟨fun c' hc' => ?_, ?_, fun c' hc' hk => ?_, fun c' hc' l e => ?_, ?_, fun c' hc' l e t ht' => ?_⟩
  · rcases List.mem_append.mp hc' with h1 | h1
    · exact h.nm c' h1
    · rw [List.mem_singleton.1 h1]; exact hn
  · rw [List.map_append, List.map_cons, List.map_nil]
    refine List.nodup_append.mpr ⟨h.nd, by simp, fun a ha b hb e => ?_⟩
    rw [List.mem_singleton.1 hb] at e
    exact hx (e ▸ ha)
  · rcases List.mem_append.mp hc' with h1 | h1
    · exact h.tg c' h1 hk
    · rw [List.mem_singleton.1 h1] at hk ⊢; exact ht hk
  · rcases List.mem_append.mp hc' with h1 | h1
    · exact h.ls c' h1 l e
    · rw [List.mem_singleton.1 h1] at e; exact (hl l e).1
  · refine List.pairwise_append.mpr ⟨h.fr, by simp, fun a ha b hb hk et l e1 e2 => ?_⟩
    rw [List.mem_singleton.1 hb] at et e1
    refine (hl l e1).2 (List.mem_append.mpr (.inr ?_))
    unfold linkLists
    exact List.mem_map.mpr ⟨a, List.mem_filter.mpr ⟨ha, by rw [hk, Bool.true_and]; exact decide_eq_true et⟩, e2⟩
  · rcases List.mem_append.mp hc' with h1 | h1
    · exact h.old c' h1 l e t ht'
    · rw [List.mem_singleton.1 h1] at e ⊢
      exact fun z => (hl l e).2 (List.mem_append.mpr (.inl (List.mem_flatMap.mpr ⟨t, ht', z⟩)))
theorem PreCols.nil (ts : Tabs) : PreCols ts [] := ⟨fun _ h => absurd h List.not_mem_nil, List.nodup_nil, fun _ h => absurd h List.not_mem_nil, fun _ h => absurd h List.not_mem_nil, List.Pairwise.nil, fun _ h => absurd h List.not_mem_nil⟩
/-! ### tables as data -/
def tData (t : Str × List Col) : PyData := .tuple [.str t.1, .list (t.2.map Col.data)]
theorem TabsV.dp {K : PySem.W.Frag} {H : Hp} {vs : List V} {ts : Tabs} (h : TabsV H vs ts) : DpAll K H vs (ts.map tData) := by
  induction h with
  | nil => exact .nil
  | cons h _ ih =>
    obtain ⟨a, p, rfl, ha, ⟨cvs, hp, hc⟩⟩ := h
    exact .cons (.tup (SqT.of ha) (.cons (.str _) (.cons (.lst (SqL.of hp) (ColsV.dp hc)) .nil))) ih
theorem GoodTabs.oks {ts : Tabs} (g : GoodTabs ts) : ∀ t ∈ ts, ∀ c ∈ t.2, c.Ok := by
  induction g with
  | nil => exact fun t h => absurd h List.not_mem_nil
  | snoc g hn hx hc ih =>
    intro t ht
    rcases List.mem_append.1 ht with h | h
    · exact ih t h
    · rw [List.mem_singleton.1 h]
      exact hc.toPreCols.ok g
theorem shapedL_tabs {ts : Tabs} (h1 : ∀ t ∈ ts, SOk t.1) (h2 : ∀ t ∈ ts, ∀ c ∈ t.2, c.Ok) : PyData.canLayAll0 (ts.map tData) = true ∧ PyData.depthAll (ts.map tData) ≤ 62 := by
  induction ts with
  | nil => exact ⟨rfl, by show 0 ≤ 62; omega⟩
  | cons t r ih =>
    obtain ⟨i1, i2⟩ := ih (fun t ht => h1 t (List.mem_cons_of_mem _ ht)) (fun t ht => h2 t (List.mem_cons_of_mem _ ht))
    have s1 : PyData.strOk t.1 = true := h1 t List.mem_cons_self
    have s2 := shapedL_cols (h2 t List.mem_cons_self)
    have d2 : ∀ cs : List Col, PyData.depthAll (cs.map Col.data) ≤ 2 := fun cs => by
      induction cs with
      | nil => show 0 ≤ 2; omega
      | cons c r ih =>
        have d1 : PyData.depth c.data ≤ 2 := by
          cases c with
          | plain f n => simp [Col.data, Col.ds, PyData.depth, PyData.depthAll]
          | word n o => simp [Col.data, Col.ds, PyData.depth, PyData.depthAll]
          | link n t o l => cases l <;> simp [Col.data, Col.ds, dOpt, PyData.depth, PyData.depthAll]
        rw [List.map_cons]
        simp only [PyData.depthAll]
        omega
    have d3 := d2 t.2
    unfold SeqAt.shaped at s2
    rw [Bool.and_eq_true] at s2
    refine ⟨?_, ?_⟩
    · rw [List.map_cons]
      unfold tData
      simp only [PyData.canLayAll0, PyData.canLay0, s1, Bool.true_and, Bool.and_true]
      rw [Bool.and_eq_true]
      exact ⟨by have := s2.1; simp only [PyData.canLay0] at this; exact this, i1⟩
    · rw [List.map_cons]
      unfold tData
      simp only [PyData.depthAll, PyData.depth]
      unfold tData at i2
      omega
theorem shaped_tabs {ts : Tabs} (g : GoodTabs ts) : SeqAt.shaped (.list (ts.map tData)) = true := by
  obtain ⟨h1, h2⟩ := shapedL_tabs (fun t ht => (g.names t ht).ok) g.oks
  unfold SeqAt.shaped
  rw [Bool.and_eq_true, decide_eq_true_eq]
  exact ⟨by simp only [PyData.canLay0]; exact h1, by simp only [PyData.depth]; omega⟩
theorem eqv_tnil (ts : Tabs) : PyData.eqv (.list (ts.map tData)) (.list []) = ts.isEmpty := by
  cases ts with
  | nil => simp [PyData.eqv, PyData.eqvAll]
  | cons c r => simp [PyData.eqv, PyData.eqvAll]
/-! ### promises of the two that draw -/
def spDrawColumns (K : PySem.W.Frag) : Sp := fun vs H Q _ => ∃ (b p : Addr) (ts : Tabs) (most : Int) (n : Nat), vs = [.ref b, .ref p, .int most] ∧ BagAt H b n ∧ n < 80000000 ∧ TabsR K (del b H) p ts ∧ GoodTabs ts ∧ ts.length ≤ 6 ∧ 0 ≤ most ∧ most ≤ 6 ∧
  ∀ (q : Addr) (H' : Hp) (cs : List Col), ColsAt (del b H') q cs → GoodCols ts cs → BagAt H' b (n + 200) → Ex (del b H) H' → Q (.ref q) H'
def spDrawTables (K : PySem.W.Frag) : Sp := fun vs H Q _ => ∃ (b : Addr) (least most : Int) (n : Nat), vs = [.ref b, .int least, .int most] ∧ BagAt H b n ∧ n < 70000000 ∧ 1 ≤ least ∧ least ≤ most ∧ most ≤ 6 ∧
  ∀ (q : Addr) (H' : Hp) (ts : Tabs), TabsAt (del b H') q ts → GoodTabs ts → least ≤ ts.length → (ts.length : Int) ≤ most → BagAt H' b (n + 2000) → Ex (del b H) H' → Q (.ref q) H'
end LP
namespace PySem
open Sem (wp)
set_option maxHeartbeats 1300000 in
theorem meets_enum_one {v : Value} {o : Obj} {H : Heap → Prop} (B : Begins v o H) :
    Meets (Builtin.«enumerate.__new__» ⟨[.type "enumerate", v], []⟩) (fun _ R s => H s.heap ∧
      R (.ok (.ret (.ref (s.heap.push o).objs.size))) { s with heap := (s.heap.push o).push { cls := .type "enumerate", data := .fields #[.none, .bool false, .ref s.heap.objs.size, rawInt 0, .none, .none] } }) :=
  .of_wp fun prog w A R st h => by
    obtain ⟨hp, g, d, tk, os⟩ := st; obtain ⟨h1, h⟩ := h
    have hsub := sub_enumerate
    have q1 : ∀ {A' : Around}
            {E : Value → Shared → Prop} {Q : Value → Shared → Prop}, Q (.ref hp.objs.size) ⟨hp.push o, g, d, tk, os⟩ → wpAny (model prog w) A' (pyIter v) Q E ⟨hp, g, d, tk, os⟩ :=
      fun q => B.iter prog w _ _ ⟨hp,
              g, d, tk, os⟩ _ h1 q
    wp_walk using q1
    refine wpAny_stack_any fun st0 => wpAny_pure ?_
    split
    · rename_i c _ _ _ _ _
      cases (c ==
              Value.type "enumerate")
      · wp_walk using q1
        exact ⟨_, rfl, h⟩
      · wp_walk using q1
        exact ⟨_, rfl, h⟩
    · wp_walk using q1
      exact ⟨_, rfl, h⟩
section
variable {prog : Program}
        {w : World} {A : Around} {E : Value → Shared → Prop} {s : Shared}
theorem call_enum_tuple {l : Addr} {items : Array Value} {Q : Value → Shared → Prop} (hL : s.heap.IsTuple l items)
    (h : ∀ h', IsEnum h' (s.heap.objs.size + 1) s.heap.objs.size 0 .none → h'.IsTupleIter s.heap.objs.size l 0 → h'.objs.size = s.heap.objs.size + 2 →
      (∀ b o,
              s.heap.get? b = some o → h'.get? b = some o) → Q (.ref (s.heap.objs.size + 1)) { s with heap := h' }) :
    wpAny (model prog w) A (call (.type "enumerate") [Value.ref l]) Q E s := by
  refine callType_new F.called_enumerate (by decide) (F.typeCall_enumerate_1 _) (F.newCall_enumerate_1 _)
    (fun obj => F.args_object_init_2 obj _) F.entry_enumerate_new (meets_enum_one (begins_tuple l items)) ⟨hL, ?_⟩
  have hz : (s.heap.push { cls := .type "tuple_iterator", data := .fields #[.ref l, .int 0 0] }).objs.size = s.heap.objs.size + 1 := Heap.size_push ..
  show _ ∧ _
  rw [hz]
  have he : IsEnum ((s.heap.push { cls := .type "tuple_iterator", data := .fields #[.ref l, .int 0 0] }).push
      { cls :=
              .type "enumerate", data := .fields #[.none, .bool false, .ref s.heap.objs.size, rawInt 0, .none, .none] }) (s.heap.objs.size + 1) s.heap.objs.size 0 .none := by
    have := Heap.get?_push_size (s.heap.push { cls := .type "tuple_iterator", data := .fields #[.ref l, .int 0 0] })
      (o := { cls :=
              .type "enumerate", data := .fields #[.none, .bool false, .ref s.heap.objs.size, rawInt 0, .none, .none] }) rfl
    rw [hz] at this; exact this
  refine ⟨⟨_,
          he, rfl⟩, h _ he ⟨_, Heap.get?_push_of_some _ (Heap.get?_push_size _ rfl), rfl, rfl⟩ (by rw [Heap.size_push, hz]) fun b o x => Heap.get?_push_of_some _ (Heap.get?_push_of_some _ x)⟩
end
end PySem
namespace LP
open PySem L2
/-- the tuple at a, each item in a new pair -/
def Iteu (K : PySem.W.Frag) (a : Addr) : It :=
  ⟨fun i H => ∃ (xs : List V) (x : V), SqT K H a xs ∧ xs[i]? = some x, fun i H v H' => ∃ T x, v = .ref T ∧ H T = none ∧ H' = upd H T (.tup [.int (i : Nat), x]) ∧ ∀ xs, SqT K H a xs → xs[i]? = some x, fun i H => ∃ xs : List V, SqT K H a xs ∧ xs.length = i⟩
theorem turn_enumT {P : Program} {w : World} {K : PySem.W.Frag} {elts : List Expr} {kk : Nat} {tpos : Pos} (a e it : Addr) :
    Turn P w K (.Tuple elts kk tpos) (Iteu K a) [e, it] e (fun i h => (∃ old, IsEnum h e it ((i : Nat) : Int) old) ∧ h.IsTupleIter it a i ∧ e ≠ it ∧ a ≠ it ∧ e ≠ a) where
  mem := by simp
  obj := fun i h st b hb => by
    obtain ⟨⟨old,
            he⟩, ⟨o, ho, hc, hd⟩, _⟩ := st
    have e' : b =
            e ∨ b = it := by simpa using hb
    rcases e' with z | z
    · rw [z]
      exact ⟨_, he, fun v q => nomatch q⟩
    · rw [z]
      exact ⟨o, ho, fun v q => by rw [hd] at q; cases q⟩
  keep := fun i h h' st k => let ⟨⟨old,
          he⟩, hi, hne⟩ := st; ⟨⟨old, k e (by simp) _ he⟩, hi.at fun o q => k it (by simp) o q, hne⟩
  item := by
    intro X hP hw hK hc i pins s σ H E I hf st hg; subst hP hw hK
    obtain ⟨⟨old, he⟩, hit, hne, hai, hea⟩ := st
    obtain ⟨xs, x, hq, hx⟩ := hg
    obtain ⟨its,
            rv, p, hz⟩ := I.tuple hq
    obtain ⟨u,
            hu, ru⟩ := rv.get hx
    have hel : e <
            s.heap.objs.size := Heap.lt_size he
    have hil : it <
            s.heap.objs.size := by obtain ⟨_, q, _⟩ := hit; exact Heap.lt_size q
    have pt : s.heap.IsTuple a its.toArray := p
    have hhd : X.A.in1.handled = none := I.ok.hd hc
    have hlt : i < its.toArray.size := by
      have := (List.getElem?_eq_some_iff.mp hu).1
      simpa using this
    refine wpAny_pyNext_enum_itemD (Draws.tuple hhd it a hai its.toArray) he ⟨hit, pt⟩ hlt hne (by simp [hne, hea]) fun y h' tk hy ho hst hT hsz hk => ?_
    have ey : y = u := by
      have q : its.toArray[i]? = some y := hy
      have q2 : its.toArray[i]? = some u := by simpa using hu
      exact Option.some.inj (q.symm.trans q2)
    subst ey
    refine ⟨_, rfl, wpAny_letOwnedTupleGo_enum (s := { s with heap := h', toks := tk + 1 }) ho fun h'' he' sb => ?_⟩
    have hT2 : h''.get? s.heap.objs.size = some { cls := .type "tuple", data := .seq #[.int i tk, y] } := (sb.2 _ (Nat.ne_of_gt hel)).trans hT
    have new : ObjOk X.prog X.w
            (upd H s.heap.objs.size (.tup [.int (i : Nat), x])) h'' s.heap.objs.size (.tup [.int (i : Nat), x]) :=
      ⟨by show 2 ≤ sizeLine; decide, [.int i tk, y], .cons ⟨_, rfl⟩ (.cons ru .nil), ⟨_, hT2, rfl, _, rfl⟩⟩
    have I1 : Inv X pins σ (upd H s.heap.objs.size (.tup [.int (i : Nat), x])) { s with heap := h'', toks := tk + 1 } :=
      I.turnedNew
              (ch := [e, it]) (fun b ob hb q => (sb.2 b (fun z => hb (by simp [z]))).trans (hk b ob (fun z => hb (by simp [z])) (fun z => hb (by simp [z])) q)) hf (Nat.le_refl _) new
    refine ⟨.ref s.heap.objs.size, _, I1, rfl, ⟨_, x, rfl, I.hok.fresh (Nat.le_refl _), rfl, fun ys hy => by rw [I.tuple_inj hy hq]; exact hx⟩, ⟨⟨y, ?_⟩, hst.1.at fun o q => (sb.2 it (Ne.symm hne)).trans q, hne, hai, hea⟩, fun b hb => ?_⟩
    · have e1 :
            ((i + 1 : Nat) : Int) = (i : Int) + 1 := by omega
      rw [e1]; exact he'
    · have hb' : b <
            s.heap.objs.size := by
        have e' : b =
                e ∨ b = it := by simpa using hb
        rcases e' with z | z
        · rw [z]; exact hel
        · rw [z]; exact hil
      rw [upd_ne
              (Nat.ne_of_lt hb')]
      exact (hf b hb).1
  done := by
    intro X hP hw hK hc i pins s σ H E I hf st hg; subst hP hw hK
    obtain ⟨⟨old, he⟩, hit, hne, hai, hea⟩ := st
    obtain ⟨xs, hq, hx⟩ := hg
    obtain ⟨its,
            rv, p, hz⟩ := I.tuple hq
    obtain ⟨f0,
            f1, f2, f3, f4, f5⟩ := hf it (by simp)
    have hl := rv.length
    have pt : s.heap.IsTuple a its.toArray := p
    have hhd : X.A.in1.handled = none := I.ok.hd hc
    have hn : its.toArray.size = i := by simp; omega
    have hst : s.heap.IsTupleIter it a its.toArray.size ∧ s.heap.IsTuple a its.toArray := by rw [hn]; exact ⟨hit, pt⟩
    refine wpAny_pyNext_enum_endD (Draws.tuple hhd it a hai its.toArray) he hst fun h' eb => ⟨rfl, I.turned (t' := s.toks) (fun b o hb q => eb b o hb q) f0 f1 f3 f4 f5⟩
  self := fun A i s Q E st h => let ⟨⟨_,
          he⟩, _⟩ := st; wpAny_pyIter_enum he h
def kEnumT (K : PySem.W.Frag) (vs : List V) (H1 : Hp) (R : It → Hp → Prop) : Prop := ∃ a xs, vs = [.ref a] ∧ SqT K H1 a xs ∧ R (Iteu K a) H1
def iEnumT (K : PySem.W.Frag) (ta : TA) : TI := fun σ H R => ta σ H fun vs H1 => kEnumT K vs H1 R
theorem pi_enumT {X : Cx} {e : Expr} {ta : TA} {p pos tpos : Pos} {elts : List Expr} {kk : Nat} (hg : Gl X "enumerate") (hm : X.mg "enumerate" = none) (ha : PA X [e] ta) (hs : starEach [e] X.env = [(false, eval e X.env)] := by rfl) :
    PI X (.Tuple elts kk tpos) (.Call (.Name "enumerate" p) [e] [] pos) (iEnumT X.K ta) := by
  refine ⟨fun pins s σ H R I h => ?_⟩; refine PyProof.Rows.Call_ (ld_blt I hg hm PyProof.Rows.boot_enumerate (PyProof.Rows.callWith_type1 (thn (ha.run pos pins s σ H _ I h) fun us s1 ⟨vs, H1, I1, r1, q1⟩ => ?_) hs rfl))
  obtain ⟨a,
          xs, ex, hq, q⟩ := q1
  subst ex
  cases r1 with
  | cons r rr =>
    cases rr
    cases r
    obtain ⟨its, rv, p', hz⟩ := I1.tuple hq
    have pt : s1.heap.IsTuple a its.toArray := p'
    have hal : a < s1.heap.objs.size := by obtain ⟨_, q, _⟩ := pt; exact Heap.lt_size q
    refine call_enum_tuple pt fun h' he hit hsz hk => wpAny_pyIter_enum he ?_
    have I2 : Inv X pins σ H1 { s1 with heap :=
            h' } := I1.kept (t' := s1.toks) hk
    refine ⟨s1.heap.objs.size + 1, [s1.heap.objs.size + 1, s1.heap.objs.size], _, _, H1, rfl, I2, turn_enumT a (s1.heap.objs.size + 1) s1.heap.objs.size, ⟨⟨.none, he⟩, hit, Nat.succ_ne_self _, Nat.ne_of_lt hal, Nat.ne_of_gt (Nat.lt_succ_of_lt hal)⟩, fun b hb => ?_, q⟩
    have e' : b =
            s1.heap.objs.size + 1 ∨ b = s1.heap.objs.size := by simpa using hb
    have hle : s1.heap.objs.size ≤
            b := by
      rcases e' with z | z
      · rw [z]
        exact Nat.le_add_right _ _
      · rw [z]; exact Nat.le_refl _
    exact Inv.fpOk I1 hle (I1.hok.fresh hle)
section
variable {X : Cx} {K : PySem.W.Frag} {e : Expr} {ta : TA} {p pos tpos : Pos} {elts : List Expr} {kk : Nat}
theorem pi_enumTK (hK : X.K = K) (hg : Gl X "enumerate") (hm : X.mg "enumerate" = none) (ha : PA X [e] ta) (hs : starEach [e] X.env = [(false, eval e X.env)] := by rfl) :
    PI X (.Tuple elts kk tpos) (.Call (.Name "enumerate" p) [e] [] pos) (iEnumT K ta) := hK ▸ pi_enumT hg hm ha hs
theorem pi_enumK (hK : X.K = K) (hg : Gl X "enumerate") (hm : X.mg "enumerate" = none) (ha : PA X [e] ta) (hs : starEach [e] X.env = [(false, eval e X.env)] := by rfl) :
    PI X (.Tuple elts kk tpos) (.Call (.Name "enumerate" p) [e] [] pos) (iEnum K ta) := hK ▸ pi_enum hg hm ha hs
end
section
variable {K : PySem.W.Frag} {a : Addr} {xs : List V} {g : TG} {tb : TS} {D : Ends} {σ : L2.St} {H H1 : Hp}
def kEnum (K : PySem.W.Frag) (vs : List V) (H1 : Hp) (R : It → Hp → Prop) : Prop := ∃ a xs, vs = [.ref a] ∧ SqL K H1 a xs ∧ R (Ite K a) H1
theorem w_iEnum {ta : TA} {R : It → Hp → Prop} (h : ta σ H fun vs H1 => kEnum K vs H1 R) : iEnum K ta σ H R := h
theorem w_kEnum {R : It → Hp → Prop} (h : SqL K H a xs) (q : R (Ite K a) H) : kEnum K [V.ref a] H R := ⟨a, xs, rfl, h, q⟩
theorem w_iEnumT {ta : TA} {R : It → Hp → Prop} (h : ta σ H fun vs H1 => kEnumT K vs H1 R) : iEnumT K ta σ H R := h
theorem w_kEnumT {R : It → Hp → Prop} (h : SqT K H a xs) (q : R (Iteu K a) H) : kEnumT K [V.ref a] H R := ⟨a, xs, rfl, h, q⟩
/-- a for over enumerate(list): the pair at T is new -/
theorem loopE (Pv : List V → List V → L2.St → Hp → Prop) (h0 : Pv [] xs σ H) (hl : ∀ d r σ H, d ++ r = xs → Pv d r σ H → SqL K H a xs)
    (hs : ∀ d y r σ H T, d ++ y :: r = xs → H T = none → Pv d (y :: r) σ H → g (.ref T) σ (upd H T (.tup [.int (d.length : Nat), y])) fun σ2 H2 => tb { D with nx := Pv (d ++ [y]) r, ct := Pv (d ++ [y]) r, bk := D.nx } σ2 H2) (hd : ∀ σ H, Pv xs [] σ H → D.nx σ H) :
    ∃ W : Nat →
            Nat → L2.St → Hp → Prop, (∃ m, W 0 m σ H) ∧ ∀ i m σ H, W i m σ H →
      ((Ite K a).stop i H ∧ D.nx σ H) ∨ ((Ite K a).go i H ∧ ∃ N : L2.St → Hp → Prop, (∀ σ' H', N σ' H' → ∃ m', m' < m ∧ W (i + 1) m' σ' H') ∧ ∀ x H', (Ite K a).yld i H x H' → g x σ H' fun σ2 H2 => tb { D with nx := N, ct := N, bk := D.nx } σ2 H2) := by
  refine ⟨fun i m σ H => m = xs.length - i ∧ i ≤ xs.length ∧ Pv (xs.take i) (xs.drop i) σ H, ⟨xs.length, by simp, Nat.zero_le _, by simpa using h0⟩, ?_⟩
  rintro i m σ H ⟨rfl, hi, p⟩
  have q := hl _ _ σ H (List.take_append_drop i xs) p
  by_cases hlt : i < xs.length
  · have hx : xs[i]? = some xs[i] := by simp [hlt]
    refine .inr ⟨⟨xs, xs[i], q, hx⟩, fun σ H => Pv (xs.take (i + 1)) (xs.drop (i + 1)) σ H, fun σ' H' p' => ⟨xs.length - (i + 1), by omega, rfl, hlt, p'⟩, fun x H' y => ?_⟩
    obtain ⟨T, x, rfl, hT, rfl, y⟩ := y
    have ex : x = xs[i] := by
      have z := y xs q
      rw [hx] at z
      exact (Option.some.inj z).symm
    have e1 : xs.drop i = x :: xs.drop (i + 1) := by
      rw [List.drop_eq_getElem_cons hlt, ex]
    have e2 : xs.take (i + 1) = xs.take i ++ [x] := by
      rw [List.take_succ, hx, ex]
      rfl
    have z := hs (xs.take i) x (xs.drop (i + 1)) σ H T (by rw [← e1]; exact List.take_append_drop i xs) hT (by rw [← e1]; exact p)
    rw [← e2, List.length_take, Nat.min_eq_left (Nat.le_of_lt hlt)] at z
    exact z
  · refine .inl ⟨⟨xs, q, by omega⟩, hd σ H ?_⟩
    have : i = xs.length := by omega
    rw [this, List.take_length, List.drop_length] at p
    exact p
/-- a for over enumerate(tuple): the pair at T is new -/
theorem loopET (Pv : List V → List V → L2.St → Hp → Prop) (h0 : Pv [] xs σ H) (hl : ∀ d r σ H, d ++ r = xs → Pv d r σ H → SqT K H a xs)
    (hs : ∀ d y r σ H T, d ++ y :: r = xs → H T = none → Pv d (y :: r) σ H → g (.ref T) σ (upd H T (.tup [.int (d.length : Nat), y])) fun σ2 H2 => tb { D with nx := Pv (d ++ [y]) r, ct := Pv (d ++ [y]) r, bk := D.nx } σ2 H2) (hd : ∀ σ H, Pv xs [] σ H → D.nx σ H) :
    ∃ W : Nat →
            Nat → L2.St → Hp → Prop, (∃ m, W 0 m σ H) ∧ ∀ i m σ H, W i m σ H →
      ((Iteu K a).stop i H ∧ D.nx σ H) ∨ ((Iteu K a).go i H ∧ ∃ N : L2.St → Hp → Prop, (∀ σ' H', N σ' H' → ∃ m', m' < m ∧ W (i + 1) m' σ' H') ∧ ∀ x H', (Iteu K a).yld i H x H' → g x σ H' fun σ2 H2 => tb { D with nx := N, ct := N, bk := D.nx } σ2 H2) := by
  refine ⟨fun i m σ H => m = xs.length - i ∧ i ≤ xs.length ∧ Pv (xs.take i) (xs.drop i) σ H, ⟨xs.length, by simp, Nat.zero_le _, by simpa using h0⟩, ?_⟩
  rintro i m σ H ⟨rfl, hi, p⟩
  have q := hl _ _ σ H (List.take_append_drop i xs) p
  by_cases hlt : i < xs.length
  · have hx : xs[i]? = some xs[i] := by simp [hlt]
    refine .inr ⟨⟨xs, xs[i], q, hx⟩, fun σ H => Pv (xs.take (i + 1)) (xs.drop (i + 1)) σ H, fun σ' H' p' => ⟨xs.length - (i + 1), by omega, rfl, hlt, p'⟩, fun x H' y => ?_⟩
    obtain ⟨T, x, rfl, hT, rfl, y⟩ := y
    have ex : x = xs[i] := by
      have z := y xs q
      rw [hx] at z
      exact (Option.some.inj z).symm
    have e1 : xs.drop i = x :: xs.drop (i + 1) := by
      rw [List.drop_eq_getElem_cons hlt, ex]
    have e2 : xs.take (i + 1) = xs.take i ++ [x] := by
      rw [List.take_succ, hx, ex]
      rfl
    have z := hs (xs.take i) x (xs.drop (i + 1)) σ H T (by rw [← e1]; exact List.take_append_drop i xs) hT (by rw [← e1]; exact p)
    rw [← e2, List.length_take, Nat.min_eq_left (Nat.le_of_lt hlt)] at z
    exact z
  · refine .inl ⟨⟨xs, q, by omega⟩, hd σ H ?_⟩
    have : i = xs.length := by omega
    rw [this, List.take_length, List.drop_length] at p
    exact p
end
section
variable {K : PySem.W.Frag} {σ : L2.St} {H : Hp} {Q : VK} {v : V} {ta tb tc : TE} {D : Ends} {a C dx : Addr} {kvs : List (Key × V)} {k : Str} {fs : List (Str × V)} {f m : Str} {t : TA} {sp : Sp} {dvs : List V} {E : XK}
theorem w_fldT (h : ta σ H fun x H1 => ∃ a C dx fs v, x = .ref a ∧ H1 a = some (.ins C dx fs) ∧ Cls K C ∧ NoAttr K C f ∧ fs.lookup f = some v ∧ Q v H1) : tFld K ta f σ H Q := h
theorem w_kFld {z : V → Prop} (e : H a = some (.ins C dx fs)) (c : Cls K C) (n : NoAttr K C f) (l : fs.lookup f = some v) (q : z v) : ∃ a' C dx fs v, V.ref a = .ref a' ∧ H a' = some (.ins C dx fs) ∧ Cls K C ∧ NoAttr K C f ∧ fs.lookup f = some v ∧ z v := ⟨a, C, dx, fs, v, rfl, e, c, n, l, q⟩
theorem w_dnotin (h : ta σ H fun y H1 => tb σ H1 fun x H2 => ∃ a o, x = .ref a ∧ DGet H2 a y o ∧ Q (.bl (!o.isSome)) H2) : tDNotIn ta tb σ H Q := h
theorem w_kNin {z : V → Prop} (h : H a = some (.dK kvs)) (q : z (.bl (!(valV kvs (Sum.inr k : Key)).isSome))) : ∃ a' o, V.ref a = .ref a' ∧ DGet H a' (.str k) o ∧ z (.bl (!o.isSome)) := ⟨a, _, rfl, DGet.k (k := Sum.inr k) h, q⟩
theorem w_kG {z : V → Prop} (h : H a = some (.dK kvs)) (e : valV kvs (Sum.inr k : Key) = some v) (q : z v) : ∃ a' v', V.ref a = .ref a' ∧ DGet H a' (.str k) (some v') ∧ z v' := ⟨a, v, rfl, e ▸ DGet.k (k := Sum.inr k) h, q⟩
theorem w_rU {g : Int → V} {i : Int} (q : Q (g i) H) : rU g (.int i) H Q := ⟨i, rfl, q⟩
theorem w_neg (h : ta σ H fun x H1 => rU (fun i => .int (-i)) x H1 Q) : tUn (rU fun i => .int (-i)) ta σ H Q := h
theorem w_methT (h : ta σ H fun x H1 => ∃ a dx fs, x = .ref a ∧ H1 a = some (.ins C dx fs) ∧ fs.lookup m = none ∧ t σ H1 fun vs H2 => sp (x :: (vs ++ dvs)) H2 Q E) : tMeth C m sp dvs E ta t σ H Q := h
theorem w_kMeth {z : Prop} (e : H a = some (.ins C dx fs)) (l : fs.lookup m = none) (q : z) : ∃ a' dx fs, V.ref a = .ref a' ∧ H a' = some (.ins C dx fs) ∧ fs.lookup m = none ∧ z := ⟨a, dx, fs, rfl, e, l, q⟩
end
section
variable {X : Cx} {K : PySem.W.Frag} {A : Around} {j : Nat}
theorem op_inDK (hK : X.K = K) (hu : X.A.units + 65 < cLine) : OpR X (compareOp .In) (rInD K) := hK ▸ op_inD hu
theorem hu65 (hr : Room j A) : A.units + 65 < cLine := by have := hr.un; omega
end
end LP
namespace LP
open PySem L2
open Evl (Ex)
def tJn (ts : List TE) : TE := fun σ H Q => tJs ts Str.empty σ H fun out H1 => Q (.str out) H1
def kFmt (x : V) (H1 : Hp) (Q : VK) : Prop := (∃ y : Str, x = .str y ∧ y.length ≤ sizeLine ∧ Q (.str y) H1) ∨ ∃ i : Int, x = .int i ∧ i.natAbs.log2 < 1920 ∧ Q (.str (toString i)) H1
section
variable {X : Cx} {v1 v2 : Expr} {rest : List Expr} {ts : List TE} {pos : Pos} {t te : TE} {σ : L2.St} {H : Hp} {Q : VK} {acc y : Str}
theorem pe_joinedN (h : PJ X (v1 :: v2 :: rest) ts) : PE X (.JoinedStr (v1 :: v2 :: rest) pos) (tJn ts) := pe_joined h
theorem w_jn (h : tJs ts Str.empty σ H fun out H1 => Q (.str out) H1) : tJn ts σ H Q := h
theorem w_jcons {q : Str → Hp → Prop} (h : t σ H fun x H1 => ∃ y : Str, x = .str y ∧ (acc ++ y).length ≤ sizeLine ∧ tJs ts (acc ++ y) σ H1 q) : tJs (t :: ts) acc σ H q := h
theorem w_jnil {q : Str → Hp → Prop} (h : q acc H) : tJs [] acc σ H q := h
theorem w_jstr {q : Str → Prop} (hz : (acc ++ y).length ≤ sizeLine) (h : q y) : ∃ y' : Str, V.str y = .str y' ∧ (acc ++ y').length ≤ sizeLine ∧ q y' := ⟨y, rfl, hz, h⟩
theorem w_fmt (h : te σ H fun x H1 => kFmt x H1 Q) : tFmt te σ H Q := h
theorem w_kfmt (hz : y.length ≤ sizeLine) (h : Q (.str y) H) : kFmt (.str y) H Q := .inl ⟨y, rfl, hz, h⟩
def kKeys (x : V) (H1 : Hp) (R : It → Hp → Prop) : Prop := ∃ d o, x = .ref d ∧ ((∃ kvs, H1 d = some (.frz o (.dK kvs)) ∧ R (Itk d o kvs) H1) ∨ ∃ kvs, H1 d = some (.frz o (.dT kvs)) ∧ R (Itkt d o kvs) H1)
theorem w_iKeys {R : It → Hp → Prop} (h : te σ H fun x H1 => kKeys x H1 R) : iKeys te σ H R := h
theorem w_kKeys {R : It → Hp → Prop} {d : Addr} {o : Obj} {kvs : List (Key × V)} (h : H d = some (.frz o (.dK kvs))) (q : R (Itk d o kvs) H) : kKeys (.ref d) H R := ⟨d, o, rfl, .inl ⟨kvs, h, q⟩⟩
end
theorem len_cat (x y : Str) : (x ++ y).length = x.length + y.length := by
  show (x.cps ++ y.cps).size = _
  rw [Array.size_append]
  rfl
theorem lenE : (Str.empty).length = 0 := rfl
theorem lenS1 : (Str.ofString " ").length = 1 := by decide
theorem lenS2 : (Str.ofString "?").length = 1 := by decide
theorem lenS3 : (Str.ofString "").length = 0 := by decide
theorem lenS4 : (Str.ofString " to ").length = 4 := by decide
theorem lenS5 : (Str.ofString " as ").length = 4 := by decide
theorem lenS6 : (Str.ofString "table ").length = 6 := by decide
theorem lenS7 : (Str.ofString "user ").length = 5 := by decide
theorem small_le {n : Nat} (h : n ≤ 100000) : n ≤ sizeLine := Nat.le_trans h (by decide)
section
variable {g : TG} {tb : TS} {D : Ends} {σ : L2.St} {H : Hp} {d : Addr} {o : Obj} {kvs : List (Key × V)}
/-- a for over the keys of a locked dict -/
theorem loopK (Pv : List (Key × V) → List (Key × V) → L2.St → Hp → Prop) (h0 : Pv [] kvs σ H) (hl : ∀ d' r σ H, d' ++ r = kvs → Pv d' r σ H → H d = some (.frz o (.dK kvs)))
    (hs : ∀ d' y r σ H, d' ++ y :: r = kvs → Pv d' (y :: r) σ H → g (kV y.1) σ H fun σ2 H2 => tb { D with nx := Pv (d' ++ [y]) r, ct := Pv (d' ++ [y]) r, bk := D.nx } σ2 H2) (hd : ∀ σ H, Pv kvs [] σ H → D.nx σ H) :
    ∃ W : Nat →
            Nat → L2.St → Hp → Prop, (∃ m, W 0 m σ H) ∧ ∀ i m σ H, W i m σ H →
      ((Itk d o kvs).stop i H ∧ D.nx σ H) ∨ ((Itk d o kvs).go i H ∧ ∃ N : L2.St → Hp → Prop, (∀ σ' H', N σ' H' → ∃ m', m' < m ∧ W (i + 1) m' σ' H') ∧ ∀ x H', (Itk d o kvs).yld i H x H' → g x σ H' fun σ2 H2 => tb { D with nx := N, ct := N, bk := D.nx } σ2 H2) := by
  refine ⟨fun i m σ H => m = kvs.length - i ∧ i ≤ kvs.length ∧ Pv (kvs.take i) (kvs.drop i) σ H, ⟨kvs.length, by simp, Nat.zero_le _, by simpa using h0⟩, ?_⟩
  rintro i m σ H ⟨rfl, hi, p⟩
  have q := hl _ _ σ H (List.take_append_drop i kvs) p
  by_cases hlt : i < kvs.length
  · refine .inr ⟨⟨q, hlt⟩, fun σ H => Pv (kvs.take (i + 1)) (kvs.drop (i + 1)) σ H, fun σ' H' p' => ⟨kvs.length - (i + 1), by omega, rfl, hlt, p'⟩, fun x H' y => ?_⟩
    obtain ⟨e, k, v, hx, rfl⟩ := y
    subst e
    have e0 : kvs[i] = (k, v) := (List.getElem?_eq_some_iff.mp hx).2
    have e1 : kvs.drop i = (k, v) :: kvs.drop (i + 1) := by
      rw [List.drop_eq_getElem_cons hlt, e0]
    have e2 : kvs.take (i + 1) = kvs.take i ++ [(k, v)] := by
      rw [List.take_succ, hx]
      rfl
    have z := hs (kvs.take i) (k, v) (kvs.drop (i + 1)) σ H' (by rw [← e1]; exact List.take_append_drop i kvs) (by rw [← e1]; exact p)
    rw [← e2] at z
    exact z
  · refine .inl ⟨⟨q, by omega⟩, hd σ H ?_⟩
    have : i = kvs.length := by omega
    rw [this, List.take_length, List.drop_length] at p
    exact p
end
theorem w_sfld {K : PySem.W.Frag} {σ : L2.St} {H : Hp} {ta tv : TE} {f : Str} {D : Ends} (h : tv σ H fun y H1 => ta σ H1 fun x H2 => ∃ a C dx fs, x = .ref a ∧ H2 a = some (.ins C dx fs) ∧ Cls K C ∧ NoAttr K C f ∧ fs.length < 1000 ∧ D.nx σ (upd H2 a (.ins C dx (putF f y fs)))) : sFld K ta tv f D σ H := h
theorem w_kSfld {K : PySem.W.Frag} {H : Hp} {a C dx : Addr} {fs : List (Str × V)} {f : Str} {y : V} {z : Hp → Prop} (e : H a = some (.ins C dx fs)) (c : Cls K C) (n : NoAttr K C f) (l : fs.length < 1000) (q : z (upd H a (.ins C dx (putF f y fs)))) :
    ∃ a' C dx fs, V.ref a = .ref a' ∧ H a' = some (.ins C dx fs) ∧ Cls K C ∧ NoAttr K C f ∧ fs.length < 1000 ∧ z (upd H a' (.ins C dx (putF f y fs))) := ⟨a, C, dx, fs, rfl, e, c, n, l, q⟩
theorem w_dnew {σ : L2.St} {H : Hp} {Q : VK} (h : ∀ d, H d = none → Q (.ref d) (upd H d (.dK []))) : tDNewK σ H Q := h
theorem ps_fldK {X : Cx} {K : PySem.W.Frag} {o value : Expr} {ta tv : TE} {f : Str} {pos pos' : Pos} (hK : X.K = K) (ha : PE X o ta) (hv : PE X value tv) (hs : swapsWith value (some (.Attribute o f pos')) pos.line X.env = pure false) : PS X (.Assign [.Attribute o f pos'] value pos) (sFld K ta tv f) := hK ▸ ps_fld ha hv hs
theorem w_kI2 {H : Hp} {a : Addr} {kvs : List (Key × V)} {k : Str} {z : Option V → Prop} (h : H a = some (.dK kvs)) (q : z (valV kvs (Sum.inr k : Key))) : ∃ a' o, V.ref a = .ref a' ∧ DGet H a' (.str k) o ∧ z o := ⟨a, _, rfl, DGet.k (k := Sum.inr k) h, q⟩
end LP
namespace LP
open PySem L2
open PySem.W (takerIn hasDictIn excOver excInitIn)
/-! ### own exceptions over LookupError -/
def bmL : List Value := [.type "LookupError", .type "Exception", .type "BaseException", .type "object"]
structure OexL (K : PySem.W.Frag) (C : Addr) : Prop where
  cls : excInitIn K C bmL "LookupError.__new__" = true
  ov : excOver K C bmL = true
  hd : hasDictIn K C = true
  sa : PySem.W.findIn K
          (.ref C) "__setattr__" = some (some (.builtin "object.__setattr__"))
  exC : PySem.W.subIn K
          (.ref C) (.type "BaseException") = some true
  tyC : PySem.W.typeIn K
          (.ref C) = some (.type "type")
  kC : PySem.W.keepIn K
          (.ref C) = true
section
variable {X : Cx} {pins : List (Addr × Obj)} {σ : L2.St} {H : Hp} {s : Shared} {a C : Addr} {f : Str} {y : V} {u : Value} {Q : Unit → Shared → Prop} {E : Value → Shared → Prop} {A : Around}
theorem ostL_new (T : OexL X.K C) (I : Inv X pins σ H s) (e : H a = some (exo a C none)) (hno : NoAttr X.K C f) (ry : RelV y u)
    (h : ∀ dx s', H dx = none → dx ≠ a →
      Inv X pins σ (upd (upd H dx (exd dx [(f, y)])) a (exo a C (some dx))) s' → Q () s') : wpAny (model X.prog X.w) A (setAttr (.ref a) f u) Q E s := by
  obtain ⟨t1,
          ho⟩ := exo_at I.hok e
  obtain ⟨cd, hc, hd'⟩ := PySem.W.any_some T.hd
  have hn : H s.heap.objs.size =
          none := I.hok.fresh (Nat.le_refl _)
  have hna : s.heap.objs.size ≠ a := fun z => by rw [z, e] at hn; cases hn
  refine PySem.W.set_plain (od := none) I.kIn ⟨ho, rfl, rfl, trivial⟩ T.sa ?_
  refine PySem.W.osa_openX (s := { s with toks := s.toks + 1 }) (od := none) PySem.F.store_LookupError I.kIn ⟨ho, rfl, rfl, trivial⟩ T.ov hno.taker fun b => ?_
  refine wpAny_bind (wpAny_pure (wpAny_bind (PySem.W.instanceDict_exc (s := { s with toks := s.toks + 1 }) ho (PySem.W.looks_clsIn I.kIn hc) hd' ?_)))
  show wpAny _ _ (Builtin.ObjectAttr.storeInDict s.heap.objs.size (.str f s.toks) f u) _ _ _
  have old : ∀ b o, s.heap.get? b = some o → (s.heap.push (PySem.W.dictOf [] 0)).get? b = some o := fun b o q => Heap.get?_push_of_some _ q
  have at1 : (s.heap.push (PySem.W.dictOf [] 0)).get? s.heap.objs.size = some (PySem.W.dictOf [] 0) := Heap.get?_push_size _ rfl
  have void : (s.heap.push (PySem.W.dictOf [] 0)).Ns s.heap.objs.size (fun _ => none) := ⟨_, #[], _, at1, rfl, (fun _ q => absurd q (by simp)), fun _ => rfl⟩
  have J1 : Inv X pins σ (upd H s.heap.objs.size (exd s.heap.objs.size [])) { s with heap := s.heap.push (PySem.W.dictOf [] 0) } :=
    I.laid (t' := s.toks) old (Nat.le_refl _) (exd_ok (Heap.Ns1.of_empty void) fun _ => True.intro)
  have ea1 : (upd H s.heap.objs.size (exd s.heap.objs.size [])) a = some (exo a C none) := by rw [upd_ne (Ne.symm hna)]; exact e
  have ho1 := old _ _ ho
  generalize hG : (s.heap.push (PySem.W.dictOf [] 0)).update a (fun o => { o with dict := some s.heap.objs.size }) = G
  have hxG : G.get? a = some { cls := .ref C, dict := some s.heap.objs.size, data := .fields #[.ref t1, .none, .none, .none, .bool false, .none] } := by
    rw [← hG]
    exact Heap.get?_update_self _ ho1 rfl
  have keepG : ∀ b o, b ≠ a → (s.heap.push (PySem.W.dictOf [] 0)).get? b = some o → G.get? b = some o := fun b o n q => by
    rw [← hG]
    exact (Heap.get?_update_ne _ _ _ _ n).trans q
  have J2 : Inv X pins σ (upd (upd H s.heap.objs.size (exd s.heap.objs.size [])) a (exo a C (some s.heap.objs.size))) { s with heap := G } :=
    J1.write (t' := s.toks) (x := a) (e := a) (by rw [ea1]; exact True.intro) (.inl rfl) keepG ⟨_, hxG⟩ (exo_ok hxG)
  have voidG : G.Ns s.heap.objs.size (fun _ => none) := ⟨_, #[], _, keepG _ _ hna at1, rfl, (fun _ q => absurd q (by simp)), fun _ => rfl⟩
  refine PySem.HandSPX.store_in_new voidG fun h' tk' hn' hs => ?_
  have ed2 : (upd (upd H s.heap.objs.size (exd s.heap.objs.size [])) a (exo a C (some s.heap.objs.size))) s.heap.objs.size = some (exd s.heap.objs.size []) := by rw [upd_ne hna]; exact upd_same
  have there : ∃ o, h'.get? s.heap.objs.size = some o := let ⟨o, _, _, q, _⟩ := hn'; ⟨o, q⟩
  have J3 := J2.write (t' := tk') (x := s.heap.objs.size) (e := s.heap.objs.size) (o := exd s.heap.objs.size [(f, y)]) (by rw [ed2]; exact True.intro) (.inl rfl) (fun b o n q => (hs.2 b n).trans q) there
    (exd_ok hn' (relO_put (fs := []) ry fun _ => True.intro))
  have same : upd (upd (upd H s.heap.objs.size (exd s.heap.objs.size [])) a (exo a C (some s.heap.objs.size))) s.heap.objs.size (exd s.heap.objs.size [(f, y)]) = upd (upd H s.heap.objs.size (exd s.heap.objs.size [(f, y)])) a (exo a C (some s.heap.objs.size)) := by
    funext b
    by_cases q1 : b = s.heap.objs.size
    · rw [q1, upd_same, upd_ne hna, upd_same]
    · rw [upd_ne q1]
      by_cases q2 : b = a
      · rw [q2, upd_same, upd_same]
      · rw [upd_ne q2, upd_ne q1, upd_ne q2, upd_ne q1]
  rw [same] at J3
  exact h _ _ hn hna J3
end
def kOst (K : PySem.W.Frag) (f : Str) (y x : V) (H : Hp) (q : Hp → Prop) : Prop := ∃ a C : Addr, x = .ref a ∧ OexL K C ∧ NoAttr K C f ∧ H a = some (exo a C none) ∧ ∀ dx, H dx = none → dx ≠ a → q (upd (upd H dx (exd dx [(f, y)])) a (exo a C (some dx)))
/-- self.f = e, self an exception that is being made -/
def tOstL (K : PySem.W.Frag) (f : Str) (to te : TE) : TS := fun D σ H => te σ H fun y H1 => to σ H1 fun x H2 => kOst K f y x H2 (D.nx σ)
/-- C(e, ..), C over LookupError, its __init__ keeping sp -/
def tMkL (C : Addr) (sp : Sp) (ta : TA) : L2.St → Hp → XK → Prop := fun σ H Q => ta σ H fun vs H1 => vs.length ≤ 1000 ∧ ∀ a, H1 a = none →
  sp (.ref a :: vs) (upd H1 a (exo a C none)) (fun v H2 => v = .non ∧ ∃ (d : Addr) (fs : List (Str × V)), H2 a = some (exo a C (some d)) ∧ H2 d = some (exd d fs) ∧ H1 d = none ∧ Q (.ref C) (some d) (upd (L2.del H2 a) d (.xd fs))) (fun _ _ _ => False)
section
variable {X : Cx} {K : PySem.W.Frag} {o e : Expr} {es : List Expr} {to te : TE} {ta : TA} {f : Str} {p p' pos : Pos}
theorem ps_ostL (hK : X.K = K) (ho : PE X o to) (he : PE X e te) (hs : swapsWith e (some (.Attribute o f p')) pos.line X.env = pure false) : PS X (.Assign [.Attribute o f p'] e pos) (tOstL K f to te) := by
  subst hK
  refine ⟨fun pins s σ H D I h => plainObj_wpAny_Assign_Attribute (thn (he.run pins s σ H _ I h) fun v s1 hv => ?_) hs⟩
  obtain ⟨y, H1, I1, r1, q1⟩ := hv
  refine thn (ho.run pins s1 σ H1 _ I1 q1) fun u s2 hu => ?_
  obtain ⟨x, H2, I2, r2, a, C, ex, T, n, ea, q⟩ := hu
  subst ex
  cases (show u = Value.ref a from r2)
  exact ostL_new T I2 ea n r1 fun dx s' n ne J => ⟨σ, _, J, q dx n ne⟩
theorem pmk_L {x : Str} {C fI : Addr} {k : Nat} {fd : FuncData} {ps : List Str} {sp : Sp} (T : OexL X.K C) (iC : PySem.W.findIn X.K (.ref C) "__init__" = some (some (.ref fI))) (tI : PySem.W.typeIn X.K (.ref fI) = some (.type "function"))
    (F1 : FnOk X.prog X.w X.K X.mg X.base C8.CX0 k fI fd ps sp) (hr : Room (k + 1) X.A) (hb : Binds X.K fd ps []) (hg : Gl X x) (hm : X.mg x = some (.ref C)) (ha : PA X (e :: es) ta)
    (hdb :
            (x == ("__debug__" : Str)) = false := by decide) (he : starEach (e :: es) X.env = (false, eval e X.env) :: starEach es X.env := by rfl) (hpl : (backTo pos (starEach es X.env)).any (·.1) = false := by rfl) :
    PMk X (.Call (.Name x p) (e :: es) [] pos) (tMkL C sp ta) := by
  intro pins s σ H Q I h
  refine wpAny_Call_Name_kw
          (ld_glob I hg hm ?_ hdb)
  refine PySem.W.callWith_K (h₀ := X.base) I.ok.mod.kin T.kC (thn (ha.run pos pins s σ H _ I h) fun us s1 hu => ?_) he hpl
  obtain ⟨vs, H1, I1, r1, hz, q1⟩ := hu
  refine ⟨I1.kIn, ?_⟩
  show wpAny _ _
          (call (.ref C) us) _ _ _
  obtain ⟨hp,
          g, dr, tk, os⟩ := s1
  obtain ⟨nm, N, qn, bs, bm, hdct, sn, sub, ab, col, dd, k0, k1, k2, k3, k5, hC, hT⟩ := PySem.W.excInit_of I1.kIn T.cls
  have new : hp.objs.size ≤ hp.objs.size + 1 := Nat.le_succ _
  have hq := q1 _ (I1.hok.fresh new)
  have kk : ∀ b u, hp.get? b = some u → ((hp.push (PySem.W.kdv_tup us)).push (PySem.HandSPX.excO C hp.objs.size)).get? b = some u := fun b u z => Heap.get?_push_of_some _ (Heap.get?_push_of_some _ z)
  have hget :
          ((hp.push (PySem.W.kdv_tup us)).push (PySem.HandSPX.excO C hp.objs.size)).get? (hp.objs.size + 1) = some (PySem.HandSPX.excO C hp.objs.size) := by heap_get
  have I2 : Inv X pins σ (upd H1 (hp.objs.size + 1) (exo (hp.objs.size + 1) C none)) ⟨(hp.push (PySem.W.kdv_tup us)).push (PySem.HandSPX.excO C hp.objs.size), g, dr, tk, os⟩ := I1.laid (t' := tk) kk new (exo_ok hget)
  have r2 : Vals
          (V.ref (hp.objs.size + 1) :: vs) (Value.ref (hp.objs.size + 1) :: us) := .cons rfl r1
  have hl : (Value.ref (hp.objs.size + 1) :: us).length = ps.length := r2.length.symm.trans (F1.len _ _ _ _ hq)
  have hus : us.length ≤
          sizeLine := by
    rw [← Paired.length r1]
    exact Nat.le_trans hz (by decide)
  have bnd := hb _ (Value.ref (hp.objs.size + 1) :: us) I2.kIn (by rw [List.append_nil]; exact hl)
  rw [List.append_nil] at bnd
  have go := F1.run _ X.stack _ _ ⟨Value.ref (hp.objs.size + 1) :: us, []⟩ (Value.ref (hp.objs.size + 1) :: us) _ _ (fun _ _ _ => False) (hr.make C us []) (I2.env0.make C us []) bnd r2 hq
  refine wpAny_call (PySem.HandSPX.call_own PySem.F.excBase_LookupError hT hC (PySem.W.looks_findIn I1.kIn iC) (fun self => PySem.W.bind_fn I1.kIn self tI) hus (codeAny_mono go fun r s' hq' => ?_))
  cases r with
  | error er => exact hq'.elim
  | ok fl =>
    cases fl with
    | ret u =>
      obtain ⟨v,
              H2, os2, bare2, un2, hok2, rv, ev, d, fs, ea, ed, hd1, q2⟩ := hq'
      subst ev
      obtain ⟨h2,
              g2, d2, t2, os'⟩ := s'
      exact ⟨rv, mk_end (raises_own T.exC T.tyC) I1 new kk un2 hok2 os2 bare2 ea ed hd1 q2⟩
    | next => exact hq'.elim
    | brk => exact hq'.elim
    | cont => exact hq'.elim
end
/-- raise C(..) -/
def tRaiseL (C : Addr) (sp : Sp) (ta : TA) (E : XK) : TS := fun _ σ H => tMkL C sp ta σ H fun cls d H' => E cls d H'
theorem ps_raiseL {X : Cx} {ex : Expr} {C : Addr} {sp : Sp} {ta : TA} {E : XK} {pos : Pos} (hc : X.calm = true) (tk : Takes X fun cls d _ H => E cls d H) (h : PMk X ex (tMkL C sp ta)) : PS X (.Raise (some ex) none pos) (tRaiseL C sp ta E) := ps_raise hc tk h
theorem w_ostL {K : PySem.W.Frag} {f : Str} {to te : TE} {D : Ends} {σ : L2.St} {H : Hp} (h : te σ H fun y H1 => to σ H1 fun x H2 => kOst K f y x H2 (D.nx σ)) : tOstL K f to te D σ H := h
theorem w_raiseL {C : Addr} {sp : Sp} {ta : TA} {E : XK} {D : Ends} {σ : L2.St} {H : Hp} (h : ta σ H fun vs H1 => vs.length ≤ 1000 ∧ ∀ a, H1 a = none →
    sp (.ref a :: vs) (upd H1 a (exo a C none)) (fun v H2 => v = .non ∧ ∃ (d : Addr) (fs : List (Str × V)), H2 a = some (exo a C (some d)) ∧ H2 d = some (exd d fs) ∧ H1 d = none ∧ E (.ref C) (some d) (upd (L2.del H2 a) d (.xd fs))) (fun _ _ _ => False)) : tRaiseL C sp ta E D σ H := h
theorem fnX {P : Program} {w : World} {K : PySem.W.Frag} {mg : Str → Option Value} {base : Heap} {x qual : Str} {st : Stmt} {f : Addr} {fd : FuncData} {N ps : List Str} {k : Nat} {sp : Sp} (F : C8.Fun K x qual st f fd) (S : FnScope N ps (C8.fnScope st)) (len : ∀ vs H Q E, sp vs H Q E → vs.length = ps.length)
    (hb : ∀ (cdv : Value) (A : Around) (outer : List Env) (s : Shared) (H : Hp) (vs : List V) (Q : VK) (E : XK), Room k (A.deeper (PyProof.Rows.envOfC qual (C8.fnScope st) s.heap.objs.size f cdv)) → sp vs H Q E →
      ∃ t, PSs (cxOf (L2.CX P w) P w K mg base N qual (C8.fnScope st) f cdv A outer s H E) (C8.fnBody st) t ∧ t { nx := fun _ H' => Q .non H', rt := Q } (L2.start N vs) H) : FnOk P w K mg base (L2.CX P w) (k + 1) f fd ps sp := by
  obtain ⟨oc,
          od, dV, kV, doc, pm, an, cdv, ct, osl, rfl, lk, hcd⟩ := F.ex
  exact fn_of lk hcd S len fun A outer s H vs Q E hr hsp => hb cdv A outer s H vs Q E hr hsp
/-- what a class over LookupError with one field is, all in one -/
def spExI (C : Addr) (f : Str) : Sp := fun vs H Q _ => ∃ (a : Addr) (v : V), vs = [.ref a, v] ∧ H a = some (exo a C none) ∧ ∀ dx, H dx = none → dx ≠ a → Q .non (upd (upd H dx (exd dx [(f, v)])) a (exo a C (some dx)))
structure ExC (P : Program) (w : World) (K : PySem.W.Frag) (mg : Str → Option Value) (base : Heap) (x : Str) (C fI : Addr) (fd : FuncData) (ps : List Str) (k : Nat) (sp : Sp) : Prop where
  T : OexL K C
  iC : PySem.W.findIn K (.ref C) "__init__" = some (some (.ref fI))
  tI : PySem.W.typeIn K (.ref fI) = some (.type "function")
  F : FnOk P w K mg base C8.CX0 k fI fd ps sp
  b : Binds K fd ps []
  mgC : mg x = some (.ref C)
end LP
namespace LP
open PySem L2
/-! ### isinstance(e, ..), e an own exception that the suite holds, with its dict -/
structure ExcK (K : PySem.W.Frag) (D : Addr) : Prop where
  hg : PySem.W.findIn K
          (.ref D) "__getattribute__" = some (some (.builtin "BaseException.__getattribute__"))
  hk : PySem.W.findIn K
          (.ref D) "__getattr__" = some none
  hs : PySem.W.subIn K
          (.ref D) (.type "BaseException") = some true
  hc : (PySem.W.clsIn K D).isSome = true
  ha : PySem.W.findIn K
          (.ref D) "__class__" = some (some (.builtin "object.__class__"))
  hn : PySem.W.specialIn K
          (.builtin "object.__class__") "__get__" = some (some (.builtin "getset_descriptor.__get__"))
  ht : PySem.W.takesIn K
          (.builtin "object.__class__") = some true
  hm : PySem.W.mroIn K D
          (.type "object") = some true
def kDict (cls : Value) (d : Option Addr) (D : Addr) (H : Hp) : Prop := cls = .ref D ∧ ∃ (dd : Addr) (fs : List (Str × V)), d = some dd ∧ H dd = some (.xd fs)
/-- one class -/
def rIsX (K : PySem.W.Frag) (D a : Addr) (cls : Value) (d : Option Addr) : List V → Hp → VK → Prop := fun xs H Q => ∃ (c : V) (u : Value) (b : Bool), xs = [.ref a, c] ∧ kDict cls d D H ∧ ClsV c u ∧ PySem.W.kitOne K (.ref D) u = some b ∧ Q (.bl b) H
/-- a tuple of classes -/
def rIsXT (K : PySem.W.Frag) (D a : Addr) (cls : Value) (d : Option Addr) : List V → Hp → VK → Prop := fun xs H Q => ∃ (tp : Addr) (cs : List V) (us : List Value) (b : Bool), xs = [.ref a, .ref tp] ∧ kDict cls d D H ∧ H tp = some (.tup cs) ∧ Paired ClsV cs us ∧
  PySem.W.kitAny K (.ref D) us = some b ∧ Q (.bl b) H
section
variable {X : Cx} {a D : Addr} {oe : Obj} {cls : Value} {d : Option Addr} {pn pins : List (Addr × Obj)} {σ : L2.St} {H : Hp} {s : Shared}
theorem inst_x (I : Inv (X.suite a ((a, oe) :: pn)) pins σ H s) (k : kDict cls d D H) (hz : Zc cls d oe) (hf : ∃ vs, oe.data = .fields vs) : ∃ od, PySem.W.InstAt s.heap a oe D (some od) := by
  obtain ⟨ec, dd, fs, ed, ea⟩ := k
  subst ec ed
  obtain ⟨at_, _⟩ := I.pin (a, oe) (List.mem_append_left _ List.mem_cons_self)
  obtain ⟨vs, hv⟩ := hf
  have hx : ObjOk X.prog X.w H s.heap dd (.xd fs) := I.hok dd _ ea
  obtain ⟨mA, hns, _⟩ := hx
  obtain ⟨od, ho, _⟩ := lookIn_ns hns
  exact ⟨od, at_, hz.1, by unfold PySem.W.notCls; rw [hv] <;> rfl, by rw [hz.2]; exact ho⟩
theorem call_isX (C : ExcK X.K D) (hz : Zc cls d oe) (hf : ∃ vs, oe.data = .fields vs) : CallR (X.suite a ((a, oe) :: pn)) (.builtin "isinstance") (rIsX X.K D a cls d) := by
  intro pins s σ H xs us Q I r h; obtain ⟨c, u, b, rfl, k, cv, e, q⟩ := h
  obtain ⟨u1,
          u2, rfl, r1, r2⟩ := vals2 r
  cases (show u1 =
          Value.ref a from r1)
  have e2 := cv.eq r2
  subst e2
  obtain ⟨od, J⟩ := inst_x I k hz hf
  exact PySem.W.kia_one (PySem.W.kitx_exc C.hc C.hg C.hk C.hs C.ha C.hn C.ht C.hm) I.kIn J e (fun z => nomatch z) fun tk => ⟨.bl b, H, I.tok tk, rfl, q⟩
theorem call_isXT (C : ExcK X.K D) (hz : Zc cls d oe) (hf : ∃ vs, oe.data = .fields vs) : CallR (X.suite a ((a, oe) :: pn)) (.builtin "isinstance") (rIsXT X.K D a cls d) := by
  intro pins s σ H xs us Q I r h; obtain ⟨tp, cs, ws, b, rfl, k, hT, cv, e, q⟩ := h
  obtain ⟨u1,
          u2, rfl, r1, r2⟩ := vals2 r
  cases (show u1 =
          Value.ref a from r1)
  cases (show u2 =
          Value.ref tp from r2)
  obtain ⟨od, J⟩ := inst_x I k hz hf
  obtain ⟨_,
          its, rv, o, h1, h2, n, h3⟩ := (show ObjOk X.prog X.w H s.heap tp (.tup cs) from I.hok tp _ hT)
  have e3 := ClsV.all cv rv
  subst e3
  obtain ⟨oc, od', dt, sl⟩ := o
  simp only at h2 h3
  subst h2 h3
  exact PySem.W.kia_tup (PySem.W.kitx_exc C.hc C.hg C.hk C.hs C.ha C.hn C.ht C.hm) I.kIn J h1 e (fun z => nomatch z) fun tk => ⟨.bl b, H, I.tok tk, rfl, q⟩
end
end LP
namespace LP
open PySem L2
/-! ### an own exception over ValueError with two fields -/
def spEx2 (C : Addr) (f g : Str) : Sp := fun vs H Q _ => ∃ (a : Addr) (v u : V), vs = [.ref a, v, u] ∧ H a = some (exo a C none) ∧ ∀ dx, H dx = none → dx ≠ a → Q .non (upd (upd (upd H dx (exd dx [(f, v)])) a (exo a C (some dx))) dx (exd dx [(g, u), (f, v)]))
structure ExV (P : Program) (w : World) (K : PySem.W.Frag) (mg : Str → Option Value) (base : Heap) (x : Str) (C fI : Addr) (fd : FuncData) (ps : List Str) (k : Nat) (sp : Sp) : Prop where
  T : OexC K C
  iC : PySem.W.findIn K (.ref C) "__init__" = some (some (.ref fI))
  tI : PySem.W.typeIn K (.ref fI) = some (.type "function")
  F : FnOk P w K mg base C8.CX0 k fI fd ps sp
  b : Binds K fd ps []
  mgC : mg x = some (.ref C)
/-- self.f = e, self an exception that is being made -/
def kOs2 (K : PySem.W.Frag) (f : Str) (y x : V) (H : Hp) (q : Hp → Prop) : Prop := ∃ a C : Addr, x = .ref a ∧ OexC K C ∧ PySem.W.findIn K (.ref C) f = some none ∧
  ((H a = some (exo a C none) ∧ ∀ dx, H dx = none → dx ≠ a → q (upd (upd H dx (exd dx [(f, y)])) a (exo a C (some dx)))) ∨
    ∃ (dx : Addr) (fs : List (Str × V)), H a = some (exo a C (some dx)) ∧ H dx = some (exd dx fs) ∧ fs.length ≤ 900 ∧ q (upd H dx (exd dx ((f, y) :: fs))))
def tOs2 (K : PySem.W.Frag) (f : Str) (to te : TE) : TS := fun D σ H => te σ H fun y H1 => to σ H1 fun x H2 => kOs2 K f y x H2 (D.nx σ)
theorem ps_os2 {X : Cx} {K : PySem.W.Frag} {o e : Expr} {to te : TE} {f : Str} {p' pos : Pos} (hK : X.K = K) (ho : PE X o to) (he : PE X e te) (hs : swapsWith e (some (.Attribute o f p')) pos.line X.env = pure false := by rfl) : PS X (.Assign [.Attribute o f p'] e pos) (tOs2 K f to te) := hK ▸ ps_ost ho he hs
theorem w_os2 {K : PySem.W.Frag} {f : Str} {to te : TE} {D : Ends} {σ : L2.St} {H : Hp} (h : te σ H fun y H1 => to σ H1 fun x H2 => kOs2 K f y x H2 (D.nx σ)) : tOs2 K f to te D σ H := h
/-- C(..) that is raised -/
def tMkV (C : Addr) (sp : Sp) (ta : TA) : L2.St → Hp → XK → Prop := fun σ H Q => ta σ H fun vs H1 => vs.length ≤ 1000 ∧ ∀ a, H1 a = none →
  sp (.ref a :: (vs ++ [])) (upd H1 a (exo a C none)) (fun v H2 => v = .non ∧ ∃ (d : Addr) (fs : List (Str × V)), H2 a = some (exo a C (some d)) ∧ H2 d = some (exd d fs) ∧ H1 d = none ∧ Q (.ref C) (some d) (upd (L2.del H2 a) d (.xd fs))) (fun _ _ _ => False)
def tRaiseV (C : Addr) (sp : Sp) (ta : TA) (E : XK) : TS := fun _ σ H => tMkV C sp ta σ H fun cls d H' => E cls d H'
theorem pmk_V {X : Cx} {e : Expr} {es : List Expr} {ta : TA} {p pos : Pos} {x : Str} {C fI : Addr} {k j : Nat} {fd : FuncData} {ps : List Str} {sp : Sp} (c : ExV X.prog X.w X.K X.mg X.base x C fI fd ps k sp) (hr : Room j X.A) (hk : k + 1 ≤ j) (hg : Gl X x) (ha : PA X (e :: es) ta)
    (hdb :
            (x == ("__debug__" : Str)) = false := by decide) (he : starEach (e :: es) X.env = (false, eval e X.env) :: starEach es X.env := by rfl) (hpl : (backTo pos (starEach es X.env)).any (·.1) = false := by rfl) :
    PMk X (.Call (.Name x p) (e :: es) [] pos) (tMkV C sp ta) := pmk_oex (dvs := []) (ds := []) c.T c.iC c.tI c.F (hr.mono hk) c.b .nil C8.pass0 hg c.mgC ha hdb he hpl
theorem ps_raiseV {X : Cx} {ex : Expr} {C : Addr} {sp : Sp} {ta : TA} {E : XK} {pos : Pos} (hc : X.calm = true) (tk : Takes X fun cls d _ H => E cls d H) (h : PMk X ex (tMkV C sp ta)) : PS X (.Raise (some ex) none pos) (tRaiseV C sp ta E) := ps_raise hc tk h
theorem w_raiseV {C : Addr} {sp : Sp} {ta : TA} {E : XK} {D : Ends} {σ : L2.St} {H : Hp} (h : ta σ H fun vs H1 => vs.length ≤ 1000 ∧ ∀ a, H1 a = none →
    sp (.ref a :: (vs ++ [])) (upd H1 a (exo a C none)) (fun v H2 => v = .non ∧ ∃ (d : Addr) (fs : List (Str × V)), H2 a = some (exo a C (some d)) ∧ H2 d = some (exd d fs) ∧ H1 d = none ∧ E (.ref C) (some d) (upd (L2.del H2 a) d (.xd fs))) (fun _ _ _ => False)) : tRaiseV C sp ta E D σ H := h
/-- what a def wishes that may refuse with two values -/
def Bad2 (C : Addr) (f g : Str) (v u : V) (H : Hp) (E : XK) : Prop := ∀ (dd : Addr) (H' : Hp), (∀ b o, H b = some o → H' b = some o) → H' dd = some (.xd [(g, u), (f, v)]) → E (.ref C) (some dd) H'
theorem raised2 {H : Hp} {C : Addr} {f g : Str} {v u : V} {E : XK} (k : Bad2 C f g v u H E) (a : Addr) (ha : H a = none) : spEx2 C f g [.ref a, v, u] (upd H a (exo a C none))
    (fun x H2 => x = .non ∧ ∃ (d : Addr) (fs : List (Str × V)), H2 a = some (exo a C (some d)) ∧ H2 d = some (exd d fs) ∧ H d = none ∧ E (.ref C) (some d) (upd (L2.del H2 a) d (.xd fs))) (fun _ _ _ => False) := by
  refine ⟨a, v, u, rfl, upd_same, fun dx hdx ne => ⟨rfl, dx, _, by rw [upd_ne ne.symm]; exact upd_same, upd_same, ?_, ?_⟩⟩
  · rw [upd_ne ne] at hdx
    exact hdx
  · rw [upd_ne ne] at hdx
    refine k dx _ (fun b o hb => ?_) upd_same
    have b1 : b ≠ dx := ne_of_none hb hdx
    have b2 : b ≠ a := ne_of_none hb ha
    rw [upd_ne b1, L2.del_ne b2, upd_ne b1, upd_ne b2, upd_ne b1, upd_ne b2]
    exact hb
/-! ### calls that may raise -/
structure CalX (P : Program) (w : World) (K : PySem.W.Frag) (mg : Str → Option Value) (base : Heap) (k : Nat) (x : Str) (sp : Sp) : Prop where
  ex : ∃ (f : Addr) (fd : FuncData) (ps : List Str), FnOk P w K mg base (L2.CX P w) k f fd ps sp ∧ mg x = some (.ref f) ∧ PySem.W.keepIn K (.ref f) = true ∧ Binds K fd ps []
structure MakX (P : Program) (w : World) (K : PySem.W.Frag) (mg : Str → Option Value) (base : Heap) (k : Nat) (x : Str) (C : Addr) (sp : Sp) : Prop where
  ex : ∃ (f : Addr) (fd : FuncData) (ps : List Str), Mk K C f ∧ FnOk P w K mg base (L2.CX P w) k f fd ps sp ∧ mg x = some (.ref C) ∧ Binds K fd ps []
section
variable {X : Cx} {k j : Nat} {x : Str} {C : Addr} {sp : Sp} {E : XK} {e : Expr} {es : List Expr} {p pos : Pos} {t : TA}
theorem pe_cx (c : CalX X.prog X.w X.K X.mg X.base k x sp) (hr : Room j X.A) (hk : k ≤ j) (hx : Passes (L2.CX X.prog X.w) X E) (hg : Gl X x) (ha : PA X (e :: es) t)
    (hdb :
            (x == ("__debug__" : Str)) = false := by decide) (he : starEach (e :: es) X.env = (false, eval e X.env) :: starEach es X.env := by rfl) (hpl : (backTo pos (starEach es X.env)).any (·.1) = false := by rfl) :
    PE X (.Call (.Name x p) (e :: es) [] pos) (tCall sp [] E t) := by
  obtain ⟨f, fd, ps, F, hm, kp, b⟩ := c.ex
  exact pe_call F (hr.mono hk) hg hm kp b .nil hx ha hdb he hpl
theorem pe_mkx (c : MakX X.prog X.w X.K X.mg X.base k x C sp) (hr : Room j X.A) (hk : k + 1 ≤ j) (hx : Passes (L2.CX X.prog X.w) X E) (hg : Gl X x) (ha : PA X (e :: es) t)
    (hdb :
            (x == ("__debug__" : Str)) = false := by decide) (he : starEach (e :: es) X.env = (false, eval e X.env) :: starEach es X.env := by rfl) (hpl : (backTo pos (starEach es X.env)).any (·.1) = false := by rfl) :
    PE X (.Call (.Name x p) (e :: es) [] pos) (tMake C sp [] E t) := by
  obtain ⟨f, fd, ps, M, F, hm, b⟩ := c.ex
  exact pe_make M F (hr.mono hk) hg hm b .nil hx ha hdb he hpl
theorem passE {X : Cx} {E : XK} (tk : Takes X fun cls d _ H => E cls d H) : Passes (L2.CX X.prog X.w) X E := passes_call tk fun _ _ _ _ h => h
end
/-! ### the class, told by its record -/
def oxcB (K : PySem.W.Frag) (C : Addr) : Bool := match K.lookup C with
  | some ⟨.type "type",
          _, .cls cd, sl⟩ => (match cd.mro, sl.toList with
    | .ref C' :: bm, [_, _, _, _, some (.builtin n), _] => C' == C && (n == "ValueError.__new__" && (!cd.hasDel && (cd.hasDict && PySem.HandSPX.refsVE bm)))
    | _, _ => false)
  | _ => false
theorem oxcB_ok {K : PySem.W.Frag} {C : Addr} (q : oxcB K C = true) : ∃ nm qn N bs bm sn sub ab col dd k0 k1 k2 k3 k5, K.lookup C = some (PySem.excClassObj nm qn C N bs bm true sn sub ab col dd k0 k1 k2 k3 k5 "ValueError.__new__") ∧ PySem.HandSPX.refsVE bm = true := by
  unfold oxcB at q
  split at q
  · rename_i dd cd sl ho
    split at q
    · rename_i CR bm k0 k1 k2 k3 n k5 hm hs
      simp only [Bool.and_eq_true,
              beq_iff_eq, Bool.not_eq_true'] at q
      obtain ⟨rfl, rfl, hdel, hdc, hv⟩ := q
      obtain ⟨nm,
              bs, mro, ns, qn, hd, sn, sub, ab, col, del⟩ := cd
      dsimp only at hm hdel hdc
      subst hm hdel hdc
      have hsl : sl = #[k0, k1, k2, k3, some (.builtin "ValueError.__new__"), k5] := by
        obtain ⟨l⟩ := sl
        simp only at hs
        rw [hs]
      subst hsl
      exact ⟨nm, qn, ns, bs, bm, sn, sub, ab, col, dd, k0, k1, k2, k3, k5, ho, hv⟩
    · cases q
  · cases q
def oxvB (K : PySem.W.Frag) (x : Str) : Bool := oxcB K (He.ga K x) && (He.eqO (PySem.W.findIn K (.ref (He.ga K x)) "__setattr__") (some (some (.builtin "object.__setattr__"))) &&
  (decide (PySem.W.subIn K (.ref (He.ga K x)) (.type "BaseException") = some true) && (decide (PySem.W.typeIn K (.ref (He.ga K x)) = some (.type "type")) && PySem.W.keepIn K (.ref (He.ga K x)))))
theorem oxvB_ok {K : PySem.W.Frag} {x : Str} (h : oxvB K x = true) : OexC K (He.ga K x) := by
  obtain ⟨h1, h⟩ := He.ba h
  obtain ⟨h2, h⟩ := He.ba h
  obtain ⟨h3, h⟩ := He.ba h
  obtain ⟨h4, h5⟩ := He.ba h
  exact ⟨oxcB_ok h1, He.eqO_ok h2, of_decide_eq_true h3, of_decide_eq_true h4, h5⟩
end LP
namespace LP
open PySem L2
open Evl (Ex)
/-! ### tables that may break the rule of lists -/
structure PreTab (ts : Tabs) (t : Str × List Col) : Prop where
  nm : IsName t.1
  fr : t.1 ∉ ts.map (·.1)
  pre : PreCols ts t.2
  few : t.2.length ≤ 6
inductive PreTabs : Tabs → Prop where
  | nil : PreTabs []
  | snoc {ts : Tabs} {t : Str × List Col} : PreTabs ts → PreTab ts t → PreTabs (ts ++ [t])
theorem PreTabs.split : ∀ {ts : Tabs}, PreTabs ts → ∀ (td : Tabs) (t : Str × List Col) (tr : Tabs), ts = td ++ t :: tr → PreTabs td ∧ PreTab td t := by
  intro ts g
  induction g with
  | nil => intro td t tr e; cases td <;> cases e
  | @snoc ts x g hx ih =>
    intro td t tr e
    rcases List.eq_nil_or_concat tr with rfl | ⟨tr', z, rfl⟩
    · have e2 : ts ++ [x] = td ++ [t] := e
      obtain ⟨rfl, e3⟩ := List.append_inj' e2 rfl
      cases e3
      exact ⟨g, hx⟩
    · have e2 : ts ++ [x] = (td ++ t :: tr') ++ [z] := by rw [e]; simp
      obtain ⟨e3, e4⟩ := List.append_inj' e2 rfl
      exact ih td t tr' e3
theorem PreTabs.mem {ts : Tabs} (g : PreTabs ts) : ∀ t ∈ ts, ∃ td, PreTab td t := fun t ht => by
  obtain ⟨td, tr, e⟩ := List.append_of_mem ht
  exact ⟨td, (g.split td t tr e).2⟩
theorem PreTabs.names {ts : Tabs} (g : PreTabs ts) : ∀ t ∈ ts, IsName t.1 := fun t ht => let ⟨_, h⟩ := g.mem t ht; h.nm
theorem PreTabs.cols {ts : Tabs} (g : PreTabs ts) : ∀ t ∈ ts, t.2.length ≤ 6 := fun t ht => let ⟨_, h⟩ := g.mem t ht; h.few
theorem PreTabs.fewT {ts : Tabs} (g : PreTabs ts) (h : ts.length ≤ 20) : Few ts := ⟨h, fun t ht => Nat.le_trans (g.cols t ht) (by omega)⟩
theorem PreTabs.nodup {ts : Tabs} (g : PreTabs ts) : (ts.map (·.1)).Nodup := by
  induction g with
  | nil => exact List.nodup_nil
  | snoc g hx ih =>
    rw [List.map_append]; rw [List.nodup_append]
    refine ⟨ih, by simp, fun a ha b hb => ?_⟩
    simp only [List.map_cons,
            List.map_nil, List.mem_singleton] at hb
    rw [hb]
    rintro rfl
    exact hx.fr ha
theorem PreTab.low {ts : Tabs} {t : Str × List Col} (g : PreTabs ts) (h : PreTab ts t) : ∀ c ∈ t.2, c.Ok := fun c hc => by
  have nm := h.pre.nm c hc
  cases c with
  | plain f n => exact nm.ok
  | word n o => exact nm.ok
  | link n tg o l =>
    obtain ⟨t2, h2, e2⟩ := List.mem_map.mp (h.pre.tg _ hc rfl)
    exact ⟨nm.ok, by rw [show tg = t2.1 from e2.symm]; exact (g.names t2 h2).ok, fun x hx => (h.pre.ls _ hc x hx).ok⟩
theorem PreTabs.oks {ts : Tabs} (g : PreTabs ts) : ∀ t ∈ ts, ∀ c ∈ t.2, c.Ok := fun t ht => by
  obtain ⟨td, tr, e⟩ := List.append_of_mem ht
  obtain ⟨g1, h1⟩ := g.split td t tr e
  exact h1.low g1
/-! ### heavy and meeting are the same -/
theorem reach_from {ts : Tabs} {f : List Str} {x : Str} (h : x ∈ ts.foldr reachStep f) : ∃ y ∈ f, x ∈ ts.foldr reachStep [y] := by
  induction ts generalizing x with
  | nil => exact ⟨x, h, by simp⟩
  | cons t r ih =>
    rw [List.foldr_cons] at h
    by_cases h1 : t.1 ∈ r.foldr reachStep f
    · rw [reachStep_in h1] at h
      rcases List.mem_append.1 h with h | h
      · obtain ⟨y, hy, hx⟩ := ih h
        refine ⟨y, hy, ?_⟩
        rw [List.foldr_cons]
        by_cases h2 : t.1 ∈ r.foldr reachStep [y]
        · rw [reachStep_in h2]; exact List.mem_append.mpr (.inl hx)
        · rw [reachStep_out h2]; exact hx
      · obtain ⟨y, hy, hx⟩ := ih h1
        refine ⟨y, hy, ?_⟩
        rw [List.foldr_cons, reachStep_in hx]
        exact List.mem_append.mpr (.inr h)
    · rw [reachStep_out h1] at h
      obtain ⟨y, hy, hx⟩ := ih h
      refine ⟨y, hy, ?_⟩
      rw [List.foldr_cons]
      by_cases h2 : t.1 ∈ r.foldr reachStep [y]
      · rw [reachStep_in h2]; exact List.mem_append.mpr (.inl hx)
      · rw [reachStep_out h2]; exact hx
theorem reach_in {ts : Tabs} {f : List Str} {x : Str} (h : x ∈ ts.foldr reachStep f) : x ∈ f ∨ ∃ t ∈ ts, ∃ c ∈ t.2, c.isLink = true ∧ x = c.target := by
  induction ts generalizing x with
  | nil => exact .inl h
  | cons t r ih =>
    rw [List.foldr_cons] at h
    have up : x ∈ r.foldr reachStep f → x ∈ f ∨ ∃ t' ∈ t :: r, ∃ c ∈ t'.2, c.isLink = true ∧ x = c.target := fun h => by
      rcases ih h with h | ⟨t', ht, q⟩
      · exact .inl h
      · exact .inr ⟨t', List.mem_cons_of_mem _ ht, q⟩
    by_cases h1 : t.1 ∈ r.foldr reachStep f
    · rw [reachStep_in h1] at h
      rcases List.mem_append.1 h with h | h
      · exact up h
      · obtain ⟨c, hc, rfl⟩ := List.mem_map.mp h
        obtain ⟨hc, hl⟩ := List.mem_filter.mp hc
        exact .inr ⟨t, List.mem_cons_self, c, hc, hl, rfl⟩
    · rw [reachStep_out h1] at h
      exact up h
theorem GoodTabs.tgs {ts : Tabs} (g : GoodTabs ts) : ∀ t ∈ ts, ∀ c ∈ t.2, c.isLink = true → c.target ∈ ts.map (·.1) := by
  induction g with
  | nil => exact fun t h => absurd h List.not_mem_nil
  | snoc g hn hx hc ih =>
    intro t ht c hcm hl
    rw [List.map_append]
    rcases List.mem_append.1 ht with h | h
    · exact List.mem_append.mpr (.inl (ih t h c hcm hl))
    · rw [List.mem_singleton.1 h] at hcm
      exact List.mem_append.mpr (.inl (hc.tg c hcm hl))
theorem reach_names {ts : Tabs} (g : GoodTabs ts) {n x : Str} (h : x ∈ reach ts n) : x = n ∨ x ∈ ts.map (·.1) := by
  rcases reach_in h with h | ⟨t, ht, c, hc, hl, rfl⟩
  · exact .inl (List.mem_singleton.1 h)
  · exact .inr (g.tgs t ht c hc hl)
theorem meets_snoc {ts : Tabs} {t : Str × List Col} {n : Str} (hn : n ∈ ts.map (·.1)) (hx : t.1 ∉ ts.map (·.1)) : meets (ts ++ [t]) n = meets ts n := by
  unfold meets
  rw [meetMap_snoc]
  cases e : (meetMap ts).lookup n with
  | some b => rw [lookup_left e]
  | none =>
    have key : ∀ (m : List (Str × Bool)), n ∈ m.map (·.1) → m.lookup n ≠ none := fun m => by
      induction m with
      | nil => intro h; cases h
      | cons q r ih =>
        intro hq
        rw [List.lookup_cons]
        split
        · intro h; cases h
        · rename_i e
          rw [List.map_cons] at hq
          rcases List.mem_cons.1 hq with rfl | hq
          · simp at e
          · exact ih hq
    exact absurd e (key _ (by rw [meetMap_keys]; exact hn))
theorem meets_new {ts : Tabs} {t : Str × List Col} (hx : t.1 ∉ ts.map (·.1)) : meets (ts ++ [t]) t.1 = meetOf (meetMap ts) t.2 := by
  unfold meets
  rw [meetMap_snoc, lookup_app (by rw [meetMap_keys]; exact hx), List.lookup_cons, show (t.1 == t.1) = true from beq_self_eq_true _]
  cases meetOf (meetMap ts) t.2 <;> rfl
theorem heavy_up {ts : Tabs} (g : GoodTabs ts) : ∀ n x, x ∈ reach ts n → meets ts x = true → meets ts n = true := by
  induction g with
  | nil => intro n x h m; cases m
  | @snoc ts m cs g hm hx hc ih =>
    intro n x h hmx
    unfold reach at h
    rw [List.foldr_append, List.foldr_cons, List.foldr_nil] at h
    by_cases e : n = m
    · subst e
      rw [reachStep_in (by simp)] at h
      obtain ⟨y, hy, hxy⟩ := reach_from h
      rcases List.mem_append.1 hy with hy | hy
      · rw [List.mem_singleton.1 hy] at hxy
        rcases reach_in hxy with hxy | ⟨t, ht, c, hc', hl, rfl⟩
        · rw [List.mem_singleton.1 hxy] at hmx; exact hmx
        · have q := meets_heavy (g.snoc hm hx hc) c.target hmx
          have z := ih n c.target hxy (by rw [← meets_snoc (t := (n, cs)) (g.tgs t ht c hc' hl) hx]; exact hmx)
          exact absurd (by
            unfold meets at z
            cases e : (meetMap ts).lookup n with
            | none => rw [e] at z; cases z
            | some b =>
              have := PySem.mem_of_lookup e
              have : n ∈ (meetMap ts).map (·.1) := List.mem_map.mpr ⟨_, this, rfl⟩
              rw [meetMap_keys] at this
              exact this) hx
      · obtain ⟨c, hcm, rfl⟩ := List.mem_map.mp hy
        obtain ⟨hcm, hl⟩ := List.mem_filter.mp hcm
        have yn := hc.tg c hcm hl
        have xn : x ∈ ts.map (·.1) := by
          rcases reach_names g hxy with rfl | h
          · exact yn
          · exact h
        have my := ih c.target x hxy (by rw [← meets_snoc (t := (n, cs)) xn hx]; exact hmx)
        rw [show n = ((n, cs) : Str × List Col).1 from rfl, meets_new hx]
        unfold meetOf
        rw [Bool.or_eq_true, List.any_eq_true]
        refine .inr ⟨c, hcm, ?_⟩
        rw [hl, Bool.true_and]
        exact my
    · rw [reachStep_out (by simpa using fun z => e z.symm)] at h
      have hxn : x ∈ reach ts n := h
      rcases reach_names g hxn with rfl | xn
      · exact hmx
      · have mx : meets ts x = true := by rw [← meets_snoc (t := (m, cs)) xn hx]; exact hmx
        have mn := ih n x hxn mx
        have nn : n ∈ ts.map (·.1) := by
          unfold meets at mn
          cases e : (meetMap ts).lookup n with
          | none => rw [e] at mn; cases mn
          | some b =>
            have := PySem.mem_of_lookup e
            have : n ∈ (meetMap ts).map (·.1) := List.mem_map.mpr ⟨_, this, rfl⟩
            rw [meetMap_keys] at this
            exact this
        rw [meets_snoc (t := (m, cs)) nn hx]
        exact mn
theorem listed_meets {ts : Tabs} (g : GoodTabs ts) : ∀ t ∈ ts, isListed t.2 = true → meets ts t.1 = true := by
  induction g with
  | nil => exact fun t h => absurd h List.not_mem_nil
  | @snoc ts m cs g hm hx hc ih =>
    intro t ht hl
    rcases List.mem_append.1 ht with h | h
    · rw [meets_snoc (t := (m, cs)) (List.mem_map.mpr ⟨t, h, rfl⟩) hx]
      exact ih t h hl
    · rw [List.mem_singleton.1 h] at hl ⊢
      rw [meets_new (t := (m, cs)) hx]
      unfold meetOf
      rw [hl, Bool.true_or]
def leads' (td : Tabs) (c : Col) : Bool := c.isLink && ((meetMap td).lookup c.target == some true)
theorem heavy_eq {ts : Tabs} (g : GoodTabs ts) (c : Col) : isHeavy ts c = leads' ts c := by
  have e : leads' ts c = (c.isLink && meets ts c.target) := rfl
  rw [e]
  cases hl : c.isLink with
  | false => unfold isHeavy; rw [hl]; rfl
  | true =>
    rw [Bool.true_and]
    cases hm : meets ts c.target with
    | true => exact heavy_of g hl hm
    | false =>
      cases hh : isHeavy ts c with
      | false => rfl
      | true =>
        unfold isHeavy at hh
        rw [hl, Bool.true_and, List.any_eq_true] at hh
        obtain ⟨t, ht, h⟩ := hh
        rw [Bool.and_eq_true,
                decide_eq_true_eq] at h
        rw [heavy_up g c.target t.1 h.1 (listed_meets g t ht h.2)] at hm
        cases hm
/-! ### the first link that breaks the rule -/
def brkC (td : Tabs) (cs : List Col) (c : Col) : Bool := !(listedOf cs).isEmpty && (leads' td c && decide (listedOf cs ≠ [c]))
def brk (td : Tabs) (cs : List Col) : Option Nat := cs.findIdx? (brkC td cs)
def lawC (td : Tabs) (cs : List Col) (c : Col) : Bool := !(listedOf cs).isEmpty && (isHeavy td c && (c.lst.isNone || decide (1 < (listedOf cs).length)))
theorem law_brk {td : Tabs} {cs : List Col} (g : GoodTabs td) : ∀ c ∈ cs, lawC td cs c = brkC td cs c := by
  intro c hc
  unfold lawC brkC
  rw [heavy_eq g]
  by_cases hl : leads' td c = true
  · rw [hl, Bool.true_and, Bool.true_and]
    congr 1
    by_cases h1 : listedOf cs = [c]
    · have hs : c.lst.isSome = true := (List.mem_filter.mp (show c ∈ listedOf cs by rw [h1]; exact List.mem_cons_self)).2
      have : c.lst.isNone = false := by cases h : c.lst <;> simp [h] at hs ⊢
      rw [h1, this]
      simp
    · rw [decide_eq_true h1]
      cases e : c.lst with
      | none => rfl
      | some l =>
        have hm : c ∈ listedOf cs := List.mem_filter.mpr ⟨hc, by rw [e]; rfl⟩
        have : 1 < (listedOf cs).length := by
          match q : listedOf cs with
          | [] => rw [q] at hm; cases hm
          | [x] =>
            rw [q] at hm h1
            exact absurd (by rw [List.mem_singleton.1 hm]) h1
          | x :: y :: r => simp
        rw [decide_eq_true this]
        rfl
  · have : leads' td c = false := by simpa using hl
    rw [this]
    simp
theorem brk_none {td : Tabs} {cs : List Col} (h : brk td cs = none) : Rule6 td cs := by
  intro c hc hl hm hne
  have z := List.findIdx?_eq_none_iff.mp h c hc
  unfold brkC at z
  rw [show leads' td c = true from by show (c.isLink && meets td c.target) = true; rw [hl, hm]; rfl, Bool.true_and] at z
  have e1 : (!(listedOf cs).isEmpty) = true := by
    cases e : listedOf cs with
    | nil => exact absurd e hne
    | cons x r => rfl
  rw [e1, Bool.true_and, decide_eq_false_iff_not] at z
  exact Classical.not_not.mp z
theorem brk_some {td : Tabs} {cs : List Col} (g : Rule6 td cs) : brk td cs = none := by
  unfold brk
  rw [List.findIdx?_eq_none_iff]
  intro c hc
  unfold brkC
  cases hl : leads' td c with
  | false => simp
  | true =>
    have hl2 : (c.isLink && meets td c.target) = true := hl
    rw [Bool.and_eq_true] at hl2
    cases e : listedOf cs with
    | nil => simp
    | cons x r =>
      have := g c hc hl2.1 hl2.2 (by rw [e]; simp)
      rw [← e, this]
      simp
def dueFrom : Tabs → Tabs → Option (Nat × Nat)
  | _, [] => none
  | td, t :: tr => match brk td t.2 with
    | some i => some (td.length, i)
    | none => dueFrom (td ++ [t]) tr
def due (ts : Tabs) : Option (Nat × Nat) := dueFrom [] ts
theorem due_good {ts : Tabs} (g : PreTabs ts) (h : due ts = none) : GoodTabs ts := by
  have key : ∀ (tr td : Tabs), GoodTabs td → PreTabs (td ++ tr) → dueFrom td tr = none → GoodTabs (td ++ tr) := fun tr => by
    induction tr with
    | nil => intro td gd _ _; rw [List.append_nil]; exact gd
    | cons t tr ih =>
      intro td gd gp hd
      unfold dueFrom at hd
      cases e : brk td t.2 with
      | some i => rw [e] at hd; cases hd
      | none =>
        rw [e] at hd
        obtain ⟨_, pt⟩ := gp.split td t tr rfl
        have e2 : td ++ t :: tr = (td ++ [t]) ++ tr := by simp
        rw [e2] at gp ⊢
        obtain ⟨n, cs⟩ := t
        exact ih _ (gd.snoc pt.nm pt.fr ⟨pt.pre, pt.few, brk_none e⟩) gp hd
  exact key ts [] .nil g h
theorem due_of {ts : Tabs} (g : GoodTabs ts) : due ts = none := by
  have key : ∀ (tr td : Tabs), GoodTabs (td ++ tr) → dueFrom td tr = none := fun tr => by
    induction tr with
    | nil => intro td _; rfl
    | cons t tr ih =>
      intro td gp
      have q : ∀ {ts : Tabs}, GoodTabs ts → ∀ (td : Tabs) (t : Str × List Col) (tr : Tabs), ts = td ++ t :: tr → Rule6 td t.2 := by
        intro ts g
        induction g with
        | nil => intro td t tr e; cases td <;> cases e
        | @snoc ts n cs g hn hx hc ih =>
          intro td t tr e
          rcases List.eq_nil_or_concat tr with rfl | ⟨tr', z, rfl⟩
          · have e2 : ts ++ [(n, cs)] = td ++ [t] := e
            obtain ⟨rfl, e3⟩ := List.append_inj' e2 rfl
            cases e3
            exact hc.r6
          · have e2 : ts ++ [(n, cs)] = (td ++ t :: tr') ++ [z] := by rw [e]; simp
            obtain ⟨e3, e4⟩ := List.append_inj' e2 rfl
            exact ih td t tr' e3
      unfold dueFrom
      rw [brk_some (q gp td t tr rfl)]
      have e2 : td ++ t :: tr = (td ++ [t]) ++ tr := by simp
      rw [e2] at gp
      exact ih _ gp
  exact key ts [] g
/-- where it breaks: the tables ahead are good -/
theorem due_at {ts : Tabs} (g : PreTabs ts) {k i : Nat} (h : due ts = some (k, i)) : ∃ td t tr, ts = td ++ t :: tr ∧ td.length = k ∧ GoodTabs td ∧ PreTab td t ∧ brk td t.2 = some i := by
  have key : ∀ (tr td : Tabs), GoodTabs td → PreTabs (td ++ tr) → dueFrom td tr = some (k, i) → ∃ td' t tr', td ++ tr = td' ++ t :: tr' ∧ td'.length = k ∧ GoodTabs td' ∧ PreTab td' t ∧ brk td' t.2 = some i := fun tr => by
    induction tr with
    | nil => intro td _ _ hd; cases hd
    | cons t tr ih =>
      intro td gd gp hd
      obtain ⟨_, pt⟩ := gp.split td t tr rfl
      unfold dueFrom at hd
      cases e : brk td t.2 with
      | some j =>
        rw [e] at hd
        cases hd
        exact ⟨td, t, tr, rfl, rfl, gd, pt, e⟩
      | none =>
        rw [e] at hd
        have e2 : td ++ t :: tr = (td ++ [t]) ++ tr := by simp
        rw [e2] at gp ⊢
        obtain ⟨n, cs⟩ := t
        exact ih _ (gd.snoc pt.nm pt.fr ⟨pt.pre, pt.few, brk_none e⟩) gp hd
  exact key ts [] .nil g h
end LP
namespace LP
open PySem L2
/-! ### try: C(..) / except D as e: .. -/
def tTryMk (K : PySem.W.Frag) (c : Value) (i n : Nat) (ts : Addr → Value → Option Addr → TS) (C : Addr) (sp : Sp) (ta : TA) : TS := fun D σ H => ∃ Ech : XK, (∀ cls d σ' H', σ'.length = n → Ech cls d H' → wAs K c i ts (fun _ _ _ _ => False) D cls d σ' H') ∧
  ta σ H fun vs H1 => ∀ x dx, H1 x = none → H1 dx = none → dx ≠ x → sp (.ref x :: (vs ++ [])) (upd (upd H1 dx (.own x)) x (.ins C dx [])) (fun v H2 => v = .non ∧ D.nx σ H2) Ech
theorem ps_tryMk {X : Cx} {k j i n : Nat} {y x nm : Str} {C : Addr} {c : Value} {sp : Sp} {e : Expr} {es : List Expr} {p pos1 pos2 np pos' pos : Pos} {ta : TA} {b0 : Stmt} {suite : List Stmt} {ts : Addr → Value → Option Addr → TS}
    (cM : MakX X.prog X.w X.K X.mg X.base k y C sp) (hr : Room j X.A) (hk : k + 1 ≤ j) (hg : Gl X y) (hn : X.N.length = n) (hs : X.stack = X.env :: X.outer) (hf : X.env.frame = some X.env.locals) (hN : X.N.Nodup) (hi : X.N[i]? = some nm) (hln : X.env.kindOf nm = some .local) (hc : Names X x c)
    (ha : ∀ pn xe, PA (X.tr pn xe) (e :: es) ta) (hsu : ∀ (a : Addr) (oe : Obj) (cls : Value) (d : Option Addr) (pn : List (Addr × Obj)), Zc cls d oe → (∃ vs, oe.data = .fields vs) → PSs (X.suite a ((a, oe) :: pn)) (b0 :: suite) (ts a cls d))
    (hdb : (y == ("__debug__" : Str)) = false := by decide) (he : starEach (e :: es) X.env = (false, eval e X.env) :: starEach es X.env := by rfl) (hpl : (backTo pos1 (starEach es X.env)).any (·.1) = false := by rfl) :
    PS X (.Try [.Expr (.Call (.Name y p) (e :: es) [] pos1) pos2] [.ExceptHandler (some (.Name x np)) (some nm) (b0 :: suite) pos'] [] [] pos) (tTryMk X.K c i n ts C sp ta) := by
  refine ps_try_as (X := X) (i := i) (c := c) (tb := fun W D σ H => ∃ Ech : XK, (∀ cls d σ' H', σ'.length = n → Ech cls d H' → W cls d σ' H') ∧
    ta σ H fun vs H1 => ∀ x dx, H1 x = none → H1 dx = none → dx ≠ x → sp (.ref x :: (vs ++ [])) (upd (upd H1 dx (.own x)) x (.ins C dx [])) (fun v H2 => v = .non ∧ D.nx σ H2) Ech) (ts := ts) hs hf hN hi hln hc LamX.takes0 (fun W pn xe tk _ => ?_) hsu
  refine ⟨fun pins s' σ' H' D I q' => ?_⟩
  obtain ⟨Ech, hW, h3⟩ := q'
  have tk' : Takes (X.tr pn xe) (fun cls d σ H => σ.length = n → W cls d σ H) := fun u s' x => by
    obtain ⟨a, B1, sI, pins, σ, H, cls, d, e, I, x1, x2, x3, x4, x5, x6, w⟩ := x
    exact tk u s' ⟨a, B1, sI, pins, σ, H, cls, d, e, I, x1, x2, x3, x4, x5, x6, w (I.len.trans hn)⟩
  have pp : Passes (L2.CX (X.tr pn xe).prog (X.tr pn xe).w) (X.tr pn xe) Ech := passes_call tk' fun cls d σ H h l => hW cls d σ H l h
  exact (pss_one (ps_expr (pe_mkx (X := X.tr pn xe) (E := Ech) cM hr hk pp hg (ha pn xe) hdb he hpl))).run pins s' σ' H' D I h3
theorem w_tryMk {K : PySem.W.Frag} {c : Value} {i n : Nat} {ts : Addr → Value → Option Addr → TS} {C : Addr} {sp : Sp} {ta : TA} {D : Ends} {σ : L2.St} {H : Hp} (Ech : XK) (h : ∀ cls d σ' H', σ'.length = n → Ech cls d H' → wAs K c i ts (fun _ _ _ _ => False) D cls d σ' H')
    (q : ta σ H fun vs H1 => ∀ x dx, H1 x = none → H1 dx = none → dx ≠ x → sp (.ref x :: (vs ++ [])) (upd (upd H1 dx (.own x)) x (.ins C dx [])) (fun v H2 => v = .non ∧ D.nx σ H2) Ech) : tTryMk K c i n ts C sp ta D σ H := ⟨Ech, h, q⟩
end LP
namespace LP
open PySem.Spec PyProof.Rows PySem L2
/-! ### xs == [], whatever xs holds -/
def rEqE (K : PySem.W.Frag) : R2 := fun x y H Q => ∃ a p xs, x = .ref a ∧ y = .ref p ∧ SqL K H a xs ∧ SqL K H p [] ∧ Q (.bl xs.isEmpty) H
theorem op_eqE {X : Cx} (hu : X.A.units < cLine) : OpR X (compareOp .Eq) (rEqE X.K) := by
  intro pins s σ H x y v u Q I rx ry h; obtain ⟨a, p, xs, rfl, rfl, ha, hp, q⟩ := h
  cases rx
  cases ry
  obtain ⟨its, r1, ⟨o1, n1, h1, h2, h3, h4⟩, _⟩ := I.list ha
  obtain ⟨its2, r2, ⟨o2, n2, k1, k2, k3, k4⟩, _⟩ := I.list hp
  have l1 := r1.length
  have l2 : its2.length = 0 := r2.length.symm
  have hl : s.heap.IsList a its.toArray := ⟨o1, h1, h2, n1, h4⟩
  have hl2 : s.heap.IsList p its2.toArray := ⟨o2, k1, k2, n2, k4⟩
  cases xs with
  | nil =>
    have e0 : its.length = 0 := l1.symm
    have z := SeqAt.RcAt.lists (A := X.A) (e := fun _ => true) hl hl2 (by simp [e0, l2]) hu (fun j j1 _ => by simp [e0] at j1)
    rw [show (List.range its.toArray.size).all (fun _ => true) = true by simp] at z
    exact z X.prog X.w _ _ ⟨.bl true, H, I, rfl, q⟩
  | cons x r =>
    have e0 : its.length = r.length + 1 := l1.symm
    have z := SeqAt.RcAt.lists_lengths (A := X.A) hl hl2 (by simp [e0, l2]) hu
    exact z X.prog X.w _ _ ⟨.bl false, H, I, rfl, q⟩
theorem op_eqEK {X : Cx} {K : PySem.W.Frag} (hK : X.K = K) (hu : X.A.units < cLine) : OpR X (compareOp .Eq) (rEqE K) := hK ▸ op_eqE hu
theorem w_eqE {K : PySem.W.Frag} {H : Hp} {a p : Addr} {xs : List V} {Q : VK} (h : SqL K H a xs) (hp : SqL K H p []) (q : Q (.bl xs.isEmpty) H) : rEqE K (.ref a) (.ref p) H Q := ⟨a, p, xs, rfl, rfl, h, hp, q⟩
/-! ### xs[::-1] -/
theorem pe_revLK {X : Cx} {K : PySem.W.Frag} {e : Expr} {te : TE} {k : Nat} {p1 p2 p3 pos : Pos} (hK : X.K = K) (he : PE X e te) : PE X (.Subscript e (.Slice none none (some (.UnaryOp .USub (.Constant (.int 1) k p1) p2)) p3) pos) (tRevL K te) := hK ▸ pe_revL he
end LP
namespace LP
open PySem L2
/-! ### an instance of an own class beside ==, !=, in len and str -/
section
variable {M : Model} {prog : Program} {w : World} {A : Around} {E : Value → Shared → Prop} {s : Shared} {K : PySem.W.Frag} {x C f : Addr} {ox : Obj} {od : Option Obj}
/-- a special name that a builtin stands for -/
theorem bound_blt {name : Str} {id : String} {us : List Value} {Q : Option Value → Shared → Prop} (X : K.In s.heap) (I : PySem.W.InstAt s.heap x ox C od) (hs : PySem.W.findIn K (.ref C) name = some (some (.builtin id)))
    (hb : ∀ self, bindSpecial (.builtin id) self = pure (.builtin id, [self])) (h : wpAny M A (call (.builtin id) (.ref x :: us)) (fun v => Q (some v)) E s) : wpAny M A (callSpecialIfBound? (.ref x) name us) Q E s := by
  unfold callSpecialIfBound? bindSpecialIfBound?
  have look := PySem.W.looks_findIn (M := M) X hs
  have done : wpAny M A (call (.builtin id) ([.ref x] ++ us) >>= fun v => pure (some v)) Q E s := wpAny_bind (wpAny_mono h (fun _ _ q => wpAny_pure q) fun _ _ q => q)
  have bnd : PySem.W.Looks M s.heap (bindSpecial (.builtin id) (.ref x)) (.builtin id, [.ref x]) := PySem.W.Looks.of_pure (hb _)
  refine wpAny_holding (wpAny_bind (wpAny_bind (wpAny_bind (I.type.here (look.here ?_)))))
  refine wpAny_bind
          (wpAny_askSetting (wpAny_ite ?_))
  split
  · exact wpAny_bind (bnd.here (wpAny_pure done))
  · exact wpAny_tryCatch (wpAny_bind (bnd.here (wpAny_pure done)))
/-- what is wanted of a truth value, turned about -/
def Turned (Q : Value → Shared → Prop) (v : Value) (s' : Shared) : Prop := ∃ b : Bool, v = .bool b ∧ Q (.bool (!b)) s'
theorem ne_call {b : Value} {Q : Value → Shared → Prop} (hu : A.in1.units < cLine) (X : K.In s.heap) (I : PySem.W.InstAt s.heap x ox C od) (hm : PySem.W.mroIn K C (.type "object") = some true) (he : PySem.W.findIn K (.ref C) "__eq__" = some (some (.ref f)))
    (hf : PySem.W.isFn K (.ref f) = true) (h : wpAny (model prog w) A.in1 (call (.ref f) [.ref x, b]) (Turned Q) E s) : wpAny (model prog w) A (call (.builtin "object.__ne__") [.ref x, b]) Q E s := by
  refine wpAny_call (codeAny_call_builtin F.cmp_object.ne.plain F.cmpEntry_ne (PySem.W.check_slot (owner := "object") (n := "__ne__") (by decide +kernel) (by decide +kernel) (I.type.andThen (PySem.W.looks_mroIn X hm)) (F.cmpArgs_ne _ _) ?_))
  unfold Builtin.«object.__ne__»; refine wpAny_bind (wpAny_pure ?_)
  refine wpAny_bind
          (m := cRoomFor _ _) (wpAny_cRoomFor hu ?_)
  refine wpAny_bind (m := callSpecialIfBound? (.ref x) (Str.ofString "__eq__") [b]) (PySem.W.ifBound_K X I he hf (wpAny_mono h (fun r s' q => ?_) fun _ _ q => q))
  obtain ⟨k, rfl, q⟩ := q
  exact wpAny_bind (wpAny_truthy_bool (wpAny_pure q))
end
/-! ### promises run below a builtin -/
section
variable {X : Cx} {CX : CXT} {k : Nat} {C g : Addr} {sp : Sp} {E : XK} {fd : FuncData} {ps : List Str} {pins : List (Addr × Obj)} {σ : L2.St} {H : Hp} {s : Shared} {us : List Value} {vs : List V} {Q : VK} {A : Around}
/-- a def is called somewhere below the running body -/
theorem run_in (sb : L2.Sub X k A) (F : FnOk X.prog X.w X.K X.mg X.base CX k g fd ps sp) (hb : Binds X.K fd ps []) (hx : Passes CX X E) (I : Inv X pins σ H s) (r : Vals vs us) (h : sp vs H Q E) : wpAny (model X.prog X.w) A (call (.ref g) us) (EP X pins σ Q) X.xe s := by
  have fr : A.frames = X.A.frames := sb.fr
  have env : Env0 X.prog X.w X.K X.mg X.base A X.stack s H := by
    obtain ⟨a1, a2, a3, a4, a5, a6, a7, a8⟩ := I.env0
    exact ⟨by rw [fr]; exact a1, a2, a3, a4, a5, a6, a7, a8⟩
  have many : us.length = ps.length := by rw [← r.length]; exact F.len _ _ _ _ h
  have to : BindsTo s fd ⟨us, []⟩ (ps.zip us) := by
    have z := hb s us I.kIn (by rw [List.append_nil]; exact many)
    rw [List.append_nil] at z
    exact z
  refine wpAny_call (codeAny_mono (F.run A X.stack s H ⟨us, []⟩ us vs Q E sb.room env to r h) fun out s' q => ?_)
  match out, q with
  | .ok (.ret u), q => exact I.after q
  | .error e, q => exact hx pins σ H s e s' I q
/-- the type of what stands on the right -/
def TyAt (K : PySem.W.Frag) (C : Addr) (H : Hp) (y : V) (tb : Value) : Prop :=
  (∃ b dx gs, y = .ref b ∧ H b = some (.ins C dx gs) ∧ tb = .ref C) ∨ (y = .non ∧ tb = .type "NoneType") ∨ (∃ i, y = .int i ∧ tb = .type "int") ∨ (∃ z, y = .str z ∧ tb = .type "str") ∨ ∃ b xs, y = .ref b ∧ SqL K H b xs ∧ tb = .type "list"
theorem ty_looks {y : V} {u tb : Value} (I : Inv X pins σ H s) (ry : RelV y u) (t : TyAt X.K C H y tb) : PySem.W.Looks (model X.prog X.w) s.heap (typeOf u) tb ∧ PySem.W.notFirst X.K C tb = true := by
  rcases t with ⟨b, dx, gs, rfl, hb, rfl⟩ | ⟨rfl, rfl⟩ | ⟨i, rfl, rfl⟩ | ⟨z, rfl, rfl⟩ | ⟨b, xs, rfl, hb, rfl⟩
  · cases (show u = Value.ref b from ry)
    obtain ⟨mB, O, _⟩ := ins_get I.hok hb
    obtain ⟨od, J, _⟩ := O.look
    exact ⟨J.type, by simp [PySem.W.notFirst]⟩
  · cases (show u = Value.none from ry)
    exact ⟨PySem.W.Looks.of_pure rfl, rfl⟩
  · obtain ⟨t, rfl⟩ := ry
    exact ⟨PySem.W.Looks.of_pure rfl, rfl⟩
  · obtain ⟨t, rfl⟩ := ry
    exact ⟨PySem.W.Looks.of_pure rfl, rfl⟩
  · cases (show u = Value.ref b from ry)
    obtain ⟨its, r, ht, hz⟩ := I.list hb
    obtain ⟨o, ho, hc⟩ := ht.isList.typeIs
    refine ⟨?_, rfl⟩
    rw [← hc]
    exact (PySem.W.Looks.ld (part := none) ho).andThen .now
def rOwnEq (C : Addr) (neg : Bool) (sp : Sp) (E : XK) (K : PySem.W.Frag) : R2 := fun x y H Q => ∃ a dx fs tb, x = .ref a ∧ H a = some (.ins C dx fs) ∧ TyAt K C H y tb ∧ sp [x, y] H (fun v H' => ∃ b, v = .bl b ∧ Q (.bl (if neg then !b else b)) H') E
theorem op_own_eq (hm : Meth X.K C "__eq__" g) (F : FnOk X.prog X.w X.K X.mg X.base CX k g fd ps sp) (hr : Room k X.A) (hb : Binds X.K fd ps []) (hx : Passes CX X E) : OpR X (compareOp .Eq) (rOwnEq C false sp E X.K) := by
  intro pins s σ H x y v u Q I rx ry ⟨a, dx, fs, tb, ex, e, t, q⟩
  subst ex
  cases (show v =
          Value.ref a from rx)
  obtain ⟨mA, O, _⟩ := ins_get I.hok e
  obtain ⟨od, J, _⟩ := O.look
  obtain ⟨lt, nf⟩ := ty_looks I ry t
  obtain ⟨m, hF⟩ := I.fr
  refine PySem.W.cmp_K (op := .Eq) hr.units0 hF I.ok.mod.kin J lt nf hm.at_ hm.fn (wpAny_mono (run_in (us := [.ref a, u]) (vs := [.ref a, y]) ⟨hr, rfl⟩ F hb hx I (.cons rfl (.cons ry .nil)) q) (fun r s1 z => ?_) fun _ _ z => z)
  obtain ⟨z, H1, I1, rz, b, ez, q1⟩ := z
  subst ez
  cases (show r = Value.bool b from rz)
  exact ⟨.bl b, H1, I1, rfl, q1⟩
/-- !=: the class has no __ne__ of its own -/
structure NoNe (K : PySem.W.Frag) (C : Addr) : Prop where
  ne : PySem.W.findIn K (.ref C) "__ne__" = some (some (.builtin "object.__ne__"))
  ob : PySem.W.mroIn K C (.type "object") = some true
theorem op_own_ne (nn : NoNe X.K C) (hm : Meth X.K C "__eq__" g) (F : FnOk X.prog X.w X.K X.mg X.base CX k g fd ps sp) (hr : Room (k + 2) X.A) (hb : Binds X.K fd ps []) (hx : Passes CX X E) : OpR X (compareOp .NotEq) (rOwnEq C true sp E X.K) := by
  intro pins s σ H x y v u Q I rx ry ⟨a, dx, fs, tb, ex, e, t, q⟩
  subst ex
  cases (show v =
          Value.ref a from rx)
  obtain ⟨mA, O, _⟩ := ins_get I.hok e
  obtain ⟨od, J, _⟩ := O.look
  obtain ⟨lt, nf⟩ := ty_looks I ry t
  have sb : L2.Sub X k X.A.in1 := L2.Sub.in1 ⟨hr.mono (by omega), rfl⟩
  have call := ne_call (A := X.A) (E := X.xe) (b := u) (Q := fun r s' => (∃ b : Bool, r = .bool b) ∧ EP X pins σ Q r s') sb.room.units0 I.kIn J nn.ob hm.at_ hm.fn (wpAny_mono (run_in (us := [.ref a, u]) (vs := [.ref a, y]) sb F hb hx I (.cons rfl (.cons ry .nil)) q) (fun r s1 z => by
    obtain ⟨z, H1, I1, rz, b, ez, q1⟩ := z
    subst ez
    cases (show r = Value.bool b from rz)
    exact ⟨b, rfl, ⟨_, rfl⟩, .bl !b, H1, I1, rfl, q1⟩) fun _ _ z => z)
  have one : wpAny (model X.prog X.w) X.A (tryCompare (.ref a) "__ne__" u) (fun r s' => ∃ v, r = some v ∧ EP X pins σ Q v s') X.xe s := by
    unfold tryCompare
    refine wpAny_bind (bound_blt I.kIn J nn.ne PySem.F.cmp_object.ne.bind (wpAny_mono call (fun v s' hv => ?_) fun _ _ e => e))
    obtain ⟨⟨b, rfl⟩, z⟩ := hv
    exact wpAny_pure ⟨_, rfl, z⟩
  show wpAny (model X.prog X.w) X.A (richCompare .NotEq (.ref a) u) (EP X pins σ Q) X.xe s
  unfold richCompare
  simp only [oneThing_ref]
  refine wpAny_holding (wpAny_bind (wpAny_cRoomFor hr.units0 ?_))
  refine wpAny_bind (J.type.here (wpAny_bind (lt.here ?_)))
  have last : wpAny (model X.prog X.w) X.A (tryCompare (.ref a) "__ne__" u) (fun r s' => ∃ v, r = some v ∧ wpAny (model X.prog X.w) X.A (pure v) (EP X pins σ Q) X.xe s') X.xe s := wpAny_mono one (fun r s' ⟨v, ev, hv⟩ => ⟨v, ev, wpAny_pure hv⟩) fun _ _ z => z
  split
  · rename_i ht
    have z : PySem.W.subIn X.K tb (.ref C) = some false := by
      rcases Bool.or_eq_true_iff.mp nf with z | z
      · rw [beq_iff_eq.mp z] at ht
        simp at ht
      · exact beq_iff_eq.mp z
    refine wpAny_bind ((PySem.W.looks_subIn I.kIn z).here ?_)
    rw [if_neg Bool.false_ne_true]; refine wpAny_bind (wpAny_mono last (fun r s' q => ?_) fun _ _ z => z)
    obtain ⟨v, rfl, q⟩ := q
    exact q
  · refine wpAny_bind
          (wpAny_pure ?_)
    rw [if_neg Bool.false_ne_true]; refine wpAny_bind (wpAny_mono last (fun r s' q => ?_) fun _ _ z => z)
    obtain ⟨v, rfl, q⟩ := q
    exact q
/-- len of it, its text -/
def rOwnLen (C : Addr) (sp : Sp) (E : XK) : List V → Hp → VK → Prop := fun us H Q => ∃ a dx fs, us = [.ref a] ∧ H a = some (.ins C dx fs) ∧ sp [.ref a] H (fun v H' => ∃ n : Nat, v = .int n ∧ n ≤ sizeLine ∧ Q (.int n) H') E
theorem call_own_len (hm : Meth X.K C "__len__" g) (F : FnOk X.prog X.w X.K X.mg X.base CX k g fd ps sp) (hr : Room (k + 1) X.A) (hb : Binds X.K fd ps []) (hx : Passes CX X E) : CallR X (.builtin "len") (rOwnLen C sp E) := by
  intro pins s σ H xs us Q I r ⟨a, dx, fs, ex, e, q⟩
  subst ex
  obtain ⟨u,
          rfl, ru⟩ := vals1 r
  cases (show u =
          Value.ref a from ru)
  obtain ⟨mA, O, _⟩ := ins_get I.hok e
  obtain ⟨od, J, _⟩ := O.look
  obtain ⟨m, hF⟩ := I.fr
  refine PySem.W.len_K hF I.ok.mod.kin J hm.at_ hm.fn (wpAny_mono (run_in (us := [.ref a]) (vs := [.ref a]) (L2.Sub.in1 ⟨hr, rfl⟩) F hb hx I (.cons rfl .nil) q) (fun w s1 z => ?_) fun _ _ z => z)
  obtain ⟨z, H1, I1, rz, n, ez, hn, q1⟩ := z
  subst ez
  obtain ⟨t, rfl⟩ := rz
  have big : sizeLine = 16777216 := sizeLine_eq
  exact ⟨⟨Int.natCast_nonneg n, by omega⟩, .int n, H1, I1.tok _, ⟨_, rfl⟩, q1⟩
def rOwnStr (C : Addr) (sp : Sp) (E : XK) : List V → Hp → VK → Prop := fun us H Q => ∃ a dx fs, us = [.ref a] ∧ H a = some (.ins C dx fs) ∧ sp [.ref a] H (fun v H' => ∃ z, v = .str z ∧ Q (.str z) H') E
theorem call_own_str (hm : Meth X.K C "__str__" g) (F : FnOk X.prog X.w X.K X.mg X.base CX k g fd ps sp) (hr : Room (k + 2) X.A) (hb : Binds X.K fd ps []) (hx : Passes CX X E) : CallR X (.type "str") (rOwnStr C sp E) := by
  intro pins s σ H xs us Q I r ⟨a, dx, fs, ex, e, q⟩
  subst ex
  obtain ⟨u,
          rfl, ru⟩ := vals1 r
  cases (show u =
          Value.ref a from ru)
  obtain ⟨mA, O, _⟩ := ins_get I.hok e
  obtain ⟨od, J, _⟩ := O.look
  have sb : L2.Sub X k X.A.in1.in1 := L2.Sub.in1 (L2.Sub.in1 ⟨hr, rfl⟩)
  refine PySem.W.kso_call sb.room.units0 I.kIn J hm.at_ hm.fn (wpAny_mono (run_in (us := [.ref a]) (vs := [.ref a]) sb F hb hx I (.cons rfl .nil) q) (fun w s1 z => ?_) fun _ _ z => z)
  obtain ⟨z, H1, I1, rz, n, ez, q1⟩ := z
  subst ez
  obtain ⟨t, rfl⟩ := rz
  exact ⟨.str n, H1, I1, ⟨_, rfl⟩, q1⟩
end
end LP
open PySem L2
local macro_rules | `(tactic| walk_at "side") => `(tactic| first | rfl | assumption | exact SqL.of (by assumption) | exact SqT.of (by assumption) | exact upd_same | exact SqL.of upd_same | exact SqT.of upd_same | (show _ ≠ _; omega) | omega | (dsimp only; omega) | exact ⟨by omega, by omega⟩ | exact .inl ⟨by omega, by omega⟩ | exact ⟨by decide, by decide, by omega⟩ | decide)
local macro_rules | `(tactic| walk_at "w0") => `(tactic| first
  | with_reducible refine' LP.w_seq ?_
  | with_reducible refine' LP.w_asg ?_
  | with_reducible refine' LP.w_ifS ?_
  | with_reducible refine' LP.w_ret ?_
  | with_reducible refine' LP.w_drop ?_
  | with_reducible refine' LP.w_next ?_
  | with_reducible refine' LP.w_retN ?_
  | with_reducible refine' LP.w_gName ?_
  | with_reducible refine' LP.w_op ?_
  | with_reducible refine' LP.w_c ?_
  | ((with_reducible refine' LP.w_var ?e ?_); (case e => rfl))
  | with_reducible refine' LP.w_kb ?_
  | with_reducible refine' LP.w_test ?_
  | with_reducible refine' LP.w_B ?_
  | with_reducible refine' LP.w_I0 ?_
  | ((with_reducible refine' LP.w_I ?e ?_); (case e => walk_at "side"))
  | with_reducible refine' LP.w_and ?_
  | with_reducible refine' LP.w_or ?_
  | with_reducible refine' LP.w_not ?_
  | with_reducible refine' LP.w_andV ?_
  | with_reducible refine' LP.w_orV ?_
  | with_reducible refine' LP.w_notV ?_
  | with_reducible refine' LP.w_ifE ?_
  | with_reducible refine' LP.w_nil ?_
  | with_reducible refine' LP.w_cons ?_
  | with_reducible refine' LP.w_tup ?_
  | with_reducible refine' LP.w_lst ?_
  | with_reducible refine' LP.w_CB ?_
  | with_reducible refine' LP.w_call ?_
  | with_reducible refine' LP.w_chain ?_
  | ((with_reducible refine' LP.w_ixL ?h ?e ?_); (case h => walk_at "side"); (case e => rfl))
  | ((with_reducible refine' LP.w_ixT ?h ?e ?_); (case h => walk_at "side"); (case e => rfl))
  | ((with_reducible refine' LP.w_eq ?e ?_); (case e => rfl))
  | ((with_reducible refine' LP.w_ne ?e ?_); (case e => rfl))
  | with_reducible refine' LP.w_int1 ?_
  | with_reducible refine' LP.w_intB ?_
  | with_reducible refine' LP.w_abs ?_
  | with_reducible refine' LP.w_max2 ?_
  | with_reducible refine' LP.w_min2 ?_
  | ((with_reducible refine' LP.w_lenL ?h ?_); (case h => walk_at "side"))
  | ((with_reducible refine' LP.w_lenT ?h ?_); (case h => walk_at "side"))
  | ((with_reducible refine' LP.w_lenStr ?h ?_); (case h => walk_at "size"))
  | with_reducible refine' LP.w_isN ?_
  | with_reducible refine' LP.w_notN ?_
  | with_reducible refine' LP.w_inSg ?_
  | with_reducible refine' LP.w_M0 ?_
  | with_reducible refine' LP.w_M1 ?_
  | with_reducible refine' LP.w_str ?_
  | with_reducible refine' LP.w_isB ?_
  | ((with_reducible refine' LP.w_upper ?h ?_); (case h => walk_at "size"))
  | with_reducible refine' LP.w_BM ?_
  | with_reducible refine' LP.w_BM0 ?_
  | with_reducible refine' LP.w_tyS ?_
  | ((with_reducible refine' LP.w_tyL ?h ?_); (case h => walk_at "side"))
  | ((with_reducible refine' LP.w_app ?h ?e ?_); (case h => walk_at "side"); (case e => walk_at "size"))
  | ((with_reducible refine' LP.w_addS ?h ?_); (case h => walk_at "size"))
  | with_reducible refine' LP.w_sl ?_
  | with_reducible refine' LP.w_noPart ?_
  | with_reducible refine' LP.w_part ?_
  | with_reducible refine' LP.w_ki ?_
  | ((with_reducible refine' LP.w_slS ?h ?_); (case h => walk_at "size"))
  | with_reducible refine' LP.w_tru ?_
  | ((with_reducible refine' LP.w_truL ?h ?_); (case h => walk_at "side"))
  | with_reducible refine' LP.w_gSub ?_
  | ((with_reducible refine' LP.w_setL ?h ?e ?_); (case h => walk_at "side"); (case e => rfl))
  | with_reducible refine' LP.w_iList ?_
  | ((with_reducible refine' LP.w_kList ?h ?_); (case h => walk_at "side"))
  | with_reducible refine' LP.w_iTup ?_
  | ((with_reducible refine' LP.w_kTup ?h ?_); (case h => walk_at "side"))
  | with_reducible refine' LP.w_iRng1 ?_
  | ((with_reducible refine' LP.w_kRng1 ?h ?e ?_); (case h => walk_at "side"); (case e => walk_at "side"))
  | with_reducible refine' LP.w_iStr ?_
  | with_reducible refine' LP.w_kStr ?_
  | with_reducible refine' LP.w_iRev ?_
  | ((with_reducible refine' LP.w_kRev ?h ?_); (case h => walk_at "side"))
  | with_reducible refine' LP.w_for ?_
  | with_reducible refine' LP.w_dget ?_
  | with_reducible refine' LP.w_din ?_
  | with_reducible refine' LP.w_dput ?_
  | with_reducible refine' LP.w_smeth ?_
  | with_reducible refine' LP.w_cmeth ?_
  | ((with_reducible refine' LP.w_makeL ?h ?_); (case h => rfl))
  | with_reducible refine' LP.w_iEnumk ?_
  | ((with_reducible refine' LP.w_kEnumk ?h ?h0 ?h1 ?_); (case h => walk_at "side"); (case h0 => decide); (case h1 => decide))
  | with_reducible refine' LP.w_iEnum ?_
  | with_reducible refine' LP.w_jn ?_
  | with_reducible refine' LP.w_ostL ?_
  | with_reducible refine' LP.w_raiseL ?_
  | with_reducible refine' LP.w_os2 ?_
  | with_reducible refine' LP.w_raiseV ?_
  | with_reducible refine' LP.w_sfld ?_
  | with_reducible refine' LP.w_dnew ?_
  | with_reducible refine' LP.w_jcons ?_
  | with_reducible refine' LP.w_jnil ?_
  | with_reducible refine' LP.w_fmt ?_
  | with_reducible refine' LP.w_iKeys ?_
  | ((with_reducible refine' LP.w_kEnum ?h ?_); (case h => walk_at "side"))
  | with_reducible refine' LP.w_iZip ?_
  | ((with_reducible refine' LP.w_kZip ?h1 ?h2 ?_); (case h1 => walk_at "side"); (case h2 => walk_at "side"))
  | with_reducible refine' LP.w_iEnumT ?_
  | ((with_reducible refine' LP.w_kEnumT ?h ?_); (case h => walk_at "side"))
  | with_reducible refine' LP.w_fldT ?_
  | with_reducible refine' LP.w_dnotin ?_
  | with_reducible refine' LP.w_neg ?_
  | with_reducible refine' LP.w_rU ?_
  | with_reducible refine' LP.w_methT ?_
  | with_reducible refine' LP.w_yes ?_
  | ((with_reducible refine' LP.w_gTup ?h ?e ?_); (case h => walk_at "side"); (case e => rfl))
  | with_reducible refine' LP.w_gCons ?_
  | with_reducible refine' LP.w_gNil ?_
  | with_reducible refine' LP.w_par ?_
  | ((with_reducible refine' LP.w_size ?e ?_); (case e => walk_at "size"))
  | ((with_reducible refine' LP.w_rfl ?e ?_); (case e => rfl))
  | with_reducible refine' LP.w_kPar ?_
  | with_reducible refine' LP.iteNF ?_
  | with_reducible refine' LP.iteNT ?_
  | with_reducible refine' L2.iteT ?_
  | with_reducible refine' L2.iteF ?_)
local macro_rules | `(tactic| walk_at "w1") => `(tactic| first | walk_at "w0" | with_reducible refine' LP.w_lc ?_)
local macro_rules | `(tactic| walk_at "w") => `(tactic| repeat walk_at "w1")
local macro_rules | `(tactic| walk_at "ws") => `(tactic| repeat walk_at "w0")
local macro_rules | `(tactic| walk_at "size") => `(tactic| first | assumption | decide | (refine Nat.le_trans ?_ (show 100000 ≤ sizeLine by decide); (first | assumption | omega | (simp only [List.length_cons, List.length_nil, List.length_append, List.length_map]; omega) | (simp; done))) | (refine Nat.lt_of_lt_of_le ?_ (show 100000 ≤ sizeLine by decide); (first | assumption | omega | (simp only [List.length_cons, List.length_nil, List.length_append, List.length_map]; omega) | (simp; done))) | omega)
local macro_rules | `(tactic| walk_at "js") => `(tactic| (refine LP.small_le ?_; first | omega | (simp only [LP.len_cat, LP.lenE, LP.lenS1, LP.lenS2, LP.lenS3, LP.lenS4, LP.lenS5, LP.lenS6, LP.lenS7]; omega)))
namespace LP
open PySem L2
open Evl (Ex)
def spTake : Sp := fun vs H Q _ => ∃ (b : Addr) (many : Int) (n : Nat), vs = [.ref b, .int many] ∧ BagAt H b n ∧ n < 100000000 ∧ 1 ≤ many ∧ many < 1073741824 ∧
  ∀ (z : Int) (H' : Hp), 0 ≤ z → z < many → BagAt H' b (n + 1) → Ex (del b H) H' → Q (.int z) H'
section
variable {base : Heap} {mg : Str → Option Value} {K : PySem.W.Frag} {w : World} {P : Program}
theorem ok_take {f : Addr} {fd : FuncData} (D : C8.Def K mg "_law_take" s__law_take f fd) (b : Binds K fd ["bag", "many"] []) (B : Blt mg) : C8.Cal P w K mg base 1 "_law_take" spTake [] := by
  have sc : FnScope ["bag", "many", "digit", "turn", "mixed"] ["bag", "many"] (C8.fnScope s__law_take) := C8.fnScope_by (by decide +kernel)
  refine C8.cal0 D b .nil sc (fun vs H Q E h => ?_) (fun cdv A outer s H vs Q E hr h => ?_)
  · obtain ⟨_, _, _, rfl, _⟩ := h
    rfl
  · obtain ⟨b, many, n, rfl, hB, hn, hm1, hm2, k⟩ := h
    obtain ⟨d, m, t, hb, h1, h2, h3, h4, h5⟩ := hB.ex
    refine ⟨_, (pss_cons (ps_if (pt_cmpR op_gt (pe_ix (ix_listK (K := K) rfl) (pv 0) pe_int (fun _ _ => rfl)) pe_int (nomark _))
        (pss_cons (ps_set (i := 2) sc.nd rfl (Or.inl rfl) (pe_op op_modN (pe_callTy call_int1' (by rfl) B.int_ (by decide +kernel) (pa_cons (pe_ix (ix_listK (K := K) rfl) (pv 0) pe_int (fun _ _ => rfl)) pa_nil)) (pv 1)))
        (pss_cons (ps_asg (pe_op op_fdivN (pe_ix (ix_listK (K := K) rfl) (pv 0) pe_int (fun _ _ => rfl)) (pv 1)) (pg_sub (pv 0) pe_int set_list))
        (pss_one (ps_ret (pv 2)))))
        pss_nil)
        (pss_cons (ps_asg (pe_op op_add (pe_ix (ix_listK (K := K) rfl) (pv 0) pe_int (fun _ _ => rfl)) pe_int) (pg_sub (pv 0) pe_int set_list))
        (pss_cons (ps_set (i := 3) sc.nd rfl (Or.inl rfl) (pe_ix (ix_listK (K := K) rfl) (pv 0) pe_int (fun _ _ => rfl)))
        (pss_cons (ps_set (i := 4) sc.nd rfl (Or.inl rfl) (pe_op op_modN (pe_callTy call_int1' (by rfl) B.int_ (by decide +kernel) (pa_cons (pe_op op_add (pe_op op_pow (pe_op op_add (pe_ix (ix_listK (K := K) rfl) (pv 0) pe_int (fun _ _ => rfl)) (pe_op op_mul pe_int (pv 3))) pe_int) (pe_op op_mul pe_int (pv 3))) pa_nil)) pe_int))
        (pss_cons (ps_set (i := 4) sc.nd rfl (Or.inl rfl) (pe_op op_modN (pe_callTy call_int1' (by rfl) B.int_ (by decide +kernel) (pa_cons (pe_op op_add (pe_op op_pow (pv 4) pe_int) (pe_op op_mul pe_int (pv 3))) pa_nil)) pe_int))
        (pss_one (ps_ret (pe_op op_modN (pe_callTy call_int1' (by rfl) B.int_ (by decide +kernel) (pa_cons (pe_op op_fdivN (pv 4) pe_int) pa_nil)) (pv 1))))))))), ?_⟩
    try dsimp only [cxOf, Cx.wish, Cx.nox]
    walk_at "w"
    refine iteD (fun hd => ?_) (fun hd => ?_)
    · walk_at "w"
      exact k _ _ (fmod_lo (by omega)) (fmod_hi (by omega)) ⟨d.fdiv many, m, t, upd_same, fdiv_lo h1 (by omega), h2, h3, h4, by omega⟩ ex_upd_bag
    · walk_at "w"
      have hx : 0 ≤ ((m + 15485863 * (t + 1)) ^ Int.toNat 2 + 32452867 * (t + 1)).fmod 2305843009213693951 ∧ ((m + 15485863 * (t + 1)) ^ Int.toNat 2 + 32452867 * (t + 1)).fmod 2305843009213693951 < 2305843009213693951 := ⟨fmod_lo (by decide), fmod_hi (by decide)⟩
      generalize ((m + 15485863 * (t + 1)) ^ Int.toNat 2 + 32452867 * (t + 1)).fmod 2305843009213693951 = M at hx ⊢
      walk_at "w"
      exact k _ _ (fmod_lo (by omega)) (fmod_hi (by omega)) ⟨d, m, t + 1, upd_same, h1, h2, h3, by omega, by omega⟩ ex_upd_bag
end
end LP
namespace LP
open PySem L2
open Evl (Ex)
section
variable {base : Heap} {mg : Str → Option Value} {K : PySem.W.Frag} {w : World} {P : Program}
theorem ok_of {f : Addr} {fd : FuncData} (D : C8.Def K mg "_law_of" s__law_of f fd) (b : Binds K fd ["bag", "some"] []) (B : Blt mg)
    (c__law_take : C8.Cal P w K mg base 1 "_law_take" spTake []) : C8.Cal P w K mg base 2 "_law_of" (spOf K) [] := by
  have sc : FnScope ["bag", "some"] ["bag", "some"] (C8.fnScope s__law_of) := C8.fnScope_by (by decide +kernel)
  refine C8.cal0 D b .nil sc (fun vs H Q E h => ?_) (fun cdv A outer s H vs Q E hr h => ?_)
  · obtain ⟨_, _, _, _, rfl, _⟩ := h
    rfl
  · obtain ⟨b, p, xs, n, rfl, hB, hn, hx, hne, hl, k⟩ := h
    refine ⟨_, (pss_one (ps_ret (pe_ix (ix_listK (K := K) rfl) (pv 1) (C8.pe_c c__law_take hr (by decide) rfl (pa_cons (pv 0) (pa_cons (pe_callB (call_len_seqK (K := K) rfl) (by rfl) B.len_ (by decide +kernel) (pa_cons (pv 1) pa_nil)) pa_nil))) (fun _ _ => rfl)))), ?_⟩
    try dsimp only [cxOf, Cx.wish, Cx.nox]
    have hx' : SqL K H p xs := Evl.ex_l ex_del hx
    have hp : 0 < xs.length := List.length_pos_iff.mpr hne
    walk_at "w"
    refine ⟨b, xs.length, n, rfl, hB, hn, by omega, by omega, fun z H' h0 h1 hB' e => ?_⟩
    obtain ⟨j, rfl⟩ : ∃ j : Nat, z = (j : Int) := ⟨z.toNat, by omega⟩
    have hj : j < xs.length := by omega
    have hx2 : SqL K H' p xs := Evl.ex_l e hx
    refine w_ixL hx2 (atI_nat (List.getElem?_eq_getElem hj)) ?_
    exact k _ H' (List.getElem_mem hj) hB' e
theorem ok_reserved {f : Addr} {fd : FuncData} (D : C8.Def K mg "_law_reserved" s__law_reserved f fd) (b : Binds K fd [] []) :
    C8.Cal P w K mg base 1 "_law_reserved" spReserved [] := by
  have sc : FnScope ["words"] [] (C8.fnScope s__law_reserved) := C8.fnScope_by (by decide +kernel)
  refine C8.cal0 D b .nil sc (fun vs H Q E h => ?_) (fun cdv A outer s H vs Q E hr h => ?_)
  · obtain ⟨rfl, _⟩ := h
    rfl
  · obtain ⟨rfl, k⟩ := h
    refine ⟨_, (pss_cons (ps_set (i := 0) sc.nd rfl (Or.inl rfl) pe_str)
        (pss_one (ps_ret (pe_split' (pv 0) pe_str)))), ?_⟩
    try dsimp only [cxOf, Cx.wish, Cx.nox]
    walk_at "w"
    refine w_split (by decide +kernel) (by decide +kernel) fun p hp => ?_
    have e : Txt.split "all and any as else false for if in is lacks no not or return some super thing true user" " " = reservedL := by decide +kernel
    rw [e]
    exact k p hp
theorem ok_letters {f : Addr} {fd : FuncData} (D : C8.Def K mg "_law_draw_letters" s__law_draw_letters f fd) (b : Binds K fd ["bag", "most"] []) (B : Blt mg)
    (c__law_take : C8.Cal P w K mg base 1 "_law_take" spTake []) : C8.Cal P w K mg base 2 "_law_draw_letters" spLetters [] := by
  have sc : FnScope ["bag", "most", "letters", "many", "turn"] ["bag", "most"] (C8.fnScope s__law_draw_letters) := C8.fnScope_by (by decide +kernel)
  refine C8.cal0 D b .nil sc (fun vs H Q E h => ?_) (fun cdv A outer s H vs Q E hr h => ?_)
  · obtain ⟨_, _, _, rfl, _⟩ := h
    rfl
  · obtain ⟨b, most, n, rfl, hB, hn, h1, h2, k⟩ := h
    refine ⟨_, (pss_cons (ps_set (i := 2) sc.nd rfl (Or.inr rfl) pe_str)
        (pss_cons (ps_set (i := 3) sc.nd rfl (Or.inl rfl) (pe_op op_add pe_int (C8.pe_c c__law_take hr (by decide) rfl (pa_cons (pv 0) (pa_cons (pv 1) pa_nil)))))
        (pss_one (ps_ret (pe_joinK (K := K) rfl pe_str (pe_lc (own := [("turn", 4)]) (g := (gName 4)) (by rfl) sc.nd (pi_range1 (by rfl) B.range_ (pa_cons (pv 3) pa_nil)) (blkOk_by (own := [("turn", 4)]) (N := ["bag", "most", "letters", "many", "turn"]) (sc := C8.fnScope s__law_draw_letters) (by decide +kernel)) (fun _ _ _ _ _ => (pg_name (i := 4) sc.nd rfl (Or.inl rfl))) (fun _ _ _ _ _ => pts_nil) (fun _ _ _ _ _ => (pe_ix ix_str (pv 2) (C8.pe_c c__law_take hr (by decide) rfl (pa_cons (pv 0) (pa_cons pe_int pa_nil))) (fun _ _ => rfl))))))))), ?_⟩
    try dsimp only [cxOf, Cx.wish, Cx.nox]
    walk_at "w"
    refine ⟨b, most, n, rfl, hB, by omega, h1, by omega, fun z H1 z0 z1 hB1 e1 => ?_⟩
    walk_at "w"
    intro D hD
    have bD := hB1.ne_none hD
    have fD : del b H D = none := Evl.fresh_back e1 hD
    refine compR (fun i acc H' => ∃ cs : List Nat, acc = cs.map (fun c => V.str (S [c])) ∧ cs.length = i ∧ (∀ c ∈ cs, 97 ≤ c ∧ c ≤ 122) ∧ BagAt H' b (n + 1 + i) ∧ Ex (del b H) H') (by omega)
      ⟨[], rfl, rfl, (fun _ hc => absurd hc List.not_mem_nil), (hB1.upd bD).mono (by omega), e1.mut fD⟩ (fun i acc H' hi ha hacc ⟨cs, ec, hcs, hlow, hB', e'⟩ kk kn hk hn' => ?_) (fun acc H' ha hacc ⟨cs, ec, hcs, hlow, hB', e'⟩ => ?_)
    · walk_at "w"
      refine ⟨b, 26, n + 1 + i, rfl, hB', by omega, by decide, by decide, fun y H2 y0 y1 hB2 e2 => ?_⟩
      obtain ⟨j, rfl⟩ : ∃ j : Nat, y = (j : Int) := ⟨y.toNat, by omega⟩
      have hj : j < 26 := by omega
      refine w_ixS (c := j + 97) (by decide +kernel) (atI_nat ?_) ?_
      · rw [show (Str.ofString "abcdefghijklmnopqrstuvwxyz").cps.toList = (List.range 26).map (· + 97) from letters_tl]
        simp [hj]
      · have bD2 : D ≠ b := bD.symm
        refine hk _ _ (e2 _ _ (by rw [del_ne bD2]; exact ha)) ⟨cs ++ [j + 97], ?_, ?_, ?_, hB2.upd bD, (ex_dtrans e' e2).mut fD⟩
        · rw [ec, List.map_append]
          rfl
        · rw [List.length_append, hcs]
          rfl
        · intro c hc
          rcases List.mem_append.1 hc with hc | hc
          · exact hlow c hc
          · rw [List.mem_singleton] at hc
            omega
    · have e3 : acc = (cs.map fun c => S [c]).map V.str := by rw [ec, List.map_map]; rfl
      refine w_join (ss := cs.map fun c => S [c]) (SqL.of (e3 ▸ ha)) ?_ ?_
      · have h0 : ∀ l : List Nat, (((l.map fun c => S [c]).map (·.length)).sum) = l.length := fun l => by
          induction l with
          | nil => rfl
          | cons c r ih =>
            rw [List.map_cons, List.map_cons, List.sum_cons, ih, List.length_cons]
            show 1 + r.length =
                    r.length + 1
            omega
        rw [h0, List.length_map, show ((Str.ofString "").length) = 0 by decide +kernel]
        omega
      · rw [show Txt.join (Str.ofString "") (cs.map fun c => S [c]) = S cs from join_chars cs]
        have hl : (S cs).length = cs.length := by simp [Str.length]
        exact k _ _ (by omega) (by omega) hlow (hB'.mono (by omega)) e'
end
end LP
namespace LP
open PySem L2
open Evl (Ex)
section
variable {K : PySem.W.Frag} {a : Addr} {g : TG} {tt : TT} {te : TE} {vs : List Nat} {σ : L2.St} {H1 : Hp} {D : Addr} {Qd : Hp → Prop}
/-- a comprehension over the signs of a text: each sign has its value, nothing but new things comes of a turn -/
theorem compS {z : Str} (val : Nat → V) (hD : H1 D = none) (hlen : z.length ≤ 90000)
    (hs : ∀ c, c ∈ z.cps.toList → ∀ H, Ex H1 H → ∀ (k : V → Hp → Prop) (kn : Hp → Prop), (∀ H4, Ex H H4 → k (val c) H4) →
      g (.str ⟨#[c]⟩) (wipe σ vs) H fun σ2 H2 => wipe σ2 vs = wipe σ vs ∧ tt σ2 H2 fun b H3 => if b = true then te σ2 H3 k else kn H3)
    (hd : ∀ H, Ex H1 H → H D = some (.lst (z.cps.toList.map val)) → Qd H) :
    ∃ W : Nat →
            Nat → Hp → Prop, (∃ m, W 0 m (upd H1 D (.lst []))) ∧ ∀ i m H, W i m H →
      ((Its z).stop i H ∧ Qd H) ∨ ((Its z).go i H ∧ ∃ Go : Hp → Prop, (∀ H', Go H' → ∃ m', m' < m ∧ W (i + 1) m' H') ∧ ∀ x H', (Its z).yld i H x H' → g x (wipe σ vs) H' fun σ2 H2 => wipe σ2 vs = wipe σ vs ∧ tt σ2 H2 fun b H3 =>
        if b = true then te σ2 H3 fun y H4 => ∃ got, H4 D = some (.lst got) ∧ got.length < sizeLine ∧ Go (upd H4 D (.lst (got ++ [y]))) else Go H3) := by
  have hz : z.cps.size = z.cps.toList.length := by simp
  have hl0 : z.cps.size ≤ 90000 := hlen
  refine ⟨fun i m H => m = z.cps.size - i ∧ i ≤ z.cps.size ∧ Ex H1 H ∧ H D = some (.lst ((z.cps.toList.take i).map val)), ⟨z.cps.size, by simp, Nat.zero_le _, Ex.new hD, upd_same⟩, ?_⟩
  rintro i m H ⟨rfl, hi, e, ha⟩
  by_cases hlt : i < z.cps.size
  · refine .inr ⟨hlt, fun H => Ex H1 H ∧ H D = some (.lst ((z.cps.toList.take (i + 1)).map val)), fun H' p' => ⟨z.cps.size - (i + 1), by omega, rfl, hlt, p'⟩, fun x H' y => ?_⟩
    obtain ⟨e', c, hc, rfl⟩ := y
    subst e'
    have hx : z.cps.toList[i]? = some c := by rw [Array.getElem?_toList]; exact hc
    have e2 : z.cps.toList.take (i + 1) = z.cps.toList.take i ++ [c] := by
      rw [List.take_succ, hx]
      rfl
    refine hs c (List.mem_of_getElem? hx) H' e _ _ fun H4 e4 => ?_
    refine ⟨_, e4 _ _ ha, ?_, (e.trans e4).mut hD, ?_⟩
    · have : ((z.cps.toList.take i).map val).length ≤ 90000 := by simp only [List.length_map, List.length_take]; omega
      exact Nat.lt_of_le_of_lt this (by decide)
    · rw [e2, List.map_append]
      exact upd_same
  · refine .inl ⟨by show z.cps.size ≤ i; omega, hd H e ?_⟩
    have : i = z.cps.toList.length := by omega
    rw [this, List.take_length] at ha
    exact ha
end
def spStart (K : PySem.W.Frag) : Sp := fun vs H Q _ => ∃ (p : Addr) (is : List Int) (k : Nat), vs = [.ref p, .int k] ∧ SqL K H p (is.map V.int) ∧ is.length ≤ 1000 ∧ k ≤ 60 ∧
  ∀ (q : Addr) (H' : Hp), H q = none → BagAt H' q 0 → Ex H H' → Q (.ref q) H'
def spDue (K : PySem.W.Frag) : Sp := fun vs H Q _ => ∃ (v : V) (d : PyData), vs = [v] ∧ Dp K H v d ∧ (∀ x, d = .str x → x.length ≤ 4000) ∧ ∀ H', Ex H H' → Q (.bl (strD nameB d)) H'
theorem mem_letters (c : Nat) : c ∈ (Str.ofString "abcdefghijklmnopqrstuvwxyz").cps.toList ↔ 97 ≤ c ∧ c ≤ 122 := by
  rw [show (Str.ofString "abcdefghijklmnopqrstuvwxyz").cps.toList = (List.range 26).map (· + 97) from letters_tl]
  simp only [List.mem_map,
          List.mem_range]
  constructor
  · rintro ⟨j, h, rfl⟩
    omega
  · rintro ⟨h1, h2⟩
    exact ⟨c - 97, by omega, by omega⟩
section
variable {base : Heap} {mg : Str → Option Value} {K : PySem.W.Frag} {w : World} {P : Program}
theorem ok_start {f : Addr} {fd : FuncData} (D : C8.Def K mg "_law_start" s__law_start f fd) (b : Binds K fd ["script", "at"] []) (B : Blt mg) : C8.Cal P w K mg base 1 "_law_start" (spStart K) [] := by
  have sc : FnScope ["script", "at", "cell", "digits"] ["script", "at"] (C8.fnScope s__law_start) := C8.fnScope_by (by decide +kernel)
  refine C8.cal0 D b .nil sc (fun vs H Q E h => ?_) (fun cdv A outer s H vs Q E hr h => ?_)
  · obtain ⟨_, _, _, rfl, _⟩ := h
    rfl
  · obtain ⟨p, is, k, rfl, hp, hn, hk, q⟩ := h
    refine ⟨_, (pss_cons (ps_set (i := 2) sc.nd rfl (Or.inl rfl) (pe_ifExp (pt_cmpR op_lt (pv 1) (pe_callB (call_len_seqK (K := K) rfl) (by rfl) B.len_ (by decide +kernel) (pa_cons (pv 0) pa_nil)) (nomark _)) (pe_ix (ix_listK (K := K) rfl) (pv 0) (pv 1) (fun _ _ => rfl)) pe_int))
        (pss_cons (ps_set (i := 3) sc.nd rfl (Or.inl rfl) (pe_ifExp (pt_cmpR op_ge (pe_callB call_abs' (by rfl) B.abs_ (by decide +kernel) (pa_cons (pv 2) pa_nil)) (pe_op op_pow pe_int pe_int) (nomark _)) (pe_callB call_abs' (by rfl) B.abs_ (by decide +kernel) (pa_cons (pv 2) pa_nil)) pe_int))
        (pss_one (ps_ret (pe_lst (pa_cons (pv 3) (pa_cons (pe_op op_add (pe_op op_add (pe_op op_modN (pe_callTy call_int1' (by rfl) B.int_ (by decide +kernel) (pa_cons (pv 2) pa_nil)) pe_int) (pe_op op_mul pe_int (pv 1))) pe_int) (pa_cons pe_int pa_nil)))))))), ?_⟩
    have end_ : ∀ cell : Int, ∀ d : Int, 0 ≤ d → ∀ q' : Addr, H q' = none → Q (.ref q') (upd H q' (.lst [.int d, .int (cell.fmod 2305843009213693951 + 7919 * k + 1), .int 0])) := fun cell d hd q' hq' => by
      have h1 : 0 ≤ cell.fmod 2305843009213693951 := fmod_lo (by decide)
      have h2 : cell.fmod 2305843009213693951 < 2305843009213693951 := fmod_hi (by decide)
      exact q q' _ hq' ⟨d, _, 0, upd_same, hd, by omega, by omega, by omega, by omega⟩ (Ex.new hq')
    walk_at "w"
    rw [List.length_map]
    refine iteD (fun h => ?_) (fun h => ?_)
    · have hlt : k < is.length := by omega
      walk_at "w"
      refine w_ixL hp (atI_nat (v := V.int is[k]) (by rw [List.getElem?_map, List.getElem?_eq_getElem hlt]; rfl)) ?_
      walk_at "w"
      refine iteD (fun h => ?_) (fun h => ?_)
      · walk_at "w"
        exact end_ _ _ (by split <;> omega)
      · walk_at "w"
        exact end_ _ _ (by omega)
    · walk_at "w"
      refine iteD (fun h => ?_) (fun h => ?_)
      · walk_at "w"
        exact end_ _ _ (by split <;> omega)
      · walk_at "w"
        exact end_ _ _ (by omega)
end
end LP
namespace LP
open PySem L2
open Evl (Ex)
/-- what the module's own constants hold -/
structure Cns (K : PySem.W.Frag) (mg : Str → Option Value) (ra C : Addr) : Prop where
  MOST_LETTERS_ : ∃ u, mg "MOST_LETTERS" = some u ∧ RelV (.int 8) u
  MOST_TABLES_ : ∃ u, mg "MOST_TABLES" = some u ∧ RelV (.int 6) u
  MOST_COLUMNS_ : ∃ u, mg "MOST_COLUMNS" = some u ∧ RelV (.int 6) u
  RESERVED_ : ∃ u, mg "RESERVED" = some u ∧ RelV (.ref ra) u
  res : ∀ H : Hp, SqT K H ra (reservedL.map V.str)
  Schema_ : ∃ u, mg "Schema" = some u ∧ RelV (.ref C) u
/-- a question about one value, answered by what it is -/
def spAsk (K : PySem.W.Frag) (f : PyData → Bool) : Sp := fun vs H Q _ => ∃ (v : V) (d : PyData), vs = [v] ∧ Dp K H v d ∧ (∀ x, d = .str x → x.length ≤ 4000) ∧ Q (.bl (f d)) H
def spIsLink : Sp := fun vs H Q _ => ∃ (v : V) (c : Col), vs = [v] ∧ ColAt H v c ∧ Q (.bl c.isLink) H
def spHasList : Sp := fun vs H Q _ => ∃ (v : V) (c : Col), vs = [v] ∧ ColAt H v c ∧ Q (.bl c.lst.isSome) H
def spMayLack : Sp := fun vs H Q _ => ∃ (v : V) (c : Col), vs = [v] ∧ ColAt H v c ∧ Q (.bl c.opt) H
section
variable {base : Heap} {mg : Str → Option Value} {K : PySem.W.Frag} {w : World} {P : Program} {ra C : Addr}
theorem ok_is_letters {f : Addr} {fd : FuncData} (D : C8.Def K mg "is_letters" s_is_letters f fd) (b : Binds K fd ["value"] []) (B : Blt mg) : C8.Cal P w K mg base 1 "is_letters" (spAsk K (strD lettersB)) [] := by
  have sc : FnScope ["value"] ["value"] (C8.fnScope s_is_letters) := C8.fnScope_by (by decide +kernel)
  refine C8.cal0 D b .nil sc (fun vs H Q E h => ?_) (fun cdv A outer s H vs Q E hr h => ?_)
  · obtain ⟨_, _, rfl, _⟩ := h
    rfl
  · obtain ⟨v, d, rfl, hd, hl, k⟩ := h
    refine ⟨_, (pss_one (ps_ret (pe_and (pe_callB (call_isiK1 (K := K) rfl) (by rfl) B.isinstance_ (by decide +kernel) (pa_cons (pv 0) (pa_cons (pe_bltn (v := .ty "str") (u := .type "str") (by rfl) B.str_ (by decide +kernel) rfl) pa_nil))) (pe_and (pe_bm0K (K := K) rfl PySem.F.plainAttrs_str PySem.F.slot_str_isascii PySem.F.type_str_isascii mt_isascii' (pv 0)) (pe_and (pe_m0 PySem.F.slot_str_isalpha PySem.F.type_str_isalpha mt_isalpha' (pv 0)) (pe_one (pe_bm0K (K := K) rfl PySem.F.plainAttrs_str PySem.F.slot_str_islower PySem.F.type_str_islower mt_islower' (pv 0)))))))), ?_⟩
    walk_at "w"
    refine w_isStr hd ?_
    cases hd with
    | str x =>
      have k : Q (.bl (Txt.isascii x && (Txt.isalpha x && Txt.islower x))) H := k
      unfold isStrD
      walk_at "w"
      refine iteB (fun h1 => ?_) (fun h1 => ?_)
      · rw [h1] at k
        walk_at "w"
        refine iteB (fun h2 => ?_) (fun h2 => ?_)
        · rw [h2] at k
          walk_at "w"
          exact k
        · rw [h2] at k
          exact k
      · rw [h1] at k
        exact k
    | _ => exact ⟨false, rfl, iteF k⟩
theorem ok_is_word {f : Addr} {fd : FuncData} (D : C8.Def K mg "is_word" s_is_word f fd) (b : Binds K fd ["value"] []) (B : Blt mg) (T : Cns K mg ra C)
    (c_is_letters : C8.Cal P w K mg base 1 "is_letters" (spAsk K (strD lettersB)) []) : C8.Cal P w K mg base 2 "is_word" (spAsk K (strD wordB)) [] := by
  have sc : FnScope ["value"] ["value"] (C8.fnScope s_is_word) := C8.fnScope_by (by decide +kernel)
  refine C8.cal0 D b .nil sc (fun vs H Q E h => ?_) (fun cdv A outer s H vs Q E hr h => ?_)
  · obtain ⟨_, _, rfl, _⟩ := h
    rfl
  · obtain ⟨v, d, rfl, hd, hl, k⟩ := h
    refine ⟨_, (pss_one (ps_ret (pe_and (C8.pe_c c_is_letters hr (by decide) rfl (pa_cons (pv 0) pa_nil)) (pe_one (pe_cmpR op_le (pe_callB call_len_str' (by rfl) B.len_ (by decide +kernel) (pa_cons (pv 0) pa_nil)) (C8.pe_gc rfl T.MOST_LETTERS_) (nomark _)))))), ?_⟩
    walk_at "w"
    refine ⟨v, d, rfl, hd, hl, ?_⟩
    cases hd with
    | str x =>
      have k : Q (.bl (lettersB x && decide (x.length ≤ 8))) H := k
      show ∃ c, V.bl (lettersB x) = .bl c ∧ _
      walk_at "w"
      refine iteB (fun h1 => ?_) (fun h1 => ?_)
      · rw [h1] at k
        walk_at "w"
        refine w_lenStr (Nat.le_trans (hl x rfl) (by decide)) ?_
        walk_at "w"
        rw [show decide ((x.length : Int) ≤ 8) = decide (x.length ≤ 8) by simp only [decide_eq_decide]; omega]
        exact k
      · rw [h1] at k
        exact k
    | _ => exact ⟨false, rfl, iteF k⟩
theorem ok_is_link {f : Addr} {fd : FuncData} (D : C8.Def K mg "is_link" s_is_link f fd) (b : Binds K fd ["column"] []) : C8.Cal P w K mg base 1 "is_link" spIsLink [] := by
  have sc : FnScope ["column"] ["column"] (C8.fnScope s_is_link) := C8.fnScope_by (by decide +kernel)
  refine C8.cal0 D b .nil sc (fun vs H Q E h => ?_) (fun cdv A outer s H vs Q E hr h => ?_)
  · obtain ⟨_, _, rfl, _⟩ := h
    rfl
  · obtain ⟨v, c, rfl, ⟨a, rfl, ha⟩, k⟩ := h
    refine ⟨_, (pss_one (ps_ret (pe_cmpR op_eq (pe_ix (ix_tupK (K := K) rfl) (pv 0) pe_int (fun _ _ => rfl)) pe_str (nomark _)))), ?_⟩
    walk_at "w"
    refine w_ixT (SqT.of ha) c.at0 ?_
    walk_at "w"
    rw [c.kind_link]
    exact k
theorem ok_has_list {f : Addr} {fd : FuncData} (D : C8.Def K mg "has_list" s_has_list f fd) (b : Binds K fd ["column"] []) (c_is_link : C8.Cal P w K mg base 1 "is_link" spIsLink []) : C8.Cal P w K mg base 2 "has_list" spHasList [] := by
  have sc : FnScope ["column"] ["column"] (C8.fnScope s_has_list) := C8.fnScope_by (by decide +kernel)
  refine C8.cal0 D b .nil sc (fun vs H Q E h => ?_) (fun cdv A outer s H vs Q E hr h => ?_)
  · obtain ⟨_, _, rfl, _⟩ := h
    rfl
  · obtain ⟨v, c, rfl, ⟨a, rfl, ha⟩, k⟩ := h
    refine ⟨_, (pss_one (ps_ret (pe_and (C8.pe_c c_is_link hr (by decide) rfl (pa_cons (pv 0) pa_nil)) (pe_one (pe_cmpR op_notN' (pe_ix (ix_tupK (K := K) rfl) (pv 0) pe_int (fun _ _ => rfl)) pe_non (nomark _)))))), ?_⟩
    walk_at "w"
    refine ⟨_, c, rfl, ⟨a, rfl, ha⟩, ?_⟩
    walk_at "w"
    refine iteB (fun h => ?_) (fun h => ?_)
    · walk_at "w"
      refine w_ixT (SqT.of ha) (Col.at4 h) ?_
      walk_at "w"
      rw [vOpt_non]
      exact k
    · have e : c.lst.isSome = false := by cases c <;> first | rfl | cases h
      rw [e] at k
      exact k
theorem ok_may_lack {f : Addr} {fd : FuncData} (D : C8.Def K mg "may_lack" s_may_lack f fd) (b : Binds K fd ["column"] []) (c_is_link : C8.Cal P w K mg base 1 "is_link" spIsLink []) : C8.Cal P w K mg base 2 "may_lack" spMayLack [] := by
  have sc : FnScope ["column"] ["column"] (C8.fnScope s_may_lack) := C8.fnScope_by (by decide +kernel)
  refine C8.cal0 D b .nil sc (fun vs H Q E h => ?_) (fun cdv A outer s H vs Q E hr h => ?_)
  · obtain ⟨_, _, rfl, _⟩ := h
    rfl
  · obtain ⟨v, c, rfl, ⟨a, rfl, ha⟩, k⟩ := h
    refine ⟨_, (pss_cons (ps_if (pt_val (C8.pe_c c_is_link hr (by decide) rfl (pa_cons (pv 0) pa_nil)))
        (pss_one (ps_ret (pe_ix (ix_tupK (K := K) rfl) (pv 0) pe_int (fun _ _ => rfl))))
        pss_nil)
        (pss_one (ps_ret (pe_and (pe_cmpR op_eq (pe_ix (ix_tupK (K := K) rfl) (pv 0) pe_int (fun _ _ => rfl)) pe_str (nomark _)) (pe_one (pe_ix (ix_tupK (K := K) rfl) (pv 0) pe_int (fun _ _ => rfl))))))), ?_⟩
    walk_at "w"
    refine ⟨_, c, rfl, ⟨a, rfl, ha⟩, ?_⟩
    walk_at "w"
    cases c with
    | link n t o l =>
      refine iteT ?_
      walk_at "w"
      exact k
    | plain fl n =>
      have e : decide (V.str (if fl = true then "flag" else "number") = V.str "word") = false := by
        cases fl with
        | true => show decide (V.str "flag" = V.str "word") = false; decide +kernel
        | false => show decide (V.str "number" = V.str "word") = false; decide +kernel
      refine iteF ?_
      walk_at "w"
      rw [e]
      exact iteF k
    | word n o =>
      refine iteF ?_
      walk_at "w"
      rw [show decide (V.str (Str.ofString "word") = V.str (Str.ofString "word")) = true from decide_eq_true rfl]
      refine iteT ?_
      walk_at "w"
      exact k
end
end LP
namespace LP
open PySem L2
open Evl (Ex)
/-! ### what a schema holds -/
abbrev Lists := List (Str × Str × Str)
def meths : List Str := ["__init__", "_take_columns", "_is_column", "_is_list", "columns", "lists", "filled", "read", "is_name", "__len__", "__contains__", "__eq__", "__str__"]
structure FsOk (fs : List (Str × V)) (dc dl : Addr) : Prop where
  c : fs.lookup ("_columns" : Str) = some (.ref dc)
  l : fs.lookup ("_lists" : Str) = some (.ref dl)
  no : ∀ m ∈ meths, fs.lookup m = none
structure SchC (K : PySem.W.Frag) (C : Addr) : Prop where
  cls : Cls K C
  columns_ : NoAttr K C "_columns"
  lists_ : NoAttr K C "_lists"
  user_ : NoAttr K C "user"
  tables_ : NoAttr K C "tables"
  lines_ : NoAttr K C "_lines"
def ColRow (H : Hp) (kv : Key × V) (t : Str × List Col) : Prop := kv.1 = .inr t.1 ∧ ∃ a vs, kv.2 = .ref a ∧ H a = some (.tup vs) ∧ ColsV H vs t.2
def ListEnt (H : Hp) (kv : Key × V) (e : Str × Str × Str) : Prop := kv.1 = .inr e.1 ∧ ∃ b, kv.2 = .ref b ∧ H b = some (.tup [.str e.2.1, .str e.2.2])
def ListRow (H : Hp) (a : Addr) (ls : Lists) : Prop := ∃ kvs, H a = some (.dK kvs) ∧ Paired (ListEnt H) kvs ls
abbrev Rows := List (Str × Addr × Lists)
def Rows.kvs (rs : Rows) : List (Key × V) := rs.map fun r => (.inr r.1, .ref r.2.1)
/-- the schema's instance at p, with its two dicts -/
structure Part (C : Addr) (H : Hp) (p dc dl : Addr) (cvs : List (Key × V)) (rs : Rows) (ts : Tabs) : Prop where
  ins : ∃ dx fs, H p = some (.ins C dx fs) ∧ FsOk fs dc dl
  hdc : H dc = some (.dK cvs)
  cols : Paired (ColRow H) cvs ts
  hdl : H dl = some (.dK rs.kvs)
  lst : ∀ r ∈ rs, ListRow H r.2.1 r.2.2
  nd : (rs.map fun r => r.2.1).Nodup
  dd : dc ≠ dl
  rd : ∀ r ∈ rs, r.2.1 ≠ dc ∧ r.2.1 ≠ dl
  kn : (rs.map fun r => r.1).Nodup
theorem ColRow.ext {H H' : Hp} {kv : Key × V} {t : Str × List Col} (e : Ex H H') (h : ColRow H kv t) : ColRow H' kv t := by
  obtain ⟨h1, a, vs, h2, h3, h4⟩ := h
  exact ⟨h1, a, vs, h2, e _ _ h3, h4.ext e⟩
theorem ListEnt.ext {H H' : Hp} {kv : Key × V} {t : Str × Str × Str} (e : Ex H H') (h : ListEnt H kv t) : ListEnt H' kv t := by
  obtain ⟨h1, a, h2, h3⟩ := h
  exact ⟨h1, a, h2, e _ _ h3⟩
theorem ListRow.ext {H H' : Hp} {a : Addr} {ls : Lists} (e : Ex H H') (h : ListRow H a ls) : ListRow H' a ls := by
  obtain ⟨kvs, h1, h2⟩ := h
  exact ⟨kvs, e _ _ h1, paired_imp (fun _ _ => ListEnt.ext e) h2⟩
theorem Part.ext {C : Addr} {H H' : Hp} {p dc dl : Addr} {cvs : List (Key × V)} {rs : Rows} {ts : Tabs} (e : Ex H H') (h : Part C H p dc dl cvs rs ts) : Part C H' p dc dl cvs rs ts := by
  obtain ⟨⟨dx, fs, h1, h2⟩, h3, h4, h5, h6, h7, h8, h9, h10⟩ := h
  exact ⟨⟨dx, fs, e _ _ h1, h2⟩, e _ _ h3, paired_imp (fun _ _ => ColRow.ext e) h4, e _ _ h5, fun r hr => (h6 r hr).ext e, h7, h8, h9, h10⟩
/-- a key among paired entries -/
theorem valV_pair {α : Type} {R : Key × V → Str × α → Prop} (hR : ∀ kv e, R kv e → kv.1 = .inr e.1) : ∀ {kvs : List (Key × V)} {es : List (Str × α)}, Paired R kvs es → ∀ n : Str,
    (valV kvs (Sum.inr n : Key) = none ∧ n ∉ es.map (·.1)) ∨ ∃ kv e, e ∈ es ∧ e.1 = n ∧ R kv e ∧ valV kvs (Sum.inr n : Key) = some kv.2 ∧ es.lookup n = some e.2
  | _, _, .nil, n => .inl ⟨rfl, List.not_mem_nil⟩
  | _, _, .cons (a := kv) (b := e) h r, n => by
    have k := hR _ _ h
    by_cases hn : e.1 = n
    · refine .inr ⟨kv, e, List.mem_cons_self, hn, h, valV_pos (by rw [k, hn]), ?_⟩
      rw [List.lookup_cons, show (n == e.1) = true by rw [hn]; exact beq_self_eq_true n]
    · have hk : kv.1 ≠ (.inr n : Key) := by
        rw [k]
        intro z
        exact hn (Sum.inr.inj z)
      rcases valV_pair hR r n with ⟨h1, h2⟩ | ⟨kv', e', h1, h2, h3, h4, h5⟩
      · refine .inl ⟨by rw [valV_neg hk]; exact h1, ?_⟩
        rw [List.map_cons, List.mem_cons]
        rintro (z | z)
        · exact hn z.symm
        · exact h2 z
      · refine .inr ⟨kv', e', List.mem_cons_of_mem _ h1, h2, h3, by rw [valV_neg hk]; exact h4, ?_⟩
        rw [List.lookup_cons, show (n == e.1) = false from beq_eq_false_iff_ne.mpr fun z => hn z.symm]
        exact h5
theorem Part.has {C : Addr} {H : Hp} {p dc dl : Addr} {cvs : List (Key × V)} {rs : Rows} {ts : Tabs} (h : Part C H p dc dl cvs rs ts) (n : Str) : (valV cvs (Sum.inr n : Key)).isSome = decide (n ∈ ts.map (·.1)) := by
  rcases valV_pair (fun _ _ h => h.1) h.cols n with ⟨h1, h2⟩ | ⟨kv, e, h1, h2, h3, h4, h5⟩
  · rw [h1, decide_eq_false h2]
    rfl
  · rw [h4, decide_eq_true (List.mem_map.mpr ⟨e, h1, h2⟩)]
    rfl
def spContains (K : PySem.W.Frag) (C : Addr) : Sp := fun vs H Q _ => ∃ (p : Addr) (v : V) (d : PyData) (dc dl : Addr) (cvs : List (Key × V)) (rs : Rows) (ts : Tabs), vs = [.ref p, v] ∧ Part C H p dc dl cvs rs ts ∧ Dp K H v d ∧
  Q (.bl (strD (fun n => decide (n ∈ ts.map (·.1))) d)) H
section
variable {base : Heap} {mg : Str → Option Value} {K : PySem.W.Frag} {w : World} {P : Program} {ra C : Addr}
theorem ok_contains {f : Addr} {fd : FuncData} (S : SchC K C) (me : Meth K C "__contains__" f) (F : C8.Fun K "__contains__" "Schema.__contains__" s_Schema___contains__ f fd) (b : Binds K fd ["self", "thing"] []) (B : Blt mg) :
    C8.Met P w K mg base 1 C "__contains__" (spContains K C) [] := by
  have sc : FnScope ["self", "thing"] ["self", "thing"] (C8.fnScope s_Schema___contains__) := C8.fnScope_by (by decide +kernel)
  refine C8.met0 S.cls me F b sc (fun vs H Q E h => ?_) (fun cdv A outer s H vs Q E hr h => ?_)
  · obtain ⟨_, _, _, _, _, _, _, _, rfl, _⟩ := h
    rfl
  · obtain ⟨p, v, d, dc, dl, cvs, rs, ts, rfl, hP, hd, k⟩ := h
    obtain ⟨⟨dx, fs, h1, h2⟩, h3, h4, h5, h6, h7, _, _, _⟩ := id hP
    refine ⟨_, (pss_one (ps_ret (pe_and (pe_callB (call_isiK1 (K := K) rfl) (by rfl) B.isinstance_ (by decide +kernel) (pa_cons (pv 1) (pa_cons (pe_bltn (v := .ty "str") (u := .type "str") (by rfl) B.str_ (by decide +kernel) rfl) pa_nil))) (pe_one ((pe_cmp (pc_din (hu_of hr) (pv 1) (pe_fldK (K := K) rfl (pv 0) rfl)) rfl)))))), ?_⟩
    walk_at "w"
    refine w_isStr hd ?_
    cases hd with
    | str x =>
      have k : Q (.bl (decide (x ∈ ts.map (·.1)))) H := k
      unfold isStrD
      walk_at "w"
      refine w_kFld h1 S.cls S.columns_ h2.c ?_
      refine w_kIn h3 ?_
      rw [hP.has]
      exact k
    | _ => exact ⟨false, rfl, iteF k⟩
theorem ok_is_name {p g : Addr} {fd : FuncData} {mc : Value} (r : ClX.CRead K C mc) (c1 : SMet K C mc "is_name" p g) (c2 : SInst K C "is_name" p g) (F : C8.Fun K "is_name" "Schema.is_name" s_Schema_is_name g fd) (b : Binds K fd ["value"] []) (B : Blt mg) (T : Cns K mg ra C)
    (c_is_word : C8.Cal P w K mg base 2 "is_word" (spAsk K (strD wordB)) []) : SCal P w K mg base 3 C mc "is_name" (spAsk K (strD nameB)) := by
  have sc : FnScope ["value"] ["value"] (C8.fnScope s_Schema_is_name) := C8.fnScope_by (by decide +kernel)
  refine ⟨p, g, fd, _, r, c1, c2, C8.fn0 F sc (fun vs H Q E h => ?_) (fun cdv A outer s H vs Q E hr h => ?_), b⟩
  · obtain ⟨_, _, rfl, _⟩ := h
    rfl
  · obtain ⟨v, d, rfl, hd, hl, k⟩ := h
    refine ⟨_, (pss_one (ps_ret (pe_and (C8.pe_c c_is_word hr (by decide) rfl (pa_cons (pv 0) pa_nil)) (pe_one (pe_cmpR (op_notIn_seqK (K := K) rfl) (pv 0) (C8.pe_gc rfl T.RESERVED_) (by rfl)))))), ?_⟩
    walk_at "w"
    refine ⟨v, d, rfl, hd, hl, ?_⟩
    cases hd with
    | str x =>
      have k : Q (.bl (wordB x && !decide (x ∈ reservedL))) H := k
      show ∃ c, V.bl (wordB x) = .bl c ∧ _
      walk_at "w"
      refine iteB (fun h1 => ?_) (fun h1 => ?_)
      · rw [h1] at k
        walk_at "w"
        refine w_inT (T.res H) rfl (flat_strs _) ?_
        rw [inV_str]
        exact k
      · rw [h1] at k
        exact k
    | _ => exact ⟨false, rfl, iteF k⟩
end
end LP
namespace LP
open PySem L2
open Evl (Ex)
theorem Part.cget {C : Addr} {H : Hp} {p dc dl : Addr} {cvs : List (Key × V)} {rs : Rows} {ts : Tabs} {n : Str} {cs : List Col} (h : Part C H p dc dl cvs rs ts) (e : ts.lookup n = some cs) :
    ∃ a vs, valV cvs (Sum.inr n : Key) = some (.ref a) ∧ H a = some (.tup vs) ∧ ColsV H vs cs := by
  rcases valV_pair (fun _ _ h => h.1) h.cols n with ⟨h1, h2⟩ | ⟨kv, t, h1, h2, ⟨h3, a, vs, h4, h5, h6⟩, h7, h8⟩
  · exact absurd (List.mem_map.mpr ⟨(n, cs), PySem.mem_of_lookup e, rfl⟩) h2
  · rw [e] at h8
    cases h8
    exact ⟨a, vs, by rw [h7, h4], h5, h6⟩
/-- the lists of each table -/
def Rows.mir (rs : Rows) : List (Str × Lists) := rs.map fun r => (r.1, r.2.2)
theorem rows_get : ∀ {rs : Rows} {n : Str} {ls : Lists}, rs.mir.lookup n = some ls → ∃ a, valV rs.kvs (Sum.inr n : Key) = some (.ref a) ∧ (n, a, ls) ∈ rs
  | [], _, _, h => by cases h
  | (m, a, l) :: r, n, ls, h => by
    have h : List.lookup n ((m, l) :: Rows.mir r) = some ls := h
    rw [List.lookup_cons] at h
    by_cases e : n = m
    · subst e
      rw [show (n == n) = true from beq_self_eq_true n] at h
      cases h
      exact ⟨a, valV_pos (p := ((.inr n, .ref a) : Key × V)) rfl, List.mem_cons_self⟩
    · rw [show (n == m) = false from beq_eq_false_iff_ne.mpr e] at h
      obtain ⟨b, h1, h2⟩ := rows_get (rs := r) h
      refine ⟨b, ?_, List.mem_cons_of_mem _ h2⟩
      exact (valV_neg (p := ((.inr m, .ref a) : Key × V)) (fun z => e (Sum.inr.inj z).symm)).trans h1
theorem ListRow.has {H : Hp} {a : Addr} {ls : Lists} {kvs : List (Key × V)} (h : Paired (ListEnt H) kvs ls) (n : Str) : (valV kvs (Sum.inr n : Key)).isSome = decide (n ∈ ls.map (·.1)) := by
  rcases valV_pair (fun _ _ h => h.1) h n with ⟨h1, h2⟩ | ⟨kv, e, h1, h2, h3, h4, h5⟩
  · rw [h1, decide_eq_false h2]
    rfl
  · rw [h4, decide_eq_true (List.mem_map.mpr ⟨e, h1, h2⟩)]
    rfl
def isListB (cs : List Col) (ls : Lists) : Option Str → Bool
  | none => true
  | some x => nameB x && !decide (x ∈ cs.map Col.name) && !decide (x ∈ ls.map (·.1))
def spIsList (K : PySem.W.Frag) (C : Addr) : Sp := fun vs H Q _ => ∃ (p : Addr) (t : Str) (l : Option Str) (dc dl : Addr) (cvs : List (Key × V)) (rs : Rows) (ts : Tabs) (cs : List Col) (ls : Lists), vs = [.ref p, .str t, vOpt l] ∧ Part C H p dc dl cvs rs ts ∧
  ts.lookup t = some cs ∧ rs.mir.lookup t = some ls ∧ cs.length ≤ 1000 ∧ (∀ x, l = some x → x.length ≤ 4000) ∧ ∀ H', Ex H H' → Q (.bl (isListB cs ls l)) H'
section
variable {base : Heap} {mg : Str → Option Value} {K : PySem.W.Frag} {w : World} {P : Program} {ra C : Addr}
theorem ok_is_list {f : Addr} {fd : FuncData} {mc : Value} (S : SchC K C) (me : Meth K C "_is_list" f) (F : C8.Fun K "_is_list" "Schema._is_list" s_Schema__is_list f fd) (b : Binds K fd ["self", "table", "name"] []) (B : Blt mg) (T : Cns K mg ra C)
    (c_is_name : SCal P w K mg base 3 C mc "is_name" (spAsk K (strD nameB))) :
    C8.Met P w K mg base 4 C "_is_list" (spIsList K C) [] := by
  have sc : FnScope ["self", "table", "name", "names", "column"] ["self", "table", "name"] (C8.fnScope s_Schema__is_list) := C8.fnScope_by (by decide +kernel)
  refine C8.met0 S.cls me F b sc (fun vs H Q E h => ?_) (fun cdv A outer s H vs Q E hr h => ?_)
  · obtain ⟨_, _, _, _, _, _, _, _, _, _, rfl, _⟩ := h
    rfl
  · obtain ⟨p, t, l, dc, dl, cvs, rs, ts, cs, ls, rfl, hP, ht, hr', hlen, hsz, k⟩ := h
    obtain ⟨⟨dx, fs, h1, h2⟩, h3, h4, h5, h6, h7, _, _, _⟩ := id hP
    obtain ⟨ca, cvals, g1, g2, g3⟩ := hP.cget ht
    obtain ⟨la, l1, l2⟩ := rows_get hr'
    obtain ⟨kvs, m1, m2⟩ := h6 _ l2
    have ll := paired_len g3
    refine ⟨_, (pss_cons (ps_if (pt_cmpR op_isN' (pv 2) pe_non (nomark _))
        (pss_one (ps_ret pe_bl))
        pss_nil)
        (pss_cons (ps_setLc (i := 3) (own := [("column", 4)]) (g := (gName 4)) (by rfl) sc.nd rfl rfl (sw_true rfl rfl rfl (by decide +kernel)) (pi_tupK (K := K) rfl (pe_dget (hu_of hr) (pe_fldK (K := K) rfl (pv 0) rfl) (pv 1) (fun _ _ => rfl))) (blkOk_by (own := [("column", 4)]) (N := ["self", "table", "name", "names", "column"]) (sc := C8.fnScope s_Schema__is_list) (by decide +kernel)) (fun _ _ _ _ _ => (pg_name (i := 4) sc.nd rfl (Or.inl rfl))) (fun _ _ _ _ _ => pts_nil) (fun _ _ _ _ _ => (pe_ix (ix_tupK (K := K) rfl) (pv 4) pe_int (fun _ _ => rfl))))
        (pss_one (ps_ret (pe_and (pe_sm c_is_name hr (by decide) (C8.pe_gc rfl T.Schema_) (pa_cons (pv 2) pa_nil)) (pe_and (pe_cmpR (op_notIn_seqK (K := K) rfl) (pv 2) (pv 3) (by rfl)) (pe_one ((pe_cmp (pc_dnotin (hu_of hr) (pv 2) (pe_dget (hu_of hr) (pe_fldK (K := K) rfl (pv 0) rfl) (pv 1) (fun _ _ => rfl))) rfl))))))))), ?_⟩
    walk_at "w"
    cases l with
    | none =>
      refine iteT ?_
      walk_at "w"
      exact k _ (Ex.refl _)
    | some x =>
      refine iteF ?_
      walk_at "w"
      refine w_kFld h1 S.cls S.columns_ h2.c ?_
      walk_at "w"
      refine w_kG h3 g1 ?_
      walk_at "w"
      intro D hD
      refine compQT cs (ColAt H) (fun c => some c.name) (fun v x => v = V.str x) hD (SqT.of g2) (by omega) g3 (fun y c hy hm H3 e3 kk kn hk hn => ?_) (fun acc H3 e3 hacc hp => ?_)
      · obtain ⟨a, rfl, ha⟩ := hy
        have ha3 := e3 _ _ ha
        walk_at "w"
        refine w_ixT (SqT.of ha3) c.at1 ?_
        exact hk _ _ _ (Ex.refl _) rfl rfl
      · rw [filterMap_some] at hp
        have ev := vals_strs hp
        walk_at "w"
        refine ⟨_, .str x, rfl, .str x, (fun y e => by cases e; exact hsz x rfl), ?_⟩
        show ∃ c, V.bl (nameB x) = .bl c ∧ _
        have k : ∀ H', Ex H H' → Q (.bl (nameB x && !decide (x ∈ cs.map Col.name) && !decide (x ∈ ls.map (·.1)))) H' := k
        walk_at "w"
        refine iteB (fun b1 => ?_) (fun b1 => ?_)
        · rw [b1] at k
          walk_at "w"
          refine w_notInStr (SqL.of (ev ▸ hacc)) ?_
          walk_at "w"
          refine iteND (fun b2 => ?_) (fun b2 => ?_)
          · rw [decide_eq_false b2] at k
            walk_at "w"
            refine w_kFld (e3 _ _ h1) S.cls S.lists_ h2.l ?_
            walk_at "w"
            refine w_kG (e3 _ _ h5) l1 ?_
            have m3 : H3 la = some (.dK kvs) := e3 _ _ m1
            refine w_kNin (k := x) (z := fun v => Q v H3) m3 ?_
            rw [ListRow.has (a := la) m2]
            exact k _ e3
          · rw [decide_eq_true b2] at k
            exact k _ e3
        · rw [b1] at k
          exact k _ e3
end
end LP
namespace LP
open PySem L2
open Evl (Ex)
structure LenC (K : PySem.W.Frag) (mg : Str → Option Value) (la : Addr) : Prop where
  LENGTHS_ : ∃ u, mg "LENGTHS" = some u ∧ RelV (.ref la) u
  at_ : ∀ c : Col, ∃ u, PySem.W.nsIn K la c.kind = some (some u) ∧ RelV (.int c.vals.length) u
theorem kitB_self {t : String} : kitB t t = some true := by
  unfold kitB
  rw [if_pos]
  exact beq_self_eq_true _
section
variable {K : PySem.W.Frag} {H : Hp} {Q : VK} {v : V} {σ : L2.St}
theorem w_isT {t : String} (h : TyX K H v (.type t)) (q : Q (.bl true) H) : rIsi K [v, .ty t] H Q := w_isi h kitB_self q
theorem ColAt.ty {c : Col} (h : ColAt H v c) : TyX K H v (.type "tuple") := dp_ty (K := K) (d := c.data) h.dp
theorem w_kgetT {d : Addr} {td ty tx : TE} (h : td σ H fun x H1 => x = .ref d ∧ ty σ H1 fun y H2 => tx σ H2 fun _ H3 => ∃ k u0 v0, y = .str k ∧ PySem.W.nsIn K d k = some (some u0) ∧ RelV v0 u0 ∧ Q v0 H3) : tKGet K d td ty tx σ H Q := h
end
theorem Col.len2 (c : Col) : 2 ≤ c.vals.length := by cases c <;> simp [Col.vals]
/-- a column that may stand behind columns of these names -/
structure ColIn (c : Col) (ns : List Str) (m : List (Str × Lists)) (ts : Tabs) : Prop where
  nm : IsName c.name
  nw : c.name ∉ ns
  lk : c.isLink = true → ∃ cs ls, ts.lookup c.target = some cs ∧ m.lookup c.target = some ls ∧ cs.length ≤ 1000 ∧ (∀ x, c.lst = some x → x.length ≤ 4000) ∧ isListB cs ls c.lst = true
def spIsColumn (K : PySem.W.Frag) (C : Addr) : Sp := fun vs H Q _ => ∃ (p nl : Addr) (v : V) (c : Col) (ns : List Str) (dc dl : Addr) (cvs : List (Key × V)) (rs : Rows) (ts : Tabs), vs = [.ref p, v, .ref nl] ∧ Part C H p dc dl cvs rs ts ∧ ColAt H v c ∧
  SqL K H nl (ns.map V.str) ∧ ColIn c ns rs.mir ts ∧ ∀ H', Ex H H' → Q (.bl true) H'
section
variable {base : Heap} {mg : Str → Option Value} {K : PySem.W.Frag} {w : World} {P : Program} {ra C la : Addr} {es : Array DictEntry} {ne : Nat}
theorem ok_is_column {f : Addr} {fd : FuncData} {mc : Value} (S : SchC K C) (me : Meth K C "_is_column" f) (F : C8.Fun K "_is_column" "Schema._is_column" s_Schema__is_column f fd) (b : Binds K fd ["self", "column", "names"] []) (B : Blt mg) (T : Cns K mg ra C)
    (LD : KDict K w la es ne) (LN : LenC K mg la) (c_is_name : SCal P w K mg base 3 C mc "is_name" (spAsk K (strD nameB))) (c_is_link : C8.Cal P w K mg base 1 "is_link" spIsLink []) (c___contains__ : C8.Met P w K mg base 1 C "__contains__" (spContains K C) [])
    (c__is_list : C8.Met P w K mg base 4 C "_is_list" (spIsList K C) []) :
    C8.Met P w K mg base 5 C "_is_column" (spIsColumn K C) [] := by
  have sc : FnScope ["self", "column", "names"] ["self", "column", "names"] (C8.fnScope s_Schema__is_column) := C8.fnScope_by (by decide +kernel)
  refine C8.met0 S.cls me F b sc (fun vs H Q E h => ?_) (fun cdv A outer s H vs Q E hr h => ?_)
  · obtain ⟨_, _, _, _, _, _, _, _, _, _, rfl, _⟩ := h
    rfl
  · obtain ⟨p, nl, v, c, ns, dc, dl, cvs, rs, ts, rfl, hP, ⟨a, rfl, ha⟩, hn, hc, k⟩ := h
    obtain ⟨⟨dx, fs, h1, h2⟩, h3, h4, h5, h6, h7, _, _, _⟩ := id hP
    have tt : SqT K H a c.vals := SqT.of ha
    refine ⟨_, (pss_cons (ps_if (PW.pt (pw_or (pt_not (pt_val (pe_callB (call_isiK1 (K := K) rfl) (by rfl) B.isinstance_ (by decide +kernel) (pa_cons (pv 1) (pa_cons (pe_bltn (v := .ty "tuple") (u := .type "tuple") (by rfl) B.tuple_ (by decide +kernel) rfl) pa_nil))))) (pw_or (pt_cmpR op_lt (pe_callB (call_len_seqK (K := K) rfl) (by rfl) B.len_ (by decide +kernel) (pa_cons (pv 1) pa_nil)) pe_int (nomark _)) (pw_or1 (pt_not (pt_val (pe_callB (call_isiK1 (K := K) rfl) (by rfl) B.isinstance_ (by decide +kernel) (pa_cons (pe_ix (ix_tupK (K := K) rfl) (pv 1) pe_int (fun _ _ => rfl)) (pa_cons (pe_bltn (v := .ty "str") (u := .type "str") (by rfl) B.str_ (by decide +kernel) rfl) pa_nil)))))))))
        (pss_one (ps_ret pe_bl))
        pss_nil)
        (pss_cons (ps_if (pt_cmpR op_ne ((pe_kget2 LD (C8.pe_gc rfl LN.LENGTHS_) (pe_ix (ix_tupK (K := K) rfl) (pv 1) pe_int (fun _ _ => rfl)) pe_int ⟨rfl, rfl, rfl, rfl⟩)) (pe_callB (call_len_seqK (K := K) rfl) (by rfl) B.len_ (by decide +kernel) (pa_cons (pv 1) pa_nil)) (nomark _))
        (pss_one (ps_ret pe_bl))
        pss_nil)
        (pss_cons (ps_if (PW.pt (pw_or (pt_not (pt_val (pe_sm c_is_name hr (by decide) (C8.pe_gc rfl T.Schema_) (pa_cons (pe_ix (ix_tupK (K := K) rfl) (pv 1) pe_int (fun _ _ => rfl)) pa_nil)))) (pw_or1 (pt_cmpR (op_in_seqK (K := K) rfl) (pe_ix (ix_tupK (K := K) rfl) (pv 1) pe_int (fun _ _ => rfl)) (pv 2) (by rfl)))))
        (pss_one (ps_ret pe_bl))
        pss_nil)
        (pss_cons (ps_if (pt_val (C8.pe_c c_is_link hr (by decide) rfl (pa_cons (pv 1) pa_nil)))
        (pss_one (ps_ret (pe_and (pe_cmpR (op_oin (dvs := []) c___contains__ hr (by decide)) (pe_ix (ix_tupK (K := K) rfl) (pv 1) pe_int (fun _ _ => rfl)) (pv 0) (by rfl)) (pe_and (pe_callB (call_isiK1 (K := K) rfl) (by rfl) B.isinstance_ (by decide +kernel) (pa_cons (pe_ix (ix_tupK (K := K) rfl) (pv 1) pe_int (fun _ _ => rfl)) (pa_cons (pe_bltn (v := .ty "bool") (u := .type "bool") (by rfl) B.bool_ (by decide +kernel) rfl) pa_nil))) (pe_one (C8.pe_mt c__is_list hr (by decide) (pv 0) (pa_cons (pe_ix (ix_tupK (K := K) rfl) (pv 1) pe_int (fun _ _ => rfl)) (pa_cons (pe_ix (ix_tupK (K := K) rfl) (pv 1) pe_int (fun _ _ => rfl)) pa_nil))))))))
        pss_nil)
        (pss_one (ps_ret (pe_or (pe_cmpR op_ne (pe_ix (ix_tupK (K := K) rfl) (pv 1) pe_int (fun _ _ => rfl)) pe_str (nomark _)) (pe_one (pe_callB (call_isiK1 (K := K) rfl) (by rfl) B.isinstance_ (by decide +kernel) (pa_cons (pe_ix (ix_tupK (K := K) rfl) (pv 1) pe_int (fun _ _ => rfl)) (pa_cons (pe_bltn (v := .ty "bool") (u := .type "bool") (by rfl) B.bool_ (by decide +kernel) rfl) pa_nil))))))))))), ?_⟩
    walk_at "w"
    refine w_isT (ColAt.ty (c := c) ⟨a, rfl, ha⟩) ?_
    walk_at "w"
    have l2 := c.len2
    refine iteD (fun h => absurd h (by omega)) (fun _ => ?_)
    walk_at "w"
    refine w_ixT tt c.at0 ?_
    walk_at "w"
    refine w_isT (.base (.str _)) ?_
    walk_at "w"
    refine w_kgetT ?_
    walk_at "w"
    refine w_ixT tt c.at0 ?_
    walk_at "w"
    obtain ⟨u, n1, n2⟩ := LN.at_ c
    refine ⟨_, u, _, rfl, n1, n2, ?_⟩
    walk_at "w"
    refine iteND (fun h => absurd rfl h) (fun _ => ?_)
    walk_at "w"
    refine w_ixT tt c.at1 ?_
    walk_at "w"
    refine ⟨_, .str c.name, rfl, .str _, (fun y e => by cases e; exact Nat.le_trans hc.nm.1.2.1 (by decide)), ?_⟩
    rw [show strD nameB (.str c.name) = true from (nameB_iff _).mpr hc.nm]
    walk_at "w"
    refine w_ixT tt c.at1 ?_
    walk_at "w"
    refine w_inStr hn ?_
    rw [decide_eq_false hc.nw]
    walk_at "w"
    refine ⟨_, c, rfl, ⟨a, rfl, ha⟩, ?_⟩
    walk_at "w"
    refine iteB (fun hL => ?_) (fun hL => ?_)
    · walk_at "w"
      obtain ⟨cs, ls, e1, e2, e3, e4, e5⟩ := hc.lk hL
      refine w_ixT tt (Col.at2 hL) ?_
      walk_at "w"
      refine w_ownIn h1 ?_
      refine ⟨p, _, .str c.target, dc, dl, cvs, rs, ts, rfl, hP, .str _, ?_⟩
      rw [show strD (fun n => decide (n ∈ ts.map (·.1))) (.str c.target) = true from decide_eq_true (List.mem_map.mpr ⟨_, PySem.mem_of_lookup e1, rfl⟩)]
      refine ⟨true, rfl, ?_⟩
      refine ⟨true, rfl, iteT ?_⟩
      walk_at "w"
      refine w_ixT tt (Col.at3 hL) ?_
      walk_at "w"
      refine w_isT (.base (.bl _)) ?_
      walk_at "w"
      refine w_kMeth h1 (h2.no _ (by decide)) ?_
      walk_at "w"
      refine w_ixT tt (Col.at2 hL) ?_
      walk_at "w"
      refine w_ixT tt (Col.at4 hL) ?_
      walk_at "w"
      refine ⟨p, c.target, c.lst, dc, dl, cvs, rs, ts, cs, ls, rfl, hP, e1, e2, e3, e4, fun H' ex => ?_⟩
      rw [e5]
      exact k _ ex
    · walk_at "w"
      cases c with
      | link n t o l => cases hL
      | plain fl n =>
        have e : decide (V.str (if fl = true then "flag" else "number") = V.str "word") = false := by
          cases fl with
          | true => show decide (V.str "flag" = V.str "word") = false; decide +kernel
          | false => show decide (V.str "number" = V.str "word") = false; decide +kernel
        walk_at "w"
        rw [e]
        walk_at "w"
        exact k _ (Ex.refl _)
      | word n o =>
        walk_at "w"
        rw [show decide (V.str (Str.ofString "word") = V.str (Str.ofString "word")) = true from decide_eq_true rfl]
        walk_at "w"
        refine w_isT (.base (.bl _)) ?_
        exact k _ (Ex.refl _)
end
end LP
namespace LP
open PySem L2
open Evl (Ex)
/-! ### whether any value is None or a name that a list may get -/
def isListD (cs : List Col) (ls : Lists) : PyData → Bool
  | .none => true
  | .str x => isListB cs ls (some x)
  | _ => false
theorem strD_str {f : Str → Bool} {d : PyData} (h : strD f d = true) : ∃ x, d = .str x ∧ f x = true := by
  cases d with
  | str x => exact ⟨x, rfl, h⟩
  | _ => cases h
theorem isListD_no {cs : List Col} {ls : Lists} {d : PyData} (hn : d ≠ .none) (h : strD nameB d = false) : isListD cs ls d = false := by
  cases d with
  | none => exact absurd rfl hn
  | str x =>
    have h : nameB x = false := h
    show (nameB x && !decide (x ∈ cs.map Col.name) && !decide (x ∈ ls.map (·.1))) = false
    rw [h]
    rfl
  | _ => rfl
def spIsListG (K : PySem.W.Frag) (C : Addr) : Sp := fun vs H Q _ => ∃ (p : Addr) (t : Str) (v : V) (d : PyData) (dc dl : Addr) (cvs : List (Key × V)) (rs : Rows) (ts : Tabs) (cs : List Col) (ls : Lists), vs = [.ref p, .str t, v] ∧ Part C H p dc dl cvs rs ts ∧ Dp K H v d ∧
  ts.lookup t = some cs ∧ rs.mir.lookup t = some ls ∧ cs.length ≤ 1000 ∧ (∀ x, d = .str x → x.length ≤ 4000) ∧ ∀ H', Ex H H' → Q (.bl (isListD cs ls d)) H'
section
variable {base : Heap} {mg : Str → Option Value} {K : PySem.W.Frag} {w : World} {P : Program} {ra C : Addr}
theorem ok_is_listG {f : Addr} {fd : FuncData} {mc : Value} (S : SchC K C) (me : Meth K C "_is_list" f) (F : C8.Fun K "_is_list" "Schema._is_list" s_Schema__is_list f fd) (b : Binds K fd ["self", "table", "name"] []) (B : Blt mg) (T : Cns K mg ra C)
    (c_is_name : SCal P w K mg base 3 C mc "is_name" (spAsk K (strD nameB))) :
    C8.Met P w K mg base 4 C "_is_list" (spIsListG K C) [] := by
  have sc : FnScope ["self", "table", "name", "names", "column"] ["self", "table", "name"] (C8.fnScope s_Schema__is_list) := C8.fnScope_by (by decide +kernel)
  refine C8.met0 S.cls me F b sc (fun vs H Q E h => ?_) (fun cdv A outer s H vs Q E hr h => ?_)
  · obtain ⟨_, _, _, _, _, _, _, _, _, _, _, rfl, _⟩ := h
    rfl
  · obtain ⟨p, t, v, d, dc, dl, cvs, rs, ts, cs, ls, rfl, hP, hd, ht, hr', hlen, hsz, k⟩ := h
    obtain ⟨⟨dx, fs, h1, h2⟩, h3, h4, h5, h6, h7, _, _, _⟩ := id hP
    obtain ⟨ca, cvals, g1, g2, g3⟩ := hP.cget ht
    obtain ⟨la, l1, l2⟩ := rows_get hr'
    obtain ⟨kvs, m1, m2⟩ := h6 _ l2
    have ll := paired_len g3
    refine ⟨_, (pss_cons (ps_if (pt_cmpR op_isN' (pv 2) pe_non (nomark _))
        (pss_one (ps_ret pe_bl))
        pss_nil)
        (pss_cons (ps_setLc (i := 3) (own := [("column", 4)]) (g := (gName 4)) (by rfl) sc.nd rfl rfl (sw_true rfl rfl rfl (by decide +kernel)) (pi_tupK (K := K) rfl (pe_dget (hu_of hr) (pe_fldK (K := K) rfl (pv 0) rfl) (pv 1) (fun _ _ => rfl))) (blkOk_by (own := [("column", 4)]) (N := ["self", "table", "name", "names", "column"]) (sc := C8.fnScope s_Schema__is_list) (by decide +kernel)) (fun _ _ _ _ _ => (pg_name (i := 4) sc.nd rfl (Or.inl rfl))) (fun _ _ _ _ _ => pts_nil) (fun _ _ _ _ _ => (pe_ix (ix_tupK (K := K) rfl) (pv 4) pe_int (fun _ _ => rfl))))
        (pss_one (ps_ret (pe_and (pe_sm c_is_name hr (by decide) (C8.pe_gc rfl T.Schema_) (pa_cons (pv 2) pa_nil)) (pe_and (pe_cmpR (op_notIn_seqK (K := K) rfl) (pv 2) (pv 3) (by rfl)) (pe_one ((pe_cmp (pc_dnotin (hu_of hr) (pv 2) (pe_dget (hu_of hr) (pe_fldK (K := K) rfl (pv 0) rfl) (pv 1) (fun _ _ => rfl))) rfl))))))))), ?_⟩
    walk_at "w"
    refine iteD (fun hv => ?_) (fun hv => ?_)
    · subst hv
      cases hd
      walk_at "w"
      exact k _ (Ex.refl _)
    · have hdn : d ≠ .none := fun e => by subst e; cases hd; exact hv rfl
      walk_at "w"
      refine w_kFld h1 S.cls S.columns_ h2.c ?_
      walk_at "w"
      refine w_kG h3 g1 ?_
      walk_at "w"
      intro D hD
      refine compQT cs (ColAt H) (fun c => some c.name) (fun v x => v = V.str x) hD (SqT.of g2) (by omega) g3 (fun y c hy hm H3 e3 kk kn hk hn => ?_) (fun acc H3 e3 hacc hp => ?_)
      · obtain ⟨a, rfl, ha⟩ := hy
        have ha3 := e3 _ _ ha
        walk_at "w"
        refine w_ixT (SqT.of ha3) c.at1 ?_
        exact hk _ _ _ (Ex.refl _) rfl rfl
      · rw [filterMap_some] at hp
        have ev := vals_strs hp
        walk_at "w"
        refine ⟨_, d, rfl, dp_ext e3 hd, hsz, ?_⟩
        walk_at "w"
        refine iteB (fun b1 => ?_) (fun b1 => ?_)
        · obtain ⟨x, rfl, hx⟩ := strD_str b1
          cases hd
          have k : ∀ H', Ex H H' → Q (.bl (nameB x && !decide (x ∈ cs.map Col.name) && !decide (x ∈ ls.map (·.1)))) H' := k
          rw [hx] at k
          walk_at "w"
          refine w_notInStr (SqL.of (ev ▸ hacc)) ?_
          walk_at "w"
          refine iteND (fun b2 => ?_) (fun b2 => ?_)
          · rw [decide_eq_false b2] at k
            walk_at "w"
            refine w_kFld (e3 _ _ h1) S.cls S.lists_ h2.l ?_
            walk_at "w"
            refine w_kG (e3 _ _ h5) l1 ?_
            have m3 : H3 la = some (.dK kvs) := e3 _ _ m1
            refine w_kNin (k := x) (z := fun v => Q v H3) m3 ?_
            rw [ListRow.has (a := la) m2]
            exact k _ e3
          · rw [decide_eq_true b2] at k
            exact k _ e3
        · rw [isListD_no hdn b1] at k
          exact k _ e3
end
end LP
namespace LP
open PySem L2
open Evl (Ex)
/-! ### d.get(k, x) of a module's dict, whatever text k is -/
def kGetP (K : PySem.W.Frag) (d : Addr) (y z : V) (H3 : Hp) (Q : VK) : Prop := ∃ k, y = .str k ∧ ((∃ u0 v0, PySem.W.nsIn K d k = some (some u0) ∧ RelV v0 u0 ∧ Q v0 H3) ∨ (PySem.W.nsIn K d k = some none ∧ Q z H3))
def tKGetD (K : PySem.W.Frag) (d : Addr) (td ty tx : TE) : TE := fun σ H Q => td σ H fun x H1 => x = .ref d ∧ ty σ H1 fun y H2 => tx σ H2 fun z H3 => kGetP K d y z H3 Q
section
variable {X : Cx} {d : Addr} {es : Array DictEntry} {n : Nat} {o e f : Expr} {apos cpos : Pos} {td ty tx : TE}
theorem pe_kgetD (D : KDict X.K X.w d es n) (ho : PE X o td) (he : PE X e ty) (hf : PE X f tx) (m : M2 X o "get" apos e f cpos) : PE X (.Call (.Attribute o "get" apos) [e, f] [] cpos) (tKGetD X.K d td ty tx) := by
  refine ⟨fun pins s σ H Q I h => ?_⟩; refine wpAny_Call_method m.base m.few m.line PySem.F.plainAttrs_dict PySem.F.slot_dict_get PySem.F.type_dict_get (thn (ho.run pins s σ H _ I h) fun u s1 ⟨x, H1, I1, rx, ex, q1⟩ => ?_)
  subst ex
  cases (show u = Value.ref d from rx)
  have at1 := I1.kIn d _ D.at_
  refine ⟨kd_type D I1, fun b eb => ?_, ?_⟩
  · cases eb
    exact ⟨_, at1, rfl⟩
  · rw [m.trees]
    refine Calls.callWith_builtin rfl (Calls.evalArgs_plain (Calls.spliced_cons (thn (he.run pins s1 σ H1 _ I1 q1) fun iv s2 ⟨y, H2, I2, ry, q2⟩ => Calls.spliced_cons (thn (hf.run pins s2 σ H2 _ I2 q2) fun fv s3 ⟨z, H3, I3, rz, k, ey, q3⟩ => Calls.spliced_nil ?_))))
    subst ey
    obtain ⟨t, rfl⟩ := (show ∃ t, iv = Value.str k t from ry)
    have mp := PySem.W.mapOf_K (prog := X.prog) (w := X.w) I3.kIn D.at_ D.lit
    have mt := meets_dict_get_default (PySem.strKind X.prog X.w) d (PySem.strKind_is X.prog X.w k t) D.low fv
    rcases q3 with ⟨u0, v0, e0, r0, q3⟩ | ⟨e0, q3⟩
    · refine call_meetsIn PySem.F.slot_dict_get mp.typeIs PySem.F.entry_dict_get (PySem.F.args_dict_get_3 _ _ _) mt ⟨_, mp, ⟨v0, H3, I3.tok _, ?_, q3⟩⟩
      rw [PySem.W.find_K D.at_ e0]
      exact r0
    · refine call_meetsIn PySem.F.slot_dict_get mp.typeIs PySem.F.entry_dict_get (PySem.F.args_dict_get_3 _ _ _) mt ⟨_, mp, ⟨z, H3, I3.tok _, ?_, q3⟩⟩
      rw [PySem.W.find_K D.at_ e0]
      exact rz
end
section
variable {K : PySem.W.Frag} {H : Hp} {Q : VK} {v : V} {σ : L2.St}
theorem w_kgetD {d : Addr} {td ty tx : TE} (h : td σ H fun x H1 => x = .ref d ∧ ty σ H1 fun y H2 => tx σ H2 fun z H3 => kGetP K d y z H3 Q) : tKGetD K d td ty tx σ H Q := h
theorem w_kgetI {d : Addr} {kk : Str} {n : Nat} (e : (∃ u, PySem.W.nsIn K d kk = some (some u) ∧ RelV (.int (n : Nat)) u) ∨ (PySem.W.nsIn K d kk = some none ∧ n = 0)) (q : Q (.int (n : Nat)) H) :
    kGetP K d (.str kk) (.int 0) H Q := by
  refine ⟨kk, rfl, ?_⟩
  rcases e with ⟨u, e1, e2⟩ | ⟨e1, e2⟩
  · exact .inl ⟨u, _, e1, e2, q⟩
  · subst e2
    exact .inr ⟨e1, q⟩
def isTuQ : PyData → Bool
  | .tuple _ => true
  | _ => false
def isBoQ : PyData → Bool
  | .bool _ => true
  | _ => false
theorem w_isTuQ {d : PyData} (h : Dp K H v d) (q : Q (.bl (isTuQ d)) H) : rIsi K [v, .ty "tuple"] H Q := by
  refine w_isi (dp_ty h) ?_ q
  cases d with
  | none => show kitB "NoneType" "tuple" = some false; decide +kernel
  | bool b => show kitB "bool" "tuple" = some false; decide +kernel
  | int i => show kitB "int" "tuple" = some false; decide +kernel
  | str x => show kitB "str" "tuple" = some false; decide +kernel
  | list l => show kitB "list" "tuple" = some false; decide +kernel
  | tuple l => show kitB "tuple" "tuple" = some true; decide +kernel
  | dict l => show kitB "dict" "tuple" = some false; decide +kernel
theorem w_isBoQ {d : PyData} (h : Dp K H v d) (q : Q (.bl (isBoQ d)) H) : rIsi K [v, .ty "bool"] H Q := by
  refine w_isi (dp_ty h) ?_ q
  cases d with
  | none => show kitB "NoneType" "bool" = some false; decide +kernel
  | bool b => show kitB "bool" "bool" = some true; decide +kernel
  | int i => show kitB "int" "bool" = some false; decide +kernel
  | str x => show kitB "str" "bool" = some false; decide +kernel
  | list l => show kitB "list" "bool" = some false; decide +kernel
  | tuple l => show kitB "tuple" "bool" = some false; decide +kernel
  | dict l => show kitB "dict" "bool" = some false; decide +kernel
end
/-! ### whether any value may stand as the next column -/
def lenD (k : Str) : Nat := if k = "flag" ∨ k = "number" then 2 else if k = "word" then 3 else if k = "link" then 5 else 0
def tgtD (m : List (Str × Lists)) (ts : Tabs) (l : PyData) : PyData → Bool
  | .str x => match ts.lookup x, m.lookup x with
    | some cs, some ls => isListD cs ls l
    | _, _ => false
  | _ => false
def oneB : List PyData → Bool
  | [o] => isBoQ o
  | _ => false
theorem look_of {β : Type} {n : Str} : ∀ {m : List (Str × β)}, n ∈ m.map (·.1) → ∃ v, m.lookup n = some v
  | [], h => by cases h
  | (x, v) :: r, h => by
    rw [List.lookup_cons]
    by_cases e : n = x
    · subst e
      rw [show (n == n) = true from beq_self_eq_true n]
      exact ⟨v, rfl⟩
    · rw [show (n == x) = false from beq_eq_false_iff_ne.mpr e]
      rw [List.map_cons] at h
      rcases List.mem_cons.mp h with h | h
      · exact absurd h e
      · exact look_of h
def restB (m : List (Str × Lists)) (ts : Tabs) (k : Str) (r : List PyData) : Bool :=
  if k = "link" then (match r with
    | [tg, o, l] => strD (fun x => decide (x ∈ ts.map (·.1))) tg && (isBoQ o && tgtD m ts l tg)
    | _ => false)
  else (!decide (k = "word") || oneB r)
def colB (ns : List Str) (m : List (Str × Lists)) (ts : Tabs) : PyData → Bool
  | .tuple (.str k :: n :: r) => decide (lenD k = r.length + 2) && (strD nameB n && (!strD (fun x => decide (x ∈ ns)) n && restB m ts k r))
  | _ => false
structure LenG (K : PySem.W.Frag) (mg : Str → Option Value) (la : Addr) : Prop where
  LENGTHS_ : ∃ u, mg "LENGTHS" = some u ∧ RelV (.ref la) u
  at_ : ∀ k : Str, (∃ u, PySem.W.nsIn K la k = some (some u) ∧ RelV (.int (lenD k : Nat)) u) ∨ (PySem.W.nsIn K la k = some none ∧ lenD k = 0)
def SzD (d : PyData) : Prop := ∀ xs, d = .tuple xs → ∀ y ∈ xs, ∀ x, y = .str x → x.length ≤ 4000
def spIsLinkG (K : PySem.W.Frag) : Sp := fun vs H Q _ => ∃ (a : Addr) (xs : List V) (k : Str), vs = [.ref a] ∧ SqT K H a xs ∧ atI xs 0 = some (.str k) ∧ Q (.bl (decide (k = "link"))) H
def spIsColumnG (K : PySem.W.Frag) (C : Addr) : Sp := fun vs H Q _ => ∃ (p nl : Addr) (v : V) (d : PyData) (ns : List Str) (dc dl : Addr) (cvs : List (Key × V)) (rs : Rows) (ts : Tabs), vs = [.ref p, v, .ref nl] ∧ Part C H p dc dl cvs rs ts ∧ Dp K H v d ∧ SzD d ∧
  SqL K H nl (ns.map V.str) ∧ (∀ t ∈ ts, t.2.length ≤ 1000) ∧ rs.mir.map (·.1) = ts.map (·.1) ∧ ∀ H', Ex H H' → Q (.bl (colB ns rs.mir ts d)) H'
theorem dpAll_len {K : PySem.W.Frag} {H : Hp} : ∀ {vs : List V} {ds : List PyData}, DpAll K H vs ds → vs.length = ds.length
  | _, _, .nil => rfl
  | _, _, .cons _ r => by rw [List.length_cons, List.length_cons, dpAll_len r]
section
variable {base : Heap} {mg : Str → Option Value} {K : PySem.W.Frag} {w : World} {P : Program} {ra C la : Addr} {es : Array DictEntry} {ne : Nat}
theorem ok_is_linkG {f : Addr} {fd : FuncData} (D : C8.Def K mg "is_link" s_is_link f fd) (b : Binds K fd ["column"] []) : C8.Cal P w K mg base 1 "is_link" (spIsLinkG K) [] := by
  have sc : FnScope ["column"] ["column"] (C8.fnScope s_is_link) := C8.fnScope_by (by decide +kernel)
  refine C8.cal0 D b .nil sc (fun vs H Q E h => ?_) (fun cdv A outer s H vs Q E hr h => ?_)
  · obtain ⟨_, _, _, rfl, _⟩ := h
    rfl
  · obtain ⟨a, xs, kk, rfl, ha, h0, k⟩ := h
    refine ⟨_, (pss_one (ps_ret (pe_cmpR op_eq (pe_ix (ix_tupK (K := K) rfl) (pv 0) pe_int (fun _ _ => rfl)) pe_str (nomark _)))), ?_⟩
    walk_at "w"
    refine w_ixT ha h0 ?_
    walk_at "w"
    rw [show decide (V.str kk = V.str (Str.ofString "link")) = decide (kk = "link") from by rw [decide_eq_decide]; exact ⟨fun h => V.str.inj h, fun h => by rw [h]⟩]
    exact k
theorem ok_is_columnG {f : Addr} {fd : FuncData} {mc : Value} (S : SchC K C) (me : Meth K C "_is_column" f) (F : C8.Fun K "_is_column" "Schema._is_column" s_Schema__is_column f fd) (b : Binds K fd ["self", "column", "names"] []) (B : Blt mg) (T : Cns K mg ra C)
    (LD : KDict K w la es ne) (LN : LenG K mg la) (c_is_name : SCal P w K mg base 3 C mc "is_name" (spAsk K (strD nameB))) (c_is_link : C8.Cal P w K mg base 1 "is_link" (spIsLinkG K) []) (c___contains__ : C8.Met P w K mg base 1 C "__contains__" (spContains K C) [])
    (c__is_list : C8.Met P w K mg base 4 C "_is_list" (spIsListG K C) []) :
    C8.Met P w K mg base 5 C "_is_column" (spIsColumnG K C) [] := by
  have sc : FnScope ["self", "column", "names"] ["self", "column", "names"] (C8.fnScope s_Schema__is_column) := C8.fnScope_by (by decide +kernel)
  refine C8.met0 S.cls me F b sc (fun vs H Q E h => ?_) (fun cdv A outer s H vs Q E hr h => ?_)
  · obtain ⟨_, _, _, _, _, _, _, _, _, _, rfl, _⟩ := h
    rfl
  · obtain ⟨p, nl, v, d, ns, dc, dl, cvs, rs, ts, rfl, hP, hd, hz, hn, hts, hmk, k⟩ := h
    obtain ⟨⟨dx, fs, h1, h2⟩, h3, h4, h5, h6, h7, _, _, _⟩ := id hP
    refine ⟨_, (pss_cons (ps_if (PW.pt (pw_or (pt_not (pt_val (pe_callB (call_isiK1 (K := K) rfl) (by rfl) B.isinstance_ (by decide +kernel) (pa_cons (pv 1) (pa_cons (pe_bltn (v := .ty "tuple") (u := .type "tuple") (by rfl) B.tuple_ (by decide +kernel) rfl) pa_nil))))) (pw_or (pt_cmpR op_lt (pe_callB (call_len_seqK (K := K) rfl) (by rfl) B.len_ (by decide +kernel) (pa_cons (pv 1) pa_nil)) pe_int (nomark _)) (pw_or1 (pt_not (pt_val (pe_callB (call_isiK1 (K := K) rfl) (by rfl) B.isinstance_ (by decide +kernel) (pa_cons (pe_ix (ix_tupK (K := K) rfl) (pv 1) pe_int (fun _ _ => rfl)) (pa_cons (pe_bltn (v := .ty "str") (u := .type "str") (by rfl) B.str_ (by decide +kernel) rfl) pa_nil)))))))))
        (pss_one (ps_ret pe_bl))
        pss_nil)
        (pss_cons (ps_if (pt_cmpR op_ne ((pe_kgetD LD (C8.pe_gc rfl LN.LENGTHS_) (pe_ix (ix_tupK (K := K) rfl) (pv 1) pe_int (fun _ _ => rfl)) pe_int ⟨rfl, rfl, rfl, rfl⟩)) (pe_callB (call_len_seqK (K := K) rfl) (by rfl) B.len_ (by decide +kernel) (pa_cons (pv 1) pa_nil)) (nomark _))
        (pss_one (ps_ret pe_bl))
        pss_nil)
        (pss_cons (ps_if (PW.pt (pw_or (pt_not (pt_val (pe_sm c_is_name hr (by decide) (C8.pe_gc rfl T.Schema_) (pa_cons (pe_ix (ix_tupK (K := K) rfl) (pv 1) pe_int (fun _ _ => rfl)) pa_nil)))) (pw_or1 (pt_cmpR (op_in_seqK (K := K) rfl) (pe_ix (ix_tupK (K := K) rfl) (pv 1) pe_int (fun _ _ => rfl)) (pv 2) (by rfl)))))
        (pss_one (ps_ret pe_bl))
        pss_nil)
        (pss_cons (ps_if (pt_val (C8.pe_c c_is_link hr (by decide) rfl (pa_cons (pv 1) pa_nil)))
        (pss_one (ps_ret (pe_and (pe_cmpR (op_oin (dvs := []) c___contains__ hr (by decide)) (pe_ix (ix_tupK (K := K) rfl) (pv 1) pe_int (fun _ _ => rfl)) (pv 0) (by rfl)) (pe_and (pe_callB (call_isiK1 (K := K) rfl) (by rfl) B.isinstance_ (by decide +kernel) (pa_cons (pe_ix (ix_tupK (K := K) rfl) (pv 1) pe_int (fun _ _ => rfl)) (pa_cons (pe_bltn (v := .ty "bool") (u := .type "bool") (by rfl) B.bool_ (by decide +kernel) rfl) pa_nil))) (pe_one (C8.pe_mt c__is_list hr (by decide) (pv 0) (pa_cons (pe_ix (ix_tupK (K := K) rfl) (pv 1) pe_int (fun _ _ => rfl)) (pa_cons (pe_ix (ix_tupK (K := K) rfl) (pv 1) pe_int (fun _ _ => rfl)) pa_nil))))))))
        pss_nil)
        (pss_one (ps_ret (pe_or (pe_cmpR op_ne (pe_ix (ix_tupK (K := K) rfl) (pv 1) pe_int (fun _ _ => rfl)) pe_str (nomark _)) (pe_one (pe_callB (call_isiK1 (K := K) rfl) (by rfl) B.isinstance_ (by decide +kernel) (pa_cons (pe_ix (ix_tupK (K := K) rfl) (pv 1) pe_int (fun _ _ => rfl)) (pa_cons (pe_bltn (v := .ty "bool") (u := .type "bool") (by rfl) B.bool_ (by decide +kernel) rfl) pa_nil))))))))))), ?_⟩
    walk_at "w"
    refine w_isTuQ hd ?_
    cases hd with
    | @tup a xs ds tt hds =>
      have lx := dpAll_len hds
      unfold isTuQ
      walk_at "w"
      refine iteD (fun h => ?_) (fun h => ?_)
      · have k0 : colB ns rs.mir ts (.tuple ds) = false := by
          match ds, lx with
          | [], _ => rfl
          | [d0], _ => cases d0 <;> rfl
          | _ :: _ :: _, lx => rw [List.length_cons, List.length_cons] at lx; omega
        rw [k0] at k
        walk_at "w"
        exact k _ (Ex.refl _)
      cases hds with
      | nil => exact absurd (by decide) h
      | @cons x0 xr0 d0 dr0 hd0 hr0 =>
      cases hr0 with
      | nil => exact absurd (by simp) h
      | @cons x1 xr d1 dr hd1 hr1 =>
      have z0 := hz _ rfl d0 (by simp)
      have z1 := hz _ rfl d1 (by simp)
      have lr := dpAll_len hr1
      walk_at "w"
      refine w_ixT (i := 0) (v := x0) tt (atI_nat (j := 0) (xs := x0 :: x1 :: xr) rfl) ?_
      walk_at "w"
      refine w_isStr hd0 ?_
      walk_at "w"
      cases hs : isStrD d0 with
      | false =>
        have k0 : colB ns rs.mir ts (.tuple (d0 :: d1 :: dr)) = false := by cases d0 <;> first | rfl | cases hs
        rw [k0] at k
        walk_at "w"
        exact k _ (Ex.refl _)
      | true =>
      obtain ⟨kk, rfl⟩ : ∃ kk, d0 = .str kk := by cases d0 <;> first | exact ⟨_, rfl⟩ | cases hs
      cases hd0
      walk_at "w"
      refine w_kgetD ?_
      walk_at "w"
      refine w_ixT (i := 0) (v := .str kk) tt (atI_nat (j := 0) (xs := .str kk :: x1 :: xr) rfl) ?_
      walk_at "w"
      refine w_kgetI (LN.at_ kk) ?_
      walk_at "w"
      have k : ∀ H', Ex H H' → Q (.bl (decide (lenD kk = dr.length + 2) && (strD nameB d1 && (!strD (fun x => decide (x ∈ ns)) d1 && restB rs.mir ts kk dr)))) H' := k
      refine iteND (fun hl => ?_) (fun hl => ?_)
      · have hl' : ¬ lenD kk = dr.length + 2 := fun e => hl (by rw [e, ← lr]; simp only [List.length_cons])
        rw [decide_eq_false hl'] at k
        walk_at "w"
        exact k _ (Ex.refl _)
      have hl' : lenD kk = dr.length + 2 := by
        have hl := V.int.inj hl
        simp only [List.length_cons] at hl
        omega
      rw [decide_eq_true hl'] at k
      have k : ∀ H', Ex H H' → Q (.bl (strD nameB d1 && (!strD (fun x => decide (x ∈ ns)) d1 && restB rs.mir ts kk dr))) H' := k
      walk_at "w"
      refine w_ixT (i := 1) (v := x1) tt (atI_nat (j := 1) (xs := .str kk :: x1 :: xr) rfl) ?_
      walk_at "w"
      refine ⟨x1, d1, rfl, hd1, z1, ?_⟩
      walk_at "w"
      cases hb : strD nameB d1 with
      | false =>
        rw [hb] at k
        walk_at "w"
        exact k _ (Ex.refl _)
      | true =>
      rw [hb] at k
      obtain ⟨nm, rfl, hnm⟩ := strD_str hb
      cases hd1
      have k : ∀ H', Ex H H' → Q (.bl (!decide (nm ∈ ns) && restB rs.mir ts kk dr)) H' := k
      walk_at "w"
      refine w_ixT (i := 1) (v := .str nm) tt (atI_nat (j := 1) (xs := .str kk :: .str nm :: xr) rfl) ?_
      walk_at "w"
      refine w_inStr hn ?_
      walk_at "w"
      refine iteD (fun hin => ?_) (fun hin => ?_)
      · rw [decide_eq_true hin] at k
        walk_at "w"
        exact k _ (Ex.refl _)
      rw [decide_eq_false hin] at k
      have k : ∀ H', Ex H H' → Q (.bl (restB rs.mir ts kk dr)) H' := k
      walk_at "w"
      refine ⟨a, _, kk, rfl, tt, atI_nat (j := 0) (xs := .str kk :: .str nm :: xr) rfl, ?_⟩
      walk_at "w"
      refine iteD (fun hk => ?_) (fun hk => ?_)
      · subst hk
        have ldr : dr.length = 3 := by
          have e : lenD "link" = 5 := by decide +kernel
          omega
        match dr, hr1, lr, ldr, k with
        | [d2, d3, d4], hr1, lr, _, k =>
        have k : ∀ H', Ex H H' → Q (.bl (strD (fun x => decide (x ∈ ts.map (·.1))) d2 && (isBoQ d3 && tgtD rs.mir ts d4 d2))) H' := k
        cases hr1 with
        | @cons x2 _ _ _ hd2 hr2 =>
        cases hr2 with
        | @cons x3 _ _ _ hd3 hr3 =>
        cases hr3 with
        | @cons x4 _ _ _ hd4 hr4 =>
        cases hr4
        have z4 := hz _ rfl d4 (by simp)
        walk_at "w"
        refine w_ownIn h1 ?_
        refine ⟨p, x2, d2, dc, dl, cvs, rs, ts, rfl, hP, hd2, ?_⟩
        cases hb2 : strD (fun x => decide (x ∈ ts.map (·.1))) d2 with
        | false =>
          rw [hb2] at k
          refine ⟨_, rfl, ⟨_, rfl, iteF ?_⟩⟩
          walk_at "w"
          exact k _ (Ex.refl _)
        | true =>
        rw [hb2] at k
        obtain ⟨tg, rfl, htg⟩ := strD_str hb2
        have htg := of_decide_eq_true htg
        cases hd2
        obtain ⟨cs, g1⟩ := look_of htg
        obtain ⟨ls, g2⟩ := look_of (show tg ∈ rs.mir.map (·.1) by rw [hmk]; exact htg)
        have k : ∀ H', Ex H H' → Q (.bl (isBoQ d3 && tgtD rs.mir ts d4 (.str tg))) H' := k
        have et : tgtD rs.mir ts d4 (.str tg) = isListD cs ls d4 := by
          unfold tgtD
          simp only [g1, g2]
        rw [et] at k
        refine ⟨_, rfl, ⟨_, rfl, iteT ?_⟩⟩
        walk_at "w"
        refine w_isBoQ hd3 ?_
        cases hb3 : isBoQ d3 with
        | false =>
          rw [hb3] at k
          refine ⟨_, rfl, iteF ?_⟩
          walk_at "w"
          exact k _ (Ex.refl _)
        | true =>
        rw [hb3] at k
        refine ⟨_, rfl, iteT ?_⟩
        walk_at "w"
        refine w_kMeth h1 (h2.no _ (by decide)) ?_
        walk_at "w"
        refine ⟨p, tg, x4, d4, dc, dl, cvs, rs, ts, cs, ls, rfl, hP, hd4, g1, g2, hts _ (PySem.mem_of_lookup g1), z4, fun H' ex => ?_⟩
        exact k _ ex
      · have er : restB rs.mir ts kk dr = (!decide (kk = "word") || oneB dr) := by
          unfold restB
          rw [if_neg hk]
        rw [er] at k
        walk_at "w"
        refine w_ixT (i := 0) (v := .str kk) tt (atI_nat (j := 0) (xs := .str kk :: .str nm :: xr) rfl) ?_
        walk_at "w"
        refine iteND (fun hw => ?_) (fun hw => ?_)
        · rw [decide_eq_false (show ¬ kk = "word" from fun e => hw (by rw [e]))] at k
          exact k _ (Ex.refl _)
        · have hw := V.str.inj hw
          subst hw
          have ldr : dr.length = 1 := by
            have e : lenD "word" = 3 := by decide +kernel
            have hl' : lenD "word" = dr.length + 2 := hl'
            omega
          obtain ⟨d2, rfl⟩ : ∃ d2, dr = [d2] := by
            match dr, ldr with
            | [d2], _ => exact ⟨d2, rfl⟩
          have k : ∀ H', Ex H H' → Q (.bl (isBoQ d2)) H' := k
          cases hr1 with
          | @cons x2 _ _ _ hd2 hr2 =>
          cases hr2
          walk_at "w"
          refine w_isBoQ hd2 ?_
          exact k _ (Ex.refl _)
    | _ =>
      unfold isTuQ
      walk_at "w"
      exact k _ (Ex.refl _)
end
end LP
namespace LP
open PySem L2
open Evl (Ex)
def isBoolD (d : PyData) : Bool := match d with
  | .bool _ => true
  | _ => false
theorem w_isBool {K : PySem.W.Frag} {H : Hp} {Q : VK} {v : V} {d : PyData} (h : Dp K H v d) (q : Q (.bl (isBoolD d)) H) : rIsi K [v, .ty "bool"] H Q := by
  refine w_isi (dp_ty h) ?_ q
  cases d with
  | none => show kitB "NoneType" "bool" = some false; decide +kernel
  | bool b => show kitB "bool" "bool" = some true; decide +kernel
  | int i => show kitB "int" "bool" = some false; decide +kernel
  | str x => show kitB "str" "bool" = some false; decide +kernel
  | list l => show kitB "list" "bool" = some false; decide +kernel
  | tuple l => show kitB "tuple" "bool" = some false; decide +kernel
  | dict l => show kitB "dict" "bool" = some false; decide +kernel
def sameB (d e : PyData) : Bool := PyData.eqv d e && decide (isBoolD d = isBoolD e)
def spSame (K : PySem.W.Frag) : Sp := fun vs H Q _ => ∃ (x y : V) (d e : PyData), vs = [x, y] ∧ Dp K H x d ∧ Dp K H y e ∧ SeqAt.shaped d = true ∧ SeqAt.shaped e = true ∧ Q (.bl (sameB d e)) H
/-- what the law's values are like -/
structure AnyOk (d : PyData) : Prop where
  sh : SeqAt.shaped d = true
  st : ∀ x, d = .str x → x.length ≤ 100
def Asc (x : Str) : Prop := ∀ c ∈ x.cps.toList, c < 128
theorem Asc.ok {x : Str} (h : Asc x) : SOk x := by
  unfold SOk PyData.strOk
  rw [← Array.all_toList,
          List.all_eq_true]
  intro c hc
  have := h c hc
  exact decide_eq_true
          (by omega)
theorem Low.asc {x : Str} (h : Low x) : Asc x := fun c hc => by have := h c hc; omega
theorem Asc.cat {x y : Str} (h : Asc x) (h' : Asc y) : Asc (x ++ y) := fun c hc => by
  have e : (x ++ y).cps.toList = x.cps.toList ++ y.cps.toList := by
    show (x.cps ++ y.cps).toList = _
    rw [Array.toList_append]
  rw [e] at hc
  rcases List.mem_append.1 hc with hc | hc
  · exact h c hc
  · exact h' c hc
theorem AnyOk.str {x : Str} (h : Asc x) (hl : x.length ≤ 100) : AnyOk (.str x) := ⟨by
  unfold SeqAt.shaped
  rw [Bool.and_eq_true]
  exact ⟨by simp only [PyData.canLay0]; exact h.ok, by simp [PyData.depth]⟩, fun y e => by cases e; exact hl⟩
def spValue (K : PySem.W.Frag) : Sp := fun vs H Q _ => ∃ (b : Addr) (n : Nat), vs = [.ref b] ∧ BagAt H b n ∧ n < 70000000 ∧ ∀ (v : V) (d : PyData) (H' : Hp), Dp K (del b H') v d → AnyOk d → BagAt H' b (n + 20) → Ex (del b H) H' → Q v H'
section
variable {base : Heap} {mg : Str → Option Value} {K : PySem.W.Frag} {w : World} {P : Program}
theorem res_asc : ∀ x ∈ reservedL, (∀ c ∈ x.cps.toList, c < 128) ∧ x.length ≤ 8 := by decide +kernel
theorem res_up : ∀ x ∈ reservedL, (∀ c ∈ (Txt.upper x).cps.toList, c < 128) ∧ (Txt.upper x).length ≤ 8 := by decide +kernel
theorem sg_asc : ∀ x ∈ (["A", "Z", "0", "9", " ", "_", "-", ".", "?", "'", "~", "a"] : List Str), (∀ c ∈ x.cps.toList, c < 128) ∧ x.length ≤ 1 := by decide +kernel
theorem end_asc : ∀ x ∈ (["s", "", " ", "a", "ing"] : List Str), (∀ c ∈ x.cps.toList, c < 128) ∧ x.length ≤ 3 := by decide +kernel
theorem take_asc {x : Str} (h : Asc x) (n : Nat) : Asc (S (x.cps.toList.take n)) := fun c hc => h c (List.mem_of_mem_take hc)
theorem drop_asc {x : Str} (h : Asc x) (n : Nat) : Asc (S (x.cps.toList.drop n)) := fun c hc => h c (List.mem_of_mem_drop hc)
end
end LP
namespace LP
open PySem L2
open Evl (Ex)
/-! ### what may change while a schema is made -/
def ExO (own : List Addr) (H H' : Hp) : Prop := ∀ a o, H a = some o → a ∉ own → H' a = some o
theorem ExO.refl {own : List Addr} {H : Hp} : ExO own H H := fun _ _ h _ => h
theorem ExO.of {own : List Addr} {H H' : Hp} (e : Ex H H') : ExO own H H' := fun _ _ h _ => e _ _ h
theorem ExO.trans {own : List Addr} {H H1 H2 : Hp} (a : ExO own H H1) (b : ExO own H1 H2) : ExO own H H2 := fun c o h n => b c o (a c o h n) n
theorem ExO.put {own : List Addr} {H H1 : Hp} {a : Addr} {o : HO} (e : ExO own H H1) (h : a ∈ own) : ExO own H (upd H1 a o) := fun c u hc n => by
  rw [upd_ne (show c ≠ a from fun z => n (by rw [z]; exact h))]
  exact e c u hc n
/-- .. and what is new may change -/
theorem ExO.mut {own : List Addr} {H H1 : Hp} {a : Addr} {o : HO} (e : ExO own H H1) (h : H a = none) : ExO own H (upd H1 a o) := fun c u hc n => by
  rw [upd_ne (ne_of_none hc h)]
  exact e c u hc n
def Rows.own (dc dl : Addr) (rs : Rows) : List Addr := dc :: dl :: rs.map fun r => r.2.1
/-! ### a column's list -/
def addCol (t : Str) (m : List (Str × Lists)) (c : Col) : List (Str × Lists) := match c.lst with
  | none => m
  | some l => m.map fun r => if r.1 = c.target then (r.1, r.2 ++ [(l, t, c.name)]) else r
def rsAdd (t : Str) (rs : Rows) (c : Col) : Rows := match c.lst with
  | none => rs
  | some l => rs.map fun r => if r.1 = c.target then (r.1, r.2.1, r.2.2 ++ [(l, t, c.name)]) else r
theorem rsAdd_mir (t : Str) (rs : Rows) (c : Col) : (rsAdd t rs c).mir = addCol t rs.mir c := by
  unfold rsAdd addCol
  cases c.lst with
  | none => rfl
  | some l =>
    show (List.map _ rs).map _ = List.map _ (List.map _ rs)
    rw [List.map_map,
            List.map_map]
    refine List.map_congr_left fun r _ => ?_
    simp only [Function.comp]
    by_cases h : r.1 = c.target
    · rw [if_pos h, if_pos h]
    · rw [if_neg h, if_neg h]
theorem rsAdd_adr (t : Str) (rs : Rows) (c : Col) : (rsAdd t rs c).map (fun r => r.2.1) = rs.map fun r => r.2.1 := by
  unfold rsAdd
  cases c.lst with
  | none => rfl
  | some l =>
    show (rs.map _).map _ = _
    rw [List.map_map]
    refine List.map_congr_left fun r _ => ?_
    simp only [Function.comp]
    by_cases h : r.1 = c.target
    · rw [if_pos h]
    · rw [if_neg h]
theorem rsAdd_key (t : Str) (rs : Rows) (c : Col) : (rsAdd t rs c).map (fun r => r.1) = rs.map fun r => r.1 := by
  unfold rsAdd
  cases c.lst with
  | none => rfl
  | some l =>
    show (rs.map _).map _ = _
    rw [List.map_map]
    refine List.map_congr_left fun r _ => ?_
    simp only [Function.comp]
    by_cases h : r.1 = c.target
    · rw [if_pos h]
    · rw [if_neg h]
theorem rsAdd_kvs (t : Str) (rs : Rows) (c : Col) : (rsAdd t rs c).kvs = rs.kvs := by
  unfold rsAdd
  cases c.lst with
  | none => rfl
  | some l =>
    show (rs.map _).map _ = rs.map _
    rw [List.map_map]
    refine List.map_congr_left fun r _ => ?_
    simp only [Function.comp]
    by_cases h : r.1 = c.target
    · rw [if_pos h]
    · rw [if_neg h]
theorem rsAdd_len (t : Str) (rs : Rows) (c : Col) {n : Nat} (h : ∀ r ∈ rs, r.2.2.length ≤ n) : ∀ r ∈ rsAdd t rs c, r.2.2.length ≤ n + 1 := by
  unfold rsAdd
  cases c.lst with
  | none => exact fun r hr => Nat.le_succ_of_le (h r hr)
  | some l =>
    intro r hr
    obtain ⟨r0, h0, rfl⟩ := List.mem_map.mp hr
    have := h r0 h0
    by_cases e : r0.1 = c.target
    · rw [if_pos e]
      show (r0.2.2 ++ [_]).length ≤ _
      rw [List.length_append]
      simpa using this
    · rw [if_neg e]
      omega
theorem eq_of_key : ∀ {rs : Rows} {r r' : Str × Addr × Lists}, (rs.map fun r => r.1).Nodup → r ∈ rs → r' ∈ rs → r.1 = r'.1 → r = r'
  | x :: xs, r, r', nd, h, h', e => by
    rw [List.map_cons,
            List.nodup_cons] at nd
    rcases List.mem_cons.1 h with q | q
    · rcases List.mem_cons.mp h' with q' | q'
      · rw [q, q']
      · refine absurd (List.mem_map.mpr ⟨r', q', ?_⟩) nd.1
        rw [← e, q]
    · rcases List.mem_cons.mp h' with q' | q'
      · refine absurd (List.mem_map.mpr ⟨r, q, ?_⟩) nd.1
        rw [e, q']
      · exact eq_of_key nd.2 q q' e
theorem eq_of_adr : ∀ {rs : Rows} {r r' : Str × Addr × Lists}, (rs.map fun r => r.2.1).Nodup → r ∈ rs → r' ∈ rs → r.2.1 = r'.2.1 → r = r'
  | x :: xs, r, r', nd, h, h', e => by
    rw [List.map_cons,
            List.nodup_cons] at nd
    rcases List.mem_cons.1 h with q | q
    · rcases List.mem_cons.mp h' with q' | q'
      · rw [q, q']
      · refine absurd (List.mem_map.mpr ⟨r', q', ?_⟩) nd.1
        rw [← e, q]
    · rcases List.mem_cons.mp h' with q' | q'
      · refine absurd (List.mem_map.mpr ⟨r, q, ?_⟩) nd.1
        rw [e, q']
      · exact eq_of_adr nd.2 q q' e
theorem ColRow.put {H : Hp} {a : Addr} {kvs : List (Key × V)} {o : HO} {kv : Key × V} {t : Str × List Col} (ha : H a = some (.dK kvs)) (h : ColRow H kv t) : ColRow (upd H a o) kv t := by
  obtain ⟨h1, b, vs, h2, h3, h4⟩ := h
  refine ⟨h1, b, vs, h2, by rw [upd_ne (ne_of h3 ha (by intro z; cases z))]; exact h3, paired_imp (fun v c hc => ?_) h4⟩
  obtain ⟨x, e, hx⟩ := hc
  exact ⟨x, e, by rw [upd_ne (ne_of hx ha (by intro z; cases z))]; exact hx⟩
theorem ListEnt.put {H : Hp} {a : Addr} {kvs : List (Key × V)} {o : HO} {kv : Key × V} {t : Str × Str × Str} (ha : H a = some (.dK kvs)) (h : ListEnt H kv t) : ListEnt (upd H a o) kv t := by
  obtain ⟨h1, b, h2, h3⟩ := h
  exact ⟨h1, b, h2, by rw [upd_ne (ne_of h3 ha (by intro z; cases z))]; exact h3⟩
theorem ListRow.put {H : Hp} {a b : Addr} {kvs : List (Key × V)} {o : HO} {ls : Lists} (ha : H a = some (.dK kvs)) (ne : b ≠ a) (h : ListRow H b ls) : ListRow (upd H a o) b ls := by
  obtain ⟨k, h1, h2⟩ := h
  exact ⟨k, by rw [upd_ne ne]; exact h1, paired_imp (fun _ _ => ListEnt.put ha) h2⟩
/-- a column's list has come -/
theorem Part.addList {C : Addr} {H : Hp} {p dc dl a b : Addr} {cvs kvs : List (Key × V)} {rs : Rows} {ts : Tabs} {ls : Lists} {c : Col} {t l : Str} (h : Part C H p dc dl cvs rs ts) (hl : c.lst = some l) (hr : (c.target, a, ls) ∈ rs) (ha : H a = some (.dK kvs)) (hk : Paired (ListEnt H) kvs ls)
    (hb : H b = some (.tup [.str t, .str c.name])) : Part C (upd H a (.dK (kvs ++ [(.inr l, .ref b)]))) p dc dl cvs (rsAdd t rs c) ts := by
  obtain ⟨⟨dx, fs, h1, h2⟩, h3, h4, h5, h6, h7, h8, h9, h10⟩ := h
  obtain ⟨d1, d2⟩ := h9 _ hr
  have hb' : ∀ o, (upd H a o) b = some (.tup [.str t, .str c.name]) := fun o => by rw [upd_ne (ne_of hb ha (by intro z; cases z))]; exact hb
  refine ⟨⟨dx, fs, by rw [upd_ne (ne_of h1 ha (by intro z; cases z))]; exact h1, h2⟩, by rw [upd_ne (Ne.symm d1)]; exact h3, paired_imp (fun _ _ => ColRow.put ha) h4, by rw [rsAdd_kvs, upd_ne (Ne.symm d2)]; exact h5, fun r hr' => ?_, by rw [rsAdd_adr]; exact h7, h8, fun r hr' => ?_, by rw [rsAdd_key]; exact h10⟩
  · unfold rsAdd at hr'
    rw [hl] at hr'
    obtain ⟨r0, h0, rfl⟩ := List.mem_map.mp hr'
    by_cases e : r0.1 = c.target
    · obtain rfl := eq_of_key h10 h0 hr e
      rw [if_pos rfl]
      exact ⟨_, upd_same, paired_app (paired_imp (fun _ _ => ListEnt.put ha) hk) (.cons ⟨rfl, b, rfl, hb' _⟩ .nil)⟩
    · rw [if_neg e]
      exact (h6 r0 h0).put ha fun z => e (congrArg (fun r => r.1) (eq_of_adr h7 h0 hr z))
  · have : r.2.1 ∈ rs.map fun r => r.2.1 := by
      rw [← rsAdd_adr t rs c]
      exact List.mem_map.mpr ⟨r, hr', rfl⟩
    obtain ⟨r0, h0, e⟩ := List.mem_map.mp this
    rw [← e]
    exact h9 r0 h0
theorem putK_new {kvs : List (Key × V)} {k : Key} {v : V} (h : valV kvs k = none) : putK kvs k v = kvs ++ [(k, v)] := by
  unfold putK
  rw [if_neg]
  unfold valV at h
  rw [Option.map_eq_none_iff, List.find?_eq_none] at h
  rw [List.any_eq_true]
  rintro ⟨x, hx, e⟩
  exact h x hx e
/-- columns that may stand in the next table -/
def ColsIn (t : Str) (cs : List Col) (m : List (Str × Lists)) (ts : Tabs) : Prop := ∀ d c r, d ++ c :: r = cs → ColIn c (d.map Col.name) (d.foldl (addCol t) m) ts
def spTakeCols (K : PySem.W.Frag) (C : Addr) : Sp := fun vs H Q _ => ∃ (p q : Addr) (i : V) (t : Str) (xs : List V) (cs : List Col) (dc dl : Addr) (cvs : List (Key × V)) (rs : Rows) (ts : Tabs), vs = [.ref p, i, .str t, .ref q] ∧ Part C H p dc dl cvs rs ts ∧
  H q = some (.lst xs) ∧ ColsV H xs cs ∧ cs.length ≤ 20 ∧ ts.length ≤ 100 ∧ t ∉ ts.map (·.1) ∧ rs.mir.map (·.1) = ts.map (·.1) ∧ (∀ r ∈ rs, r.2.2.length ≤ 500) ∧ ColsIn t cs rs.mir ts ∧
  ∀ (T D : Addr) (H' : Hp), H D = none → ExO (rs.own dc dl) H H' → Part C H' p dc dl (cvs ++ [(.inr t, .ref T)]) (cs.foldl (rsAdd t) rs ++ [(t, D, [])]) (ts ++ [(t, cs)]) → Q .non H'
end LP
namespace LP
open PySem L2
open Evl (Ex)
theorem foldl_adr (t : Str) : ∀ (cs : List Col) (rs : Rows), (cs.foldl (rsAdd t) rs).map (fun r => r.2.1) = rs.map fun r => r.2.1
  | [], _ => rfl
  | c :: r, rs => by rw [List.foldl_cons, foldl_adr t r, rsAdd_adr]
theorem foldl_mir (t : Str) : ∀ (cs : List Col) (rs : Rows), (cs.foldl (rsAdd t) rs).mir = cs.foldl (addCol t) rs.mir
  | [], _ => rfl
  | c :: r, rs => by rw [List.foldl_cons, foldl_mir t r, rsAdd_mir, List.foldl_cons]
theorem foldl_kvs (t : Str) : ∀ (cs : List Col) (rs : Rows), (cs.foldl (rsAdd t) rs).kvs = rs.kvs
  | [], _ => rfl
  | c :: r, rs => by rw [List.foldl_cons, foldl_kvs t r, rsAdd_kvs]
theorem foldl_key (t : Str) : ∀ (cs : List Col) (rs : Rows), (cs.foldl (rsAdd t) rs).map (fun r => r.1) = rs.map fun r => r.1
  | [], _ => rfl
  | c :: r, rs => by rw [List.foldl_cons, foldl_key t r, rsAdd_key]
theorem foldl_lens (t : Str) : ∀ (cs : List Col) (rs : Rows) (n : Nat), (∀ r ∈ rs, r.2.2.length ≤ n) → ∀ r ∈ cs.foldl (rsAdd t) rs, r.2.2.length ≤ n + cs.length
  | [], _, _, h => h
  | c :: r, rs, n, h => fun x hx => by
    have := foldl_lens t r (rsAdd t rs c) (n + 1) (rsAdd_len t rs c h) x hx
    rw [List.length_cons]
    omega
theorem own_eq (dc dl : Addr) (t : Str) (cs : List Col) (rs : Rows) : Rows.own dc dl (cs.foldl (rsAdd t) rs) = rs.own dc dl := by
  unfold Rows.own
  rw [foldl_adr]
theorem Col.lst_link {c : Col} {l : Str} (h : c.lst = some l) : c.isLink = true := by
  cases c <;> first | rfl | cases h
theorem ColAt.put {H : Hp} {a : Addr} {kvs : List (Key × V)} {o : HO} {v : V} {c : Col} (ha : H a = some (.dK kvs)) (h : ColAt H v c) : ColAt (L2.upd H a o) v c := by
  obtain ⟨x, e, hx⟩ := h
  exact ⟨x, e, by rw [upd_ne (ne_of hx ha (by intro z; cases z))]; exact hx⟩
theorem ColsV.put {H : Hp} {a : Addr} {kvs : List (Key × V)} {o : HO} {vs : List V} {cs : List Col} (ha : H a = some (.dK kvs)) (h : ColsV H vs cs) : ColsV (L2.upd H a o) vs cs := paired_imp (fun _ _ => ColAt.put ha) h
/-- a list that is no dict, no instance of ours, changes: the schema stays -/
theorem Part.upd {C : Addr} {H : Hp} {p dc dl q : Addr} {cvs : List (Key × V)} {rs : Rows} {ts : Tabs} {xs : List V} {o : HO} (hq : H q = some (.lst xs)) (h : Part C H p dc dl cvs rs ts) : Part C (upd H q o) p dc dl cvs rs ts := by
  obtain ⟨⟨dx, fs, h1, h2⟩, h3, h4, h5, h6, h7, h8, h9, h10⟩ := h
  have st : ∀ {a : Addr} {u : HO}, H a = some u → u ≠ .lst xs → (L2.upd H q o) a = some u := fun {a u} e n => by rw [upd_ne (ne_of e hq n)]; exact e
  refine ⟨⟨dx, fs, st h1 (by intro z; cases z), h2⟩, st h3 (by intro z; cases z), paired_imp (fun kv t h => ?_) h4, st h5 (by intro z; cases z), fun r hr => ?_, h7, h8, h9, h10⟩
  · obtain ⟨g1, b, vs, g2, g3, g4⟩ := h
    exact ⟨g1, b, vs, g2, st g3 (by intro z; cases z), g4.upd hq⟩
  · obtain ⟨k, g1, g2⟩ := h6 r hr
    refine ⟨k, st g1 (by intro z; cases z), paired_imp (fun kv e h => ?_) g2⟩
    obtain ⟨g3, b, g4, g5⟩ := h
    exact ⟨g3, b, g4, st g5 (by intro z; cases z)⟩
theorem rows_none {rs : Rows} {t : Str} (h : t ∉ rs.map fun r => r.1) : valV rs.kvs (Sum.inr t : Key) = none := by
  unfold valV
  rw [Option.map_eq_none_iff, List.find?_eq_none]
  intro kv hkv
  obtain ⟨r, hr, rfl⟩ := List.mem_map.mp hkv
  simp only [decide_eq_true_eq]
  intro e
  exact h (List.mem_map.mpr ⟨r, hr, Sum.inr.inj e⟩)
theorem ExO.back {own : List Addr} {H H1 : Hp} {D : Addr} (e : ExO own H H1) (h : ∀ a ∈ own, ∃ o, H1 a = some o) (hD : H1 D = none) : H D = none := by
  cases q : H D with
  | none => rfl
  | some o =>
    by_cases m : D ∈ own
    · obtain ⟨u, hu⟩ := h D m
      rw [hD] at hu
      cases hu
    · have := e D o q m
      rw [hD] at this
      cases this
theorem Part.there {C : Addr} {H : Hp} {p dc dl : Addr} {cvs : List (Key × V)} {rs : Rows} {ts : Tabs} (h : Part C H p dc dl cvs rs ts) : ∀ a ∈ rs.own dc dl, ∃ kv, H a = some (.dK kv) := fun a ha => by
  rcases List.mem_cons.1 ha with rfl | ha
  · exact ⟨_, h.hdc⟩
  · rcases List.mem_cons.1 ha with rfl | ha
    · exact ⟨_, h.hdl⟩
    · obtain ⟨r0, hr0, rfl⟩ := List.mem_map.mp ha
      obtain ⟨kv, g, _⟩ := h.lst r0 hr0
      exact ⟨kv, g⟩
theorem Part.addTab {C : Addr} {H : Hp} {p dc dl T D : Addr} {cvs : List (Key × V)} {rs : Rows} {ts : Tabs} {t : Str} {xs : List V} {cs : List Col} (h : Part C H p dc dl cvs rs ts) (hT : H T = some (.tup xs)) (hc : ColsV H xs cs) (hk : t ∉ rs.map fun r => r.1)
    (hD : (L2.upd H dc (.dK (cvs ++ [(.inr t, .ref T)]))) D = none) :
    Part C (L2.upd (L2.upd (L2.upd H dc (.dK (cvs ++ [(.inr t, .ref T)]))) D (.dK [])) dl (.dK (Rows.kvs (rs ++ [(t, D, [])])))) p dc dl (cvs ++ [(.inr t, .ref T)]) (rs ++ [(t, D, [])]) (ts ++ [(t, cs)]) := by
  obtain ⟨⟨dx, fs, h1, h2⟩, h3, h4, h5, h6, h7, h8, h9, h10⟩ := h
  have q1 : ∀ {a : Addr} {u : HO}, H a = some u → a ≠ dc → (L2.upd H dc (.dK (cvs ++ [(.inr t, .ref T)]))) a = some u := fun {a u} e n => by rw [upd_ne n]; exact e
  have s1 : (L2.upd H dc (.dK (cvs ++ [(.inr t, .ref T)]))) dc = some (.dK (cvs ++ [(.inr t, .ref T)])) := upd_same
  have hdl1 := q1 h5 (Ne.symm h8)
  have c1 : ∀ {kv t'}, ColRow H kv t' → ColRow (L2.upd H dc (.dK (cvs ++ [(.inr t, .ref T)]))) kv t' := fun h => h.put h3
  have l1 : ∀ {a : Addr} {ls}, a ≠ dc → ListRow H a ls → ListRow (L2.upd H dc (.dK (cvs ++ [(.inr t, .ref T)]))) a ls := fun n h => h.put h3 n
  have hT1 := q1 hT (ne_of hT h3 (by intro z; cases z))
  have hc1 := hc.put (o := .dK (cvs ++ [(.inr t, .ref T)])) h3
  have hp1 := q1 h1 (ne_of h1 h3 (by intro z; cases z))
  generalize (L2.upd H dc (.dK (cvs ++ [(.inr t, .ref T)]))) = H1 at hD s1 hdl1 c1 l1 hT1 hc1 hp1 ⊢
  have e2 : Ex H1 (L2.upd H1 D (.dK [])) := Ex.new hD
  have hD2 : (L2.upd H1 D (.dK [])) D = some (.dK []) := upd_same
  have Ddl : dl ≠ D := ne_of_none hdl1 hD
  have Ddc : dc ≠ D := ne_of_none s1 hD
  have Dad : ∀ r ∈ rs, r.2.1 ≠ D := fun r hr => by
    obtain ⟨k, g, _⟩ := l1 (h9 r hr).1 (h6 r hr)
    exact ne_of_none g hD
  generalize (L2.upd H1 D (.dK [])) = H2 at e2 hD2 ⊢
  have hdl2 := e2 _ _ hdl1
  refine ⟨⟨dx, fs, by rw [upd_ne (ne_of (e2 _ _ hp1) hdl2 (by intro z; cases z))]; exact e2 _ _ hp1, h2⟩, by rw [upd_ne h8]; exact e2 _ _ s1, paired_app (paired_imp (fun _ _ h => ((c1 h).ext e2).put hdl2) h4) (.cons ⟨rfl, T, xs, rfl, ?_, (hc1.ext e2).put hdl2⟩ .nil), upd_same, fun r hr => ?_, ?_, h8, fun r hr => ?_, ?_⟩
  · rw [upd_ne (ne_of (e2 _ _ hT1) hdl2 (by intro z; cases z))]
    exact e2 _ _ hT1
  · rcases List.mem_append.1 hr with hr | hr
    · exact ((l1 (h9 r hr).1 (h6 r hr)).ext e2).put hdl2 (h9 r hr).2
    · rw [List.mem_singleton] at hr
      subst hr
      exact ⟨[], by rw [upd_ne (Ne.symm Ddl)]; exact hD2, .nil⟩
  · rw [List.map_append]; rw [List.nodup_append]
    refine ⟨h7, by simp, fun a ha b hb => ?_⟩
    obtain ⟨r, hr, rfl⟩ := List.mem_map.mp ha
    simp only [List.map_cons,
            List.map_nil, List.mem_singleton] at hb
    rw [hb]
    exact Dad r hr
  · rcases List.mem_append.1 hr with hr | hr
    · exact h9 r hr
    · rw [List.mem_singleton] at hr
      subst hr
      exact ⟨Ne.symm Ddc, Ne.symm Ddl⟩
  · rw [List.map_append]; rw [List.nodup_append]
    refine ⟨h10, by simp, fun a ha b hb => ?_⟩
    simp only [List.map_cons,
            List.map_nil, List.mem_singleton] at hb
    rw [hb]
    rintro rfl
    exact hk ha
section
variable {base : Heap} {mg : Str → Option Value} {K : PySem.W.Frag} {w : World} {P : Program} {ra C : Addr}
theorem ok_take_columns {f : Addr} {fd : FuncData} (S : SchC K C) (me : Meth K C "_take_columns" f) (F : C8.Fun K "_take_columns" "Schema._take_columns" s_Schema__take_columns f fd) (b : Binds K fd ["self", "index", "table", "columns"] []) (B : Blt mg)
    (c_has_list : C8.Cal P w K mg base 2 "has_list" spHasList []) (c__is_column : C8.Met P w K mg base 5 C "_is_column" (spIsColumn K C) []) :
    C8.Met P w K mg base 6 C "_take_columns" (spTakeCols K C) [] := by
  have sc : FnScope ["self", "index", "table", "columns", "taken", "at", "column", "earlier"] ["self", "index", "table", "columns"] (C8.fnScope s_Schema__take_columns) := C8.fnScope_by (by decide +kernel)
  refine C8.met0 S.cls me F b sc (fun vs H Q E h => ?_) (fun cdv A outer s H vs Q E hr h => ?_)
  · obtain ⟨_, _, _, _, _, _, _, _, _, _, _, rfl, _⟩ := h
    rfl
  · obtain ⟨p, q, i, t, xs, cs, dc, dl, cvs, rs, ts, rfl, hP, hq, hc, hn1, hn2, hnt, hmk, hls, hin, k⟩ := h
    have lx := paired_len hc
    refine ⟨_, (pss_cons (ps_set (i := 4) sc.nd rfl (Or.inl rfl) (pe_lst pa_nil))
        (pss_cons (ps_for PassesOwn.never rfl (pi_enumK (K := K) rfl (by rfl) B.enumerate_ (pa_cons (pv 3) pa_nil)) (pg_tupK (K := K) (n := 2) rfl rfl (pgs_cons (pg_name (i := 5) sc.nd rfl (Or.inl rfl)) (pgs_cons (pg_name (i := 6) sc.nd rfl (Or.inl rfl)) pgs_nil)))
        (pss_cons (ps_if (pt_not (pt_val (C8.pe_mt c__is_column hr (by decide) (pv 0) (pa_cons (pv 6) (pa_cons (pe_lc (own := [("earlier", 7)]) (g := (gName 7)) (by rfl) sc.nd (pi_listK (K := K) rfl (pv 4)) (blkOk_by (own := [("earlier", 7)]) (N := ["self", "index", "table", "columns", "taken", "at", "column", "earlier"]) (sc := C8.fnScope s_Schema__take_columns) (by decide +kernel)) (fun _ _ _ _ _ => (pg_name (i := 7) sc.nd rfl (Or.inl rfl))) (fun _ _ _ _ _ => pts_nil) (fun _ _ _ _ _ => (pe_ix (ix_tupK (K := K) rfl) (pv 7) pe_int (fun _ _ => rfl)))) pa_nil)))))
        (pss_one ps_never)
        pss_nil)
        (pss_cons (ps_if (pt_val (C8.pe_c c_has_list hr (by decide) rfl (pa_cons (pv 6) pa_nil)))
        (pss_one (ps_dput (hu_of hr) (pe_dget (hu_of hr) (pe_fldK (K := K) rfl (pv 0) rfl) (pe_ix (ix_tupK (K := K) rfl) (pv 6) pe_int (fun _ _ => rfl)) (fun _ _ => rfl)) (pe_ix (ix_tupK (K := K) rfl) (pv 6) pe_int (fun _ _ => rfl)) (pe_tup (pa_cons (pv 2) (pa_cons (pe_ix (ix_tupK (K := K) rfl) (pv 6) pe_int (fun _ _ => rfl)) pa_nil))) rfl))
        pss_nil)
        (pss_one (ps_expr (pe_bmK (K := K) rfl PySem.F.plainAttrs_list PySem.F.slot_list_append PySem.F.type_list_append mt_append (pv 4) (pa_cons (pv 6) pa_nil)))))))
        (pss_cons (ps_dput (hu_of hr) (pe_fldK (K := K) rfl (pv 0) rfl) (pv 2) (pe_callTy (call_tuple_ofK (K := K) rfl) (by rfl) B.tuple_ (by decide +kernel) (pa_cons (pv 4) pa_nil)) rfl)
        (pss_one (ps_dput (hu_of hr) (pe_fldK (K := K) rfl (pv 0) rfl) (pv 2) pe_dnewK rfl))))), ?_⟩
    walk_at "w"
    intro tk htk
    have hq0 : SqL K (L2.upd H tk (.lst [])) q xs := SqL.of ((Ex.new htk) _ _ hq)
    walk_at "w"
    refine loopE (xs := xs) (fun d r σ' H' => ∃ x5 x6 md mr, σ' = [some (.ref p), some i, some (.str t), some (.ref q), some (.ref tk), x5, x6, none] ∧ cs = md ++ mr ∧ ColsV H' d md ∧ ColsV H' r mr ∧
      H' tk = some (.lst d) ∧ ExO (rs.own dc dl) H H' ∧ Part C H' p dc dl cvs (md.foldl (rsAdd t) rs) ts)
      ⟨_, _, [], cs, rfl, rfl, .nil, hc.ext (Ex.new htk), upd_same, ExO.of (Ex.new htk), hP.ext (Ex.new htk)⟩ (fun d r σ' H' e h => ?_) (fun d y r σ' H' Tp e hTp h => ?_) (fun σ' H' h => ?_)
    · obtain ⟨x5, x6, md, mr, rfl, ec, h1, h2, h3, h4, h5⟩ := h
      refine SqL.of (h4 _ _ hq ?_)
      intro z
      have ndk : ∀ a ∈ rs.own dc dl, ∃ kv, H a = some (.dK kv) := fun a ha => by
        rcases List.mem_cons.1 ha with rfl | ha
        · exact ⟨_, hP.hdc⟩
        · rcases List.mem_cons.1 ha with rfl | ha
          · exact ⟨_, hP.hdl⟩
          · obtain ⟨r0, hr0, rfl⟩ := List.mem_map.mp ha
            obtain ⟨kv, g, _⟩ := hP.lst r0 hr0
            exact ⟨kv, g⟩
      obtain ⟨kv, g⟩ := ndk _ z
      rw [hq] at g
      cases g
    · obtain ⟨x5, x6, md, mr, rfl, ec, h1, h2, h3, h4, h5⟩ := h
      obtain ⟨c, mr', rfl, hy, h2'⟩ := paired_cons h2
      have h2' : ColsV H' r mr' := h2'
      have cin := hin md c mr' ec.symm
      have hdl : d.length < sizeLine := Nat.lt_of_le_of_lt (m := 20) (by rw [paired_len h1]; rw [ec, List.length_append] at hn1; omega) (by decide)
      have hyE := hy
      obtain ⟨ca, rfl, hca⟩ := hy
      have h5n := h5.ext (Ex.new (o := .tup [.int (d.length : Nat), .ref ca]) hTp)
      have hTt : (L2.upd H' Tp (.tup [.int (d.length : Nat), .ref ca])) Tp = some (.tup [.int (d.length : Nat), .ref ca]) := upd_same
      have exT : Ex H' (L2.upd H' Tp (.tup [.int (d.length : Nat), .ref ca])) := Ex.new hTp
      generalize (L2.upd H' Tp (.tup [.int (d.length : Nat), .ref ca])) = H1 at h5n hTt exT ⊢
      obtain ⟨⟨dx, fs, i1, i2⟩, _, _, _, _, _, _, _, _⟩ := id h5n
      have htk1 : SqL K H1 tk d := SqL.of (exT _ _ h3)
      walk_at "w"
      refine w_kMeth i1 (i2.no _ (by decide)) ?_
      walk_at "w"
      intro D hD
      refine compQ md (ColAt H1) (fun c => some c.name) (fun v x => v = V.str x) hD (SqL.of (exT _ _ h3)) (by rw [paired_len h1]; rw [ec] at hn1; rw [List.length_append] at hn1; omega) (h1.ext exT) (fun y z hy hm H3 e3 kk kn hk hn => ?_) (fun acc H3 e3 hacc hp => ?_)
      · obtain ⟨a, rfl, ha⟩ := hy
        have ha3 := e3 _ _ ha
        walk_at "w"
        refine w_ixT (SqT.of ha3) z.at1 ?_
        exact hk _ _ _ (Ex.refl _) rfl rfl
      · rw [filterMap_some] at hp
        have ev := vals_strs hp
        walk_at "w"
        have h53 := h5n.ext e3
        refine ⟨p, D, .ref ca, c, md.map Col.name, dc, dl, cvs, _, ts, rfl, h53, (hyE.ext exT).ext e3, SqL.of (ev ▸ hacc), by rw [foldl_mir]; exact cin, fun H4 e4 => ?_⟩
        walk_at "w"
        have ex4 : Ex H' H4 := (exT.trans e3).trans e4
        have hc4 : ColAt H4 (.ref ca) c := hyE.ext ex4
        refine ⟨.ref ca, c, rfl, hc4, ?_⟩
        have h54 : Part C H4 p dc dl cvs (md.foldl (rsAdd t) rs) ts := h5.ext ex4
        have htk4 : H4 tk = some (.lst d) := ex4 _ _ h3
        have ec' : cs = (md ++ [c]) ++ mr' := by rw [ec, List.append_assoc]; rfl
        have hO4 : ExO (rs.own dc dl) H H4 := h4.trans (.of ex4)
        have tail : ∀ (H5 : Hp), Part C H5 p dc dl cvs ((md ++ [c]).foldl (rsAdd t) rs) ts → ExO (rs.own dc dl) H H5 → ColsV H5 d md → ColAt H5 (.ref ca) c → ColsV H5 r mr' → H5 tk = some (.lst d) →
            ∃ x5 x6 md' mr'', ([some (.ref p), some i, some (.str t), some (.ref q), some (.ref tk), some (.int (d.length : Nat)), some (.ref ca), none] : L2.St) = [some (.ref p), some i, some (.str t), some (.ref q), some (.ref tk), x5, x6, none] ∧ cs = md' ++ mr'' ∧ ColsV (L2.upd H5 tk (.lst (d ++ [.ref ca]))) (d ++ [.ref ca]) md' ∧ ColsV (L2.upd H5 tk (.lst (d ++ [.ref ca]))) r mr'' ∧
              (L2.upd H5 tk (.lst (d ++ [.ref ca]))) tk = some (.lst (d ++ [.ref ca])) ∧ ExO (rs.own dc dl) H (L2.upd H5 tk (.lst (d ++ [.ref ca]))) ∧ Part C (L2.upd H5 tk (.lst (d ++ [.ref ca]))) p dc dl cvs (md'.foldl (rsAdd t) rs) ts := fun H5 g1 g2 g3 g4 g5 g6 =>
          ⟨_, _, md ++ [c], mr', rfl, ec', paired_app (g3.upd g6) (.cons (g4.upd g6) .nil), g5.upd g6, upd_same, g2.mut htk, g1.upd g6⟩
        walk_at "w"
        refine iteB (fun hL => ?_) (fun hL => ?_)
        · obtain ⟨l, hl⟩ : ∃ l, c.lst = some l := Option.isSome_iff_exists.mp hL
          have hK := Col.lst_link hl
          have hca4 : H4 ca = some (.tup c.vals) := ex4 _ _ hca
          walk_at "w"
          refine w_ixT (SqT.of hca4) c.at1 ?_
          walk_at "w"
          intro bb hbb
          have ex5 : Ex H4 (L2.upd H4 bb (.tup [.str t, .str c.name])) := Ex.new hbb
          have hbb5 : (L2.upd H4 bb (.tup [.str t, .str c.name])) bb = some (.tup [.str t, .str c.name]) := upd_same
          generalize (L2.upd H4 bb (.tup [.str t, .str c.name])) = H5 at ex5 hbb5 ⊢
          have h55 := h54.ext ex5
          have hca5 : H5 ca = some (.tup c.vals) := ex5 _ _ hca4
          obtain ⟨⟨dx5, fs5, i5, j5⟩, _, _, _, _, _, _, _, _⟩ := id h55
          obtain ⟨cs', ls', e1, e2, e3', e4', e5'⟩ := cin.lk hK
          obtain ⟨la, l1, l2⟩ := rows_get (rs := md.foldl (rsAdd t) rs) (by rw [foldl_mir]; exact e2)
          obtain ⟨kvs, m1, m2⟩ := h55.lst _ l2
          have m1 : H5 la = some (.dK kvs) := m1
          have m2 : Paired (ListEnt H5) kvs ls' := m2
          walk_at "w"
          refine w_kFld i5 S.cls S.lists_ j5.l ?_
          walk_at "w"
          refine w_ixT (SqT.of hca5) (Col.at2 hK) ?_
          refine w_kG h55.hdl l1 ?_
          walk_at "w"
          refine w_ixT (SqT.of hca5) (Col.at4 hK) ?_
          rw [hl]
          have hlen : kvs.length < sizeLine := by
            have a1 := foldl_lens t md rs 500 hls _ l2
            have a2 : kvs.length = ls'.length := paired_len m2
            have a3 : ls'.length ≤ 500 + md.length := a1
            have a4 : md.length ≤ 20 := by rw [ec, List.length_append] at hn1; omega
            exact Nat.lt_of_le_of_lt (m := 1000) (by omega) (by decide)
          refine ⟨la, _, rfl, DPut.k (k := Sum.inr l) m1 hlen, ?_⟩
          rw [putK_new (show valV kvs (Sum.inr l : Key) = none from ?_)]
          · have hla : la ∈ rs.own dc dl := by
              rw [← own_eq dc dl t md rs]
              exact List.mem_cons_of_mem _ (List.mem_cons_of_mem _ (List.mem_map.mpr ⟨_, l2, rfl⟩))
            have h6 : Part C (L2.upd H5 la (.dK (kvs ++ [(.inr l, .ref bb)]))) p dc dl cvs ((md ++ [c]).foldl (rsAdd t) rs) ts := by
              rw [List.foldl_append]
              exact h55.addList hl l2 m1 m2 hbb5
            have tk6 : (L2.upd H5 la (.dK (kvs ++ [(.inr l, .ref bb)]))) tk = some (.lst d) := by
              rw [upd_ne (ne_of (ex5 _ _ htk4) m1 (by intro z; cases z))]
              exact ex5 _ _ htk4
            have T6 := tail _ h6 ((hO4.trans (.of ex5)).put hla) (((h1.ext ex4).ext ex5).put m1) ((hc4.ext ex5).put m1) ((((h2'.ext ex4)).ext ex5).put m1) tk6
            generalize (L2.upd H5 la (.dK (kvs ++ [(.inr l, .ref bb)]))) = H6 at h6 tk6 T6 ⊢
            walk_at "w"
            exact T6
          · have e6 : isListB cs' ls' (some l) = true := hl ▸ e5'
            unfold isListB at e6
            simp only [Bool.and_eq_true, Bool.not_eq_true', decide_eq_false_iff_not] at e6
            have := ListRow.has (a := la) m2 l
            rw [decide_eq_false e6.2] at this
            cases ev : valV kvs (Sum.inr l : Key) with
            | none => rfl
            | some v => rw [ev] at this; cases this
        · have T4 := tail H4 (by
              rw [List.foldl_append]
              show Part C H4 p dc dl cvs (rsAdd t (md.foldl (rsAdd t) rs) c) ts
              unfold rsAdd
              rw [show c.lst = none from Option.not_isSome_iff_eq_none.mp (by rw [hL]; exact Bool.false_ne_true)]
              exact h54) hO4 (h1.ext ex4) hc4 (h2'.ext ex4) htk4
          walk_at "w"
          exact T4
    · obtain ⟨x5, x6, md, mr, rfl, ec, h1, h2, h3, h4, h5⟩ := h
      cases h2
      rw [List.append_nil] at ec
      subst ec
      walk_at "w"
      refine w_tupL (SqL.of h3) fun T hT => ?_
      have ex1 : Ex H' (L2.upd H' T (.tup xs)) := Ex.new hT
      have hT1 : (L2.upd H' T (.tup xs)) T = some (.tup xs) := upd_same
      generalize (L2.upd H' T (.tup xs)) = H1 at ex1 hT1 ⊢
      have h51 := h5.ext ex1
      obtain ⟨⟨dx, fs, i1, i2⟩, g3, g4, g5, g6, g7, g8, g9, g10⟩ := id h51
      walk_at "w"
      refine w_kFld i1 S.cls S.columns_ i2.c ?_
      walk_at "w"
      have lc : cvs.length = ts.length := paired_len g4
      refine ⟨dc, _, rfl, DPut.k (k := Sum.inr t) g3 (Nat.lt_of_le_of_lt (m := 100) (by omega) (by decide)), ?_⟩
      rw [putK_new (show valV cvs (Sum.inr t : Key) = none from ?_)]
      · have kz : t ∉ (cs.foldl (rsAdd t) rs).map fun r => r.1 := by
          rw [foldl_key]
          rw [← hmk] at hnt
          unfold Rows.mir at hnt
          rw [List.map_map] at hnt
          exact hnt
        have adt := fun D hD => h51.addTab (t := t) (D := D) hT1 (h1.ext ex1) kz hD
        have st : ∀ {a : Addr} {u : HO}, H1 a = some u → a ≠ dc → (L2.upd H1 dc (.dK (cvs ++ [(.inr t, .ref T)]))) a = some u := fun {a u} e n => by rw [upd_ne n]; exact e
        have i3 := st i1 (ne_of i1 g3 (by intro z; cases z))
        have g5' := st g5 (Ne.symm g8)
        have fr : ∀ D, (L2.upd H1 dc (.dK (cvs ++ [(.inr t, .ref T)]))) D = none → H1 D = none := fun D hD => by
          by_cases e : D = dc
          · rw [e, upd_same] at hD
            cases hD
          · rw [upd_ne e] at hD
            exact hD
        have thO : ExO (rs.own dc dl) H H1 := h4.trans (.of ex1)
        walk_at "w"
        intro D hD
        have i4 := (Ex.new (o := .dK []) hD) _ _ i3
        have g6' := (Ex.new (o := .dK []) hD) _ _ g5'
        walk_at "w"
        refine w_kFld i4 S.cls S.lists_ i2.l ?_
        walk_at "w"
        refine ⟨dl, _, rfl, DPut.k (k := Sum.inr t) g6' ?_, ?_⟩
        · have e1 : (cs.foldl (rsAdd t) rs).kvs.length = ts.length := by
            rw [foldl_kvs]
            have := congrArg List.length hmk
            unfold Rows.mir at this
            simp only [List.length_map] at this
            show (rs.map _).length = _
            rw [List.length_map]
            exact this
          exact Nat.lt_of_le_of_lt (m := 100) (by omega) (by decide)
        · rw [putK_new (rows_none kz)]
          have HD1 : H D = none := thO.back (by rw [← own_eq dc dl t cs rs]; exact fun a ha => let ⟨kv, e⟩ := h51.there a ha; ⟨_, e⟩) (fr D hD)
          have hf := adt D hD
          have ek : Rows.kvs (cs.foldl (rsAdd t) rs ++ [(t, D, [])]) = (cs.foldl (rsAdd t) rs).kvs ++ [(.inr t, .ref D)] := by
            unfold Rows.kvs
            rw [List.map_append]
            rfl
          rw [ek] at hf
          exact k T D _ HD1 (((thO.put List.mem_cons_self).mut HD1).put (List.mem_cons_of_mem _ List.mem_cons_self)) hf
      · have := h51.has t
        rw [decide_eq_false hnt] at this
        cases ev : valV cvs (Sum.inr t : Key) with
        | none => rfl
        | some v => rw [ev] at this; cases this
end
end LP
namespace LP
open PySem L2
open Evl (Ex)
def Meets (H : Hp) (a : Addr) (m : List (Str × Bool)) : Prop := H a = some (.dK (m.map fun e => ((Sum.inr e.1 : Key), V.bl e.2)))
theorem meets_get {m : List (Str × Bool)} {n : Str} {b : Bool} (h : m.lookup n = some b) : valV (m.map fun e => ((Sum.inr e.1 : Key), V.bl e.2)) (Sum.inr n : Key) = some (.bl b) := by
  induction m with
  | nil => cases h
  | cons e r ih =>
    rw [List.lookup_cons] at h
    by_cases q : n = e.1
    · rw [show (n == e.1) = true by rw [q]; exact beq_self_eq_true _] at h
      cases h
      exact valV_pos (by rw [q])
    · rw [show (n == e.1) = false from beq_eq_false_iff_ne.mpr q] at h
      rw [List.map_cons, valV_neg (fun z => q (Sum.inr.inj z).symm)]
      exact ih h
def leads (m : List (Str × Bool)) (c : Col) : Bool := c.isLink && (m.lookup c.target == some true)
def spMeets (K : PySem.W.Frag) : Sp := fun vs H Q _ => ∃ (i : V) (a d : Addr) (xs : List V) (cs : List Col) (m : List (Str × Bool)), vs = [i, .ref a, .ref d] ∧ H a = some (.tup xs) ∧ ColsV H xs cs ∧ cs.length ≤ 20 ∧ (∀ c ∈ cs, c.Ok) ∧ Meets H d m ∧
  (∀ c ∈ cs, c.isLink = true → ∃ b, m.lookup c.target = some b) ∧ (∀ c ∈ cs, leads m c = true → listedOf cs ≠ [] → listedOf cs = [c]) ∧ ∀ H', Ex H H' → Q (.bl (meetOf m cs)) H'
theorem filter_ne {α : Type} (p : α → Bool) (l : List α) : (!(l.filter p).isEmpty) = l.any p := by
  induction l with
  | nil => rfl
  | cons c r ih =>
    cases h : p c with
    | true => rw [List.filter_cons_of_pos h, List.any_cons, h]; rfl
    | false => rw [List.filter_cons_of_neg (by rw [h]; exact Bool.false_ne_true), List.any_cons, h]; exact ih
theorem paired_empty {α β : Type} {R : α → β → Prop} {l : List α} {m : List β} (h : Paired R l m) : l.isEmpty = m.isEmpty := by cases h <;> rfl
theorem any_eqv (cs : List Col) (c : Col) : ((cs.map Col.data).any fun z => PyData.eqv z c.data) = decide (c ∈ cs) := by
  induction cs with
  | nil => rfl
  | cons e r ih =>
    rw [List.map_cons, List.any_cons, ih, Col.eqv]
    by_cases h : e = c
    · subst h
      rw [decide_eq_true rfl, decide_eq_true (show e ∈ e :: r from List.mem_cons_self)]
      rfl
    · rw [decide_eq_false h]
      by_cases h' : c ∈ r
      · rw [decide_eq_true h', decide_eq_true (List.mem_cons_of_mem _ h')]
        rfl
      · rw [decide_eq_false h', decide_eq_false (fun z => (List.mem_cons.mp z).elim (fun z => h z.symm) h')]
        rfl
theorem eqv_one (c : Col) : PyData.eqv (.list [c.data]) (.list [c.data]) = true := by
  simp [PyData.eqv, PyData.eqvAll, Col.eqv]
theorem listedOf_ne (cs : List Col) : (!(listedOf cs).isEmpty) = isListed cs := filter_ne (fun c : Col => c.lst.isSome) cs
section
variable {base : Heap} {mg : Str → Option Value} {K : PySem.W.Frag} {w : World} {P : Program}
theorem ok_meets {f : Addr} {fd : FuncData} (D : C8.Def K mg "_meets" s__meets f fd) (b : Binds K fd ["index", "columns", "meeting"] []) (B : Blt mg)
    (c_is_link : C8.Cal P w K mg base 1 "is_link" spIsLink []) (c_has_list : C8.Cal P w K mg base 2 "has_list" spHasList []) : C8.Cal P w K mg base 3 "_meets" (spMeets K) [] := by
  have sc : FnScope ["index", "columns", "meeting", "makers", "column", "leading", "at"] ["index", "columns", "meeting"] (C8.fnScope s__meets) := C8.fnScope_by (by decide +kernel)
  refine C8.cal0 D b .nil sc (fun vs H Q E h => ?_) (fun cdv A outer s H vs Q E hr h => ?_)
  · obtain ⟨_, _, _, _, _, _, rfl, _⟩ := h
    rfl
  · obtain ⟨i, a, d, xs, cs, m, rfl, ha, hc, hn, hok, hm, htg, hru, k⟩ := h
    have hat : SqT K H a xs := SqT.of ha
    have lx := paired_len hc
    refine ⟨_, (pss_cons (ps_setLc (i := 3) (own := [("column", 4)]) (g := (gName 4)) (by rfl) sc.nd rfl rfl (sw_true rfl rfl rfl (by decide +kernel)) (pi_tupK (K := K) rfl (pv 1)) (blkOk_by (own := [("column", 4)]) (N := ["index", "columns", "meeting", "makers", "column", "leading", "at"]) (sc := C8.fnScope s__meets) (by decide +kernel)) (fun _ _ _ _ _ => (pg_name (i := 4) sc.nd rfl (Or.inl rfl))) (fun _ _ _ _ _ => pts_one (pt_val (C8.pe_c c_has_list hr (by decide) rfl (pa_cons (pv 4) pa_nil)))) (fun _ _ _ _ _ => (pv 4)))
        (pss_cons (ps_setLc (i := 5) (own := [("column", 4)]) (g := (gName 4)) (by rfl) sc.nd rfl rfl (sw_true rfl rfl rfl (by decide +kernel)) (pi_tupK (K := K) rfl (pv 1)) (blkOk_by (own := [("column", 4)]) (N := ["index", "columns", "meeting", "makers", "column", "leading", "at"]) (sc := C8.fnScope s__meets) (by decide +kernel)) (fun _ _ _ _ _ => (pg_name (i := 4) sc.nd rfl (Or.inl rfl))) (fun _ _ _ _ _ => pts_one (PW.pt (pw_and (pt_val (C8.pe_c c_is_link hr (by decide) rfl (pa_cons (pv 4) pa_nil))) (pw_and1 (pt_val (pe_dget (hu_of hr) (pv 2) (pe_ix (ix_tupK (K := K) rfl) (pv 4) pe_int (fun _ _ => rfl)) (fun _ _ => rfl))))))) (fun _ _ _ _ _ => (pv 4)))
        (pss_cons (ps_for PassesOwn.never rfl (pi_enumTK (K := K) rfl (by rfl) B.enumerate_ (pa_cons (pv 1) pa_nil)) (pg_tupK (K := K) (n := 2) rfl rfl (pgs_cons (pg_name (i := 6) sc.nd rfl (Or.inl rfl)) (pgs_cons (pg_name (i := 4) sc.nd rfl (Or.inl rfl)) pgs_nil)))
        (pss_one (ps_if (PW.pt (pw_and (pt_truthK (K := K) rfl (pv 3)) (pw_and (pt_cmpR (op_inDK (K := K) rfl (hu65 hr)) (pv 4) (pv 5) (by rfl)) (pw_and1 (pt_cmpR (op_neDK (K := K) rfl (hu64 hr)) (pv 3) (pe_lst (pa_cons (pv 4) pa_nil)) (nomark _))))))
        (pss_one ps_never)
        pss_nil)))
        (pss_one (ps_ret (pe_or (pe_callTy (call_boolLK (K := K) rfl) (by rfl) B.bool_ (by decide +kernel) (pa_cons (pv 3) pa_nil)) (pe_one (pe_callTy (call_boolLK (K := K) rfl) (by rfl) B.bool_ (by decide +kernel) (pa_cons (pv 5) pa_nil))))))))), ?_⟩
    walk_at "w"
    intro D1 hD1
    refine compQT cs (ColAt H) (fun c => if c.lst.isSome = true then some c else none) (ColAt H) hD1 hat (by omega) hc (fun y c hy hmc H3 e3 kk kn hk hkn => ?_) (fun acc1 H1 e1 hacc1 hp1 => ?_)
    · have hy3 := hy.ext e3
      walk_at "w"
      refine ⟨y, c, rfl, hy3, ?_⟩
      walk_at "w"
      refine iteB (fun hL => ?_) (fun hL => ?_)
      · walk_at "w"
        exact hk _ _ _ (Ex.refl _) (by rw [if_pos hL]) hy
      · exact hkn _ (Ex.refl _) (by rw [if_neg (by rw [hL]; exact Bool.false_ne_true)])
    · rw [filterMap_if] at hp1
      have hat1 : SqT K H1 a xs := Evl.ex_t e1 hat
      have hp1 : ColsV H acc1 (listedOf cs) := hp1
      walk_at "w"
      intro D2 hD2
      refine compQT cs (ColAt H1) (fun c => if leads m c = true then some c else none) (ColAt H1) hD2 hat1 (by omega) (hc.ext e1) (fun y c hy hmc H3 e3 kk kn hk hkn => ?_) (fun acc2 H2 e2 hacc2 hp2 => ?_)
      · have hy3 := hy.ext e3
        walk_at "w"
        refine ⟨y, c, rfl, hy3, ?_⟩
        walk_at "w"
        refine iteB (fun hL => ?_) (fun hL => ?_)
        · obtain ⟨ca, rfl, hca⟩ := hy3
          obtain ⟨b', hb'⟩ := htg c hmc hL
          walk_at "w"
          refine w_ixT (SqT.of hca) (Col.at2 hL) ?_
          refine w_kG ((e1.trans e3) _ _ hm) (meets_get hb') ?_
          have el : leads m c = b' := by
            unfold leads
            rw [hL, hb']
            cases b' <;> rfl
          walk_at "w"
          refine iteB (fun hb => ?_) (fun hb => ?_)
          · walk_at "w"
            exact hk _ _ _ (Ex.refl _) (by rw [if_pos (el.trans hb)]) hy
          · exact hkn _ (Ex.refl _) (by rw [if_neg (by rw [el, hb]; exact Bool.false_ne_true)])
        · exact hkn _ (Ex.refl _) (by rw [if_neg (by unfold leads; rw [hL]; exact Bool.false_ne_true)])
      · rw [filterMap_if] at hp2
        have hat2 : SqT K H2 a xs := Evl.ex_t e2 hat1
        have hp2 : ColsV H1 acc2 (cs.filter (leads m)) := hp2
        have mk2 : SqL K H2 D1 acc1 := SqL.of (e2 _ _ hacc1)
        have ld2 : SqL K H2 D2 acc2 := SqL.of hacc2
        have v1 : ColsV H2 acc1 (listedOf cs) := (hp1.ext e1).ext e2
        have v2 : ColsV H2 acc2 (cs.filter (leads m)) := hp2.ext e2
        walk_at "w"
        refine loopET (xs := xs) (fun d' r σ' H' => ∃ x4 x6, σ' = [some i, some (.ref a), some (.ref d), some (.ref D1), x4, some (.ref D2), x6] ∧ Ex H2 H') ⟨_, _, rfl, Ex.refl _⟩ (fun d' r σ' H' e h => ?_) (fun d' y r σ' H' Tp e hTp h => ?_) (fun σ' H' h => ?_)
        · obtain ⟨_, _, _, ex⟩ := h
          exact Evl.ex_t ex hat2
        · obtain ⟨x4, x6, rfl, ex⟩ := h
          obtain ⟨c, hmc, hy⟩ := paired_mem hc y (by rw [← e]; simp)
          have exT : Ex H2 (L2.upd H' Tp (.tup [.int (d'.length : Nat), y])) := ex.trans (Ex.new hTp)
          have hTt : (L2.upd H' Tp (.tup [.int (d'.length : Nat), y])) Tp = some (.tup [.int (d'.length : Nat), y]) := upd_same
          generalize (L2.upd H' Tp (.tup [.int (d'.length : Nat), y])) = H3 at exT hTt ⊢
          have mk3 := Evl.ex_l exT mk2
          have ld3 := Evl.ex_l exT ld2
          have hy3 : ColAt H3 y c := ((hy.ext e1).ext e2).ext exT
          walk_at "w"
          rw [paired_empty v1, listedOf_ne]
          refine iteB (fun hL => ?_) (fun hL => ?_)
          · walk_at "w"
            have sh : ∀ l : List Col, (∀ x ∈ l, x ∈ cs) → SeqAt.shaped (.list (l.map Col.data)) = true := fun l hl => shapedL_cols fun x hx => hok x (hl x hx)
            refine ⟨c.data, (cs.filter (leads m)).map Col.data, hy3.dp, .lst ld3 (v2.ext exT).dp, Col.shaped (hok c hmc), sh _ (fun x hx => (List.mem_filter.mp hx).1), ?_⟩
            rw [any_eqv]
            walk_at "w"
            refine iteD (fun hM => ?_) (fun hM => ?_)
            · have one := hru c hmc (List.mem_filter.mp hM).2 (fun z => by
                have := listedOf_ne cs
                rw [z, hL] at this
                cases this)
              walk_at "w"
              intro L hL'
              have exL : Ex H3 (L2.upd H3 L (.lst [y])) := Ex.new hL'
              have hLL : (L2.upd H3 L (.lst [y])) L = some (.lst [y]) := upd_same
              generalize (L2.upd H3 L (.lst [y])) = H4 at exL hLL ⊢
              refine ⟨.list ((listedOf cs).map Col.data), .list [c.data], .lst (Evl.ex_l exL mk3) ((v1.ext exT).ext exL).dp, .lst (SqL.of hLL) (.cons (hy3.ext exL).dp .nil), sh _ (fun x hx => (List.mem_filter.mp hx).1), sh [c] (fun x hx => by rw [List.mem_singleton.1 hx]; exact hmc), ?_⟩
              rw [one]
              rw [show PyData.eqv (.list ([c].map Col.data)) (.list [c.data]) = true from eqv_one c]
              walk_at "w"
              exact ⟨_, _, rfl, exT.trans exL⟩
            · walk_at "w"
              exact ⟨_, _, rfl, exT⟩
          · walk_at "w"
            exact ⟨_, _, rfl, exT⟩
        · obtain ⟨x4, x6, rfl, ex⟩ := h
          have mk3 := Evl.ex_l ex mk2
          have ld3 := Evl.ex_l ex ld2
          walk_at "w"
          refine w_boolL mk3 ?_
          walk_at "w"
          rw [paired_empty v1, listedOf_ne]
          have k2 := k H' ((e1.trans e2).trans ex)
          unfold meetOf at k2
          refine iteB (fun hL => ?_) (fun hL => ?_)
          · rw [hL] at k2
            exact k2
          · rw [hL] at k2
            walk_at "w"
            refine w_boolL ld3 ?_
            rw [paired_empty v2, filter_ne]
            exact k2
end
end LP
namespace LP
open PySem L2
open Evl (Ex)
def sz (x : String) : Str := Str.ofString x
def colLine (c : Col) : Str :=
  let a : Str := (((Str.empty ++ c.kind) ++ sz " ") ++ c.name) ++ (if c.opt = true then sz "?" else sz "")
  let b : Str := if c.isLink = true then ((Str.empty ++ a) ++ sz " to ") ++ c.target else a
  match c.lst with
  | none => b
  | some l => ((Str.empty ++ b) ++ sz " as ") ++ l
def tabLines (t : Str × List Col) : List Str := ((Str.empty ++ sz "table ") ++ t.1) :: t.2.map colLine
def linesOf (u : Str) (ts : Tabs) : List Str := ((Str.empty ++ sz "user ") ++ u) :: ts.flatMap tabLines
structure Col.Sz (c : Col) : Prop where
  n : c.name.length ≤ 1000
  t : c.target.length ≤ 1000
  l : ∀ x, c.lst = some x → x.length ≤ 1000
structure TabSz (t : Str × List Col) : Prop where
  n : t.1.length ≤ 1000
  l : t.2.length ≤ 20
  c : ∀ c ∈ t.2, c.Sz
def spWriteLines : Sp := fun vs H Q _ => ∃ (u : Str) (dc : Addr) (cvs : List (Key × V)) (ts : Tabs), vs = [.str u, .ref dc] ∧ H dc = some (.dK cvs) ∧ Paired (ColRow H) cvs ts ∧ u.length ≤ 1000 ∧ ts.length ≤ 100 ∧ (ts.map (·.1)).Nodup ∧ (∀ t ∈ ts, TabSz t) ∧
  ∀ (q : Addr) (H' : Hp), Ex H H' → H' q = some (.lst ((linesOf u ts).map V.str)) → Q (.ref q) H'
def spWriteCol : Sp := fun vs H Q _ => ∃ (v : V) (c : Col), vs = [v] ∧ ColAt H v c ∧ c.Sz ∧ Q (.str (colLine c)) H
theorem Col.kind_len (c : Col) : c.kind.length ≤ 6 := by
  cases c with
  | plain f n =>
    cases f with
    | true => show (Str.ofString "flag").length ≤ 6; decide
    | false => show (Str.ofString "number").length ≤ 6; decide
  | word n o => show (Str.ofString "word").length ≤ 6; decide
  | link n t o l => show (Str.ofString "link").length ≤ 6; decide
theorem mark_len (b : Bool) : (if b = true then Str.ofString "?" else Str.ofString "").length ≤ 1 := by cases b <;> decide
section
variable {base : Heap} {mg : Str → Option Value} {K : PySem.W.Frag} {w : World} {P : Program}
theorem ok_write_column {f : Addr} {fd : FuncData} (D : C8.Def K mg "_write_column" s__write_column f fd) (b : Binds K fd ["column"] []) (c_is_link : C8.Cal P w K mg base 1 "is_link" spIsLink [])
    (c_has_list : C8.Cal P w K mg base 2 "has_list" spHasList []) (c_may_lack : C8.Cal P w K mg base 2 "may_lack" spMayLack []) : C8.Cal P w K mg base 3 "_write_column" spWriteCol [] := by
  have sc : FnScope ["column", "mark", "line"] ["column"] (C8.fnScope s__write_column) := C8.fnScope_by (by decide +kernel)
  refine C8.cal0 D b .nil sc (fun vs H Q E h => ?_) (fun cdv A outer s H vs Q E hr h => ?_)
  · obtain ⟨_, _, rfl, _⟩ := h
    rfl
  · obtain ⟨v, c, rfl, ⟨a, rfl, ha⟩, hz, k⟩ := h
    have tt : SqT K H a c.vals := SqT.of ha
    have z1 := hz.n
    have z2 := hz.t
    have z3 := c.kind_len
    have z4 := mark_len c.opt
    refine ⟨_, (pss_cons (ps_set (i := 1) sc.nd rfl (Or.inl rfl) (pe_ifExp (pt_val (C8.pe_c c_may_lack hr (by decide) rfl (pa_cons (pv 0) pa_nil))) pe_str pe_str))
        (pss_cons (ps_set (i := 2) sc.nd rfl (Or.inl rfl) (pe_joinedN (PJ.cons (pe_fmt (pe_ix (ix_tupK (K := K) rfl) (pv 0) pe_int (fun _ _ => rfl))) (PJ.cons pe_str (PJ.cons (pe_fmt (pe_ix (ix_tupK (K := K) rfl) (pv 0) pe_int (fun _ _ => rfl))) (PJ.cons (pe_fmt (pv 1)) PJ.nil))))))
        (pss_cons (ps_if (pt_val (C8.pe_c c_is_link hr (by decide) rfl (pa_cons (pv 0) pa_nil)))
        (pss_one (ps_set (i := 2) sc.nd rfl (Or.inl rfl) (pe_joinedN (PJ.cons (pe_fmt (pv 2)) (PJ.cons pe_str (PJ.cons (pe_fmt (pe_ix (ix_tupK (K := K) rfl) (pv 0) pe_int (fun _ _ => rfl))) PJ.nil))))))
        pss_nil)
        (pss_cons (ps_if (pt_val (C8.pe_c c_has_list hr (by decide) rfl (pa_cons (pv 0) pa_nil)))
        (pss_one (ps_set (i := 2) sc.nd rfl (Or.inl rfl) (pe_joinedN (PJ.cons (pe_fmt (pv 2)) (PJ.cons pe_str (PJ.cons (pe_fmt (pe_ix (ix_tupK (K := K) rfl) (pv 0) pe_int (fun _ _ => rfl))) PJ.nil))))))
        pss_nil)
        (pss_one (ps_ret (pv 2))))))), ?_⟩
    walk_at "w"
    refine ⟨_, c, rfl, ⟨a, rfl, ha⟩, ?_⟩
    walk_at "w"
    unfold colLine at k
    refine iteB (fun hL => ?_) (fun hL => ?_)
    all_goals
      rw [hL] at k
      walk_at "w"
      refine w_ixT tt c.at0 ?_
      refine w_kfmt (by walk_at "js") ?_
      refine w_jstr (by walk_at "js") ?_
      walk_at "w"
      refine w_jstr (by walk_at "js") ?_
      walk_at "w"
      refine w_ixT tt c.at1 ?_
      refine w_kfmt (by walk_at "js") ?_
      refine w_jstr (by walk_at "js") ?_
      walk_at "w"
      refine w_kfmt (by walk_at "js") ?_
      refine w_jstr (by walk_at "js") ?_
      walk_at "w"
      refine ⟨_, c, rfl, ⟨a, rfl, ha⟩, ?_⟩
      walk_at "w"
      refine iteB (fun hK => ?_) (fun hK => ?_)
      · rw [hK] at k
        walk_at "w"
        refine w_kfmt (by walk_at "js") ?_
        refine w_jstr (by walk_at "js") ?_
        walk_at "w"
        refine w_jstr (by walk_at "js") ?_
        walk_at "w"
        refine w_ixT tt (Col.at2 hK) ?_
        refine w_kfmt (by walk_at "js") ?_
        refine w_jstr (by walk_at "js") ?_
        walk_at "w"
        refine ⟨_, c, rfl, ⟨a, rfl, ha⟩, ?_⟩
        walk_at "w"
        cases hl : c.lst with
        | none =>
          rw [hl] at k
          refine iteF ?_
          walk_at "w"
          exact k
        | some x =>
          rw [hl] at k
          have zx := hz.l x hl
          refine iteT ?_
          walk_at "w"
          refine w_kfmt (by walk_at "js") ?_
          refine w_jstr (by walk_at "js") ?_
          walk_at "w"
          refine w_jstr (by walk_at "js") ?_
          walk_at "w"
          refine w_ixT tt (Col.at4 hK) ?_
          rw [hl]
          refine w_kfmt (y := x) (by walk_at "js") ?_
          refine w_jstr (by walk_at "js") ?_
          walk_at "w"
          exact k
      · have hl : c.lst = none := by cases c <;> first | rfl | cases hK
        rw [hK, hl] at k
        walk_at "w"
        refine ⟨_, c, rfl, ⟨a, rfl, ha⟩, ?_⟩
        rw [hl]
        refine ⟨false, rfl, iteF ?_⟩
        walk_at "w"
        exact k
theorem lines_len : ∀ {ts : Tabs}, (∀ t ∈ ts, TabSz t) → (ts.flatMap tabLines).length ≤ 21 * ts.length
  | [], _ => Nat.le_refl _
  | t :: r, h => by
    rw [List.flatMap_cons, List.length_append, List.length_cons]
    have i := lines_len (ts := r) fun x hx => h x (List.mem_cons_of_mem _ hx)
    have l := (h t List.mem_cons_self).l
    have : (tabLines t).length = t.2.length + 1 := by
      unfold tabLines
      rw [List.length_cons, List.length_map]
    omega
theorem lookup_mem {α : Type} : ∀ {l : List (Str × α)} {e : Str × α}, (l.map (·.1)).Nodup → e ∈ l → l.lookup e.1 = some e.2
  | x :: xs, e, nd, h => by
    rw [List.map_cons,
            List.nodup_cons] at nd
    rw [List.lookup_cons]
    rcases List.mem_cons.1 h with q | q
    · rw [q, show (x.1 == x.1) = true from beq_self_eq_true _]
    · have : e.1 ≠ x.1 := fun z => nd.1 (z ▸ List.mem_map.mpr ⟨e, q, rfl⟩)
      rw [show (e.1 == x.1) = false from beq_eq_false_iff_ne.mpr this]
      exact lookup_mem nd.2 q
theorem cgetP {H : Hp} {cvs : List (Key × V)} {ts : Tabs} {n : Str} {cs : List Col} (h : Paired (ColRow H) cvs ts) (e : ts.lookup n = some cs) :
    ∃ a vs, valV cvs (Sum.inr n : Key) = some (.ref a) ∧ H a = some (.tup vs) ∧ ColsV H vs cs := by
  rcases valV_pair (fun _ _ h => h.1) h n with ⟨h1, h2⟩ | ⟨kv, t, h1, h2, ⟨h3, a, vs, h4, h5, h6⟩, h7, h8⟩
  · exact absurd (List.mem_map.mpr ⟨(n, cs), PySem.mem_of_lookup e, rfl⟩) h2
  · rw [e] at h8
    cases h8
    exact ⟨a, vs, by rw [h7, h4], h5, h6⟩
theorem ColsV.exo {H H' : Hp} {L : Addr} {xs : List V} {vs : List V} {cs : List Col} (hL : H L = some (.lst xs)) (e : ExO [L] H H') (h : ColsV H vs cs) : ColsV H' vs cs := paired_imp (fun _ _ ⟨a, ev, ha⟩ => ⟨a, ev, e _ _ ha fun z => absurd (List.mem_singleton.mp z) (ne_of ha hL (by intro z; cases z))⟩) h
theorem w_kGf {H : Hp} {d : Addr} {o : Obj} {kvs : List (Key × V)} {k : Str} {v : V} {z : V → Prop} (h : H d = some (.frz o (.dK kvs))) (e : valV kvs (Sum.inr k : Key) = some v) (q : z v) : ∃ a' v', V.ref d = .ref a' ∧ DGet H a' (.str k) (some v') ∧ z v' :=
  ⟨d, v, rfl, .inl ⟨kvs, .inr k, .inr ⟨o, h⟩, rfl, e.symm⟩, q⟩
theorem ok_write_lines {f : Addr} {fd : FuncData} (D : C8.Def K mg "write_lines" s_write_lines f fd) (b : Binds K fd ["user", "columns"] []) (c__write_column : C8.Cal P w K mg base 3 "_write_column" spWriteCol []) : C8.Cal P w K mg base 4 "write_lines" spWriteLines [] := by
  have sc : FnScope ["user", "columns", "lines", "table", "column"] ["user", "columns"] (C8.fnScope s_write_lines) := C8.fnScope_by (by decide +kernel)
  refine C8.cal0 D b .nil sc (fun vs H Q E h => ?_) (fun cdv A outer s H vs Q E hr h => ?_)
  · obtain ⟨_, _, _, _, rfl, _⟩ := h
    rfl
  · obtain ⟨u, dc, cvs, ts, rfl, hd, hc, zu, zt, nd, ht, k⟩ := h
    refine ⟨_, (pss_cons (ps_set (i := 2) sc.nd rfl (Or.inl rfl) (pe_lst (pa_cons (pe_joinedN (PJ.cons pe_str (PJ.cons (pe_fmt (pv 0)) PJ.nil))) pa_nil)))
        (pss_cons (ps_lock (ps_for PassesOwn.never rfl (pi_keys (pv 1)) (pg_name (i := 3) sc.nd rfl (Or.inl rfl))
        (pss_cons (ps_expr (pe_bmK (K := K) rfl PySem.F.plainAttrs_list PySem.F.slot_list_append PySem.F.type_list_append mt_append (pv 2) (pa_cons (pe_joinedN (PJ.cons pe_str (PJ.cons (pe_fmt (pv 3)) PJ.nil))) pa_nil)))
        (pss_one (ps_expr (pe_bmK (K := K) rfl PySem.F.plainAttrs_list PySem.F.slot_list_extend PySem.F.type_list_extend mt_extend (pv 2) (pa_cons (pe_lc (own := [("column", 4)]) (g := (gName 4)) (by rfl) sc.nd (pi_tupK (K := K) rfl (pe_dget (hu_of hr) (pv 1) (pv 3) (fun _ _ => rfl))) (blkOk_by (own := [("column", 4)]) (N := ["user", "columns", "lines", "table", "column"]) (sc := C8.fnScope s_write_lines) (by decide +kernel)) (fun _ _ _ _ _ => (pg_name (i := 4) sc.nd rfl (Or.inl rfl))) (fun _ _ _ _ _ => pts_nil) (fun _ _ _ _ _ => (C8.pe_c c__write_column hr (by decide) rfl (pa_cons (pv 4) pa_nil)))) pa_nil)))))))
        (pss_one (ps_ret (pv 2))))), ?_⟩
    walk_at "w"
    refine w_jstr (by walk_at "js") ?_
    walk_at "w"
    refine w_kfmt (by walk_at "js") ?_
    refine w_jstr (by walk_at "js") ?_
    walk_at "w"
    intro L hL
    have Ldc : dc ≠ L := ne_of_none hd hL
    have e1 : Ex H (L2.upd H L (.lst [V.str (Str.empty ++ Str.ofString "user " ++ u)])) := Ex.new hL
    have hL1 : (L2.upd H L (.lst [V.str (Str.empty ++ Str.ofString "user " ++ u)])) L = some (.lst [V.str (Str.empty ++ Str.ofString "user " ++ u)]) := upd_same
    generalize (L2.upd H L (.lst [V.str (Str.empty ++ Str.ofString "user " ++ u)])) = H1 at e1 hL1 ⊢
    have hd1 := e1 _ _ hd
    have hc1 : Paired (ColRow H1) cvs ts := paired_imp (fun _ _ => ColRow.ext e1) hc
    walk_at "w"
    refine ⟨dc, .dK cvs, hd1, trivial, fun od => ?_⟩
    have hdF : (L2.upd H1 dc (.frz od (.dK cvs))) dc = some (.frz od (.dK cvs)) := upd_same
    have hcF : Paired (ColRow (L2.upd H1 dc (.frz od (.dK cvs)))) cvs ts := paired_imp (fun _ _ => ColRow.put hd1) hc1
    have hLF : (L2.upd H1 dc (.frz od (.dK cvs))) L = some (.lst [V.str (Str.empty ++ Str.ofString "user " ++ u)]) := by rw [upd_ne (Ne.symm Ldc)]; exact hL1
    have stF : ∀ a o, H1 a = some o → a ≠ dc → (L2.upd H1 dc (.frz od (.dK cvs))) a = some o := fun a o h n => by rw [upd_ne n]; exact h
    generalize (L2.upd H1 dc (.frz od (.dK cvs))) = HF at hdF hcF hLF stF ⊢
    walk_at "w"
    refine w_kKeys hdF ?_
    refine loopK (fun d' r σ' H' => ∃ x3 ms mr, σ' = [some (.str u), some (.ref dc), some (.ref L), x3, none] ∧ ts = ms ++ mr ∧ Paired (ColRow HF) d' ms ∧ Paired (ColRow HF) r mr ∧
        H' L = some (.lst (((Str.empty ++ Str.ofString "user " ++ u) :: ms.flatMap tabLines).map V.str)) ∧ ExO [L] HF H') ⟨_, [], ts, rfl, rfl, .nil, hcF, hLF, ExO.refl⟩ (fun d' r σ' H' e h => ?_) (fun d' y r σ' H' e h => ?_) (fun σ' H' h => ?_)
    · obtain ⟨x3, ms, mr, rfl, et, p1, p2, h1, h2⟩ := h
      exact h2 _ _ hdF fun z => Ldc (List.mem_singleton.mp z)
    · obtain ⟨x3, ms, mr, rfl, et, p1, p2, h1, h2⟩ := h
      obtain ⟨t, mr', rfl, hy, p2'⟩ := paired_cons p2
      obtain ⟨ky, vy⟩ := y
      obtain ⟨hk, _⟩ := id hy
      have hk : ky = .inr t.1 := hk
      subst hk
      have htm : t ∈ ts := by rw [et]; simp
      have hz := ht t htm
      have z1 := hz.n
      obtain ⟨ca, vs, g1, g2, g3⟩ := cgetP hcF (lookup_mem nd htm)
      show gName 3 (V.str t.1) _ _ _
      have hlen : (List.map V.str ((Str.empty ++ Str.ofString "user " ++ u) :: ms.flatMap tabLines)).length ≤ 2101 := by
        have := lines_len (ts := ms) fun x hx => ht x (by rw [et]; exact List.mem_append_left _ hx)
        rw [et, List.length_append] at zt
        rw [List.length_map, List.length_cons]
        omega
      have hsz : (List.map V.str ((Str.empty ++ Str.ofString "user " ++ u) :: ms.flatMap tabLines)).length < sizeLine := Nat.lt_of_le_of_lt hlen (by decide)
      walk_at "w"
      refine w_jstr (by walk_at "js") ?_
      walk_at "w"
      refine w_kfmt (by walk_at "js") ?_
      refine w_jstr (by walk_at "js") ?_
      walk_at "w0"
      walk_at "w0"
      refine w_app h1 hsz ?_
      have hL2 : (L2.upd H' L (.lst (List.map V.str ((Str.empty ++ Str.ofString "user " ++ u) :: ms.flatMap tabLines) ++ [V.str (Str.empty ++ Str.ofString "table " ++ t.1)]))) L = some (.lst (List.map V.str ((Str.empty ++ Str.ofString "user " ++ u) :: ms.flatMap tabLines) ++ [V.str (Str.empty ++ Str.ofString "table " ++ t.1)])) := upd_same
      have h22 : ExO [L] HF (L2.upd H' L (.lst (List.map V.str ((Str.empty ++ Str.ofString "user " ++ u) :: ms.flatMap tabLines) ++ [V.str (Str.empty ++ Str.ofString "table " ++ t.1)]))) := h2.put List.mem_cons_self
      generalize (L2.upd H' L (.lst (List.map V.str ((Str.empty ++ Str.ofString "user " ++ u) :: ms.flatMap tabLines) ++ [V.str (Str.empty ++ Str.ofString "table " ++ t.1)]))) = H2 at hL2 h22 ⊢
      have hd2 := h22 _ _ hdF fun z => Ldc (List.mem_singleton.mp z)
      have hca2 : SqT K H2 ca vs := SqT.of (h22 _ _ g2 fun z => absurd (List.mem_singleton.mp z) (ne_of g2 hLF (by intro z; cases z)))
      have g32 : ColsV H2 vs t.2 := g3.exo hLF h22
      walk_at "w"
      refine w_kGf hd2 g1 ?_
      walk_at "w"
      intro D hD
      refine compQT t.2 (ColAt H2) (fun c => some (colLine c)) (fun v x => v = V.str x) hD hca2 (by rw [paired_len g32]; have := hz.l; omega) g32 (fun y c hy hm H3 e3 kk kn hk hn => ?_) (fun acc H3 e3 hacc hp => ?_)
      · walk_at "w"
        exact ⟨y, c, rfl, hy.ext e3, hz.c c hm, hk _ _ _ (Ex.refl _) rfl rfl⟩
      · rw [filterMap_some] at hp
        have ev := vals_strs hp
        walk_at "w"
        have el : List.map V.str ((Str.empty ++ Str.ofString "user " ++ u) :: ms.flatMap tabLines) ++ [V.str (Str.empty ++ Str.ofString "table " ++ t.1)] ++ acc = List.map V.str ((Str.empty ++ Str.ofString "user " ++ u) :: (ms ++ [t]).flatMap tabLines) := by
          rw [ev, List.flatMap_append, List.map_cons, List.map_cons, List.map_append]
          simp [tabLines, sz]
        have al : acc.length ≤ 20 := by rw [ev, List.length_map, List.length_map]; exact hz.l
        refine w_ext (e3 _ _ hL2) hacc (small_le (by rw [List.length_append, List.length_singleton]; omega)) ?_
        rw [el]
        exact ⟨_, ms ++ [t], mr', rfl, by rw [et, List.append_assoc]; rfl, paired_app p1 (.cons hy .nil), p2', upd_same, (h22.trans (.of e3)).put List.mem_cons_self⟩
    · obtain ⟨x3, ms, mr, rfl, et, p1, p2, h1, h2⟩ := h
      cases p2
      rw [List.append_nil] at et
      subst et
      have hdE := h2 _ _ hdF fun z => Ldc (List.mem_singleton.mp z)
      refine ⟨hdE, ?_⟩
      walk_at "w"
      refine k L _ (fun a o h => ?_) (by rw [upd_ne (Ne.symm Ldc)]; exact h1)
      by_cases q : a = dc
      · subst q
        rw [hd] at h
        cases h
        exact upd_same
      · rw [upd_ne q]
        exact h2 _ _ (stF _ _ (e1 _ _ h) q) fun z => absurd (List.mem_singleton.mp z) (ne_of_none h hL)
end
end LP
namespace LP
open PySem L2
open Evl (Ex)
/-! ### valid tables may be taken one by one -/
theorem GoodTabs.split : ∀ {ts : Tabs}, GoodTabs ts → ∀ (td : Tabs) (t : Str × List Col) (tr : Tabs), ts = td ++ t :: tr → GoodTabs td ∧ IsName t.1 ∧ t.1 ∉ td.map (·.1) ∧ GoodCols td t.2 := by
  intro ts g
  induction g with
  | nil => intro td t tr e; cases td <;> cases e
  | @snoc ts n cs g hn hx hc ih =>
    intro td t tr e
    rcases List.eq_nil_or_concat tr with rfl | ⟨tr', z, rfl⟩
    · have e2 : ts ++ [(n, cs)] = td ++ [t] := e
      obtain ⟨rfl, e3⟩ := List.append_inj' e2 rfl
      cases e3
      exact ⟨g, hn, hx, hc⟩
    · have e2 : ts ++ [(n, cs)] = (td ++ t :: tr') ++ [z] := by rw [e]; simp
      obtain ⟨e3, e4⟩ := List.append_inj' e2 rfl
      exact ih td t tr' e3
theorem GoodTabs.nodup {ts : Tabs} (g : GoodTabs ts) : (ts.map (·.1)).Nodup := by
  induction g with
  | nil => exact List.nodup_nil
  | snoc g hn hx hc ih =>
    rw [List.map_append]; rw [List.nodup_append]
    refine ⟨ih, by simp, fun a ha b hb => ?_⟩
    simp only [List.map_cons,
            List.map_nil, List.mem_singleton] at hb
    rw [hb]
    rintro rfl
    exact hx ha
def mirOf (ts : Tabs) : List (Str × Lists) := ts.foldl (fun m t => t.2.foldl (addCol t.1) m ++ [(t.1, [])]) []
theorem mirOf_snoc (ts : Tabs) (t : Str × List Col) : mirOf (ts ++ [t]) = t.2.foldl (addCol t.1) (mirOf ts) ++ [(t.1, [])] := by
  unfold mirOf
  rw [List.foldl_append]
  rfl
theorem addCol_key (t : Str) (m : List (Str × Lists)) (c : Col) : (addCol t m c).map (·.1) = m.map (·.1) := by
  unfold addCol
  cases c.lst with
  | none => rfl
  | some l =>
    show (m.map _).map _ = _
    rw [List.map_map]
    refine List.map_congr_left fun r _ => ?_
    simp only [Function.comp]
    by_cases h : r.1 = c.target
    · rw [if_pos h]
    · rw [if_neg h]
theorem foldl_addKey (t : Str) : ∀ (cs : List Col) (m : List (Str × Lists)), (cs.foldl (addCol t) m).map (·.1) = m.map (·.1)
  | [], _ => rfl
  | c :: r, m => by rw [List.foldl_cons, foldl_addKey t r, addCol_key]
theorem mirOf_key {ts : Tabs} (g : GoodTabs ts) : (mirOf ts).map (·.1) = ts.map (·.1) := by
  induction g with
  | nil => rfl
  | snoc g hn hx hc ih => rw [mirOf_snoc, List.map_append, List.map_append, foldl_addKey, ih]; rfl
/-- where the lists come from -/
def Src (m : List (Str × Lists)) (S : Str → Str → Prop) : Prop := ∀ r ∈ m, ∀ e ∈ r.2, S r.1 e.1
theorem Src.add {t : Str} {m : List (Str × Lists)} {S : Str → Str → Prop} {c : Col} (h : Src m S) (hc : ∀ l, c.lst = some l → S c.target l) : Src (addCol t m c) S := by
  unfold addCol
  cases e : c.lst with
  | none => exact h
  | some l =>
    intro r hr x hx
    obtain ⟨r0, h0, rfl⟩ := List.mem_map.mp hr
    by_cases q : r0.1 = c.target
    · rw [if_pos q] at hx ⊢
      rcases List.mem_append.1 hx with hx | hx
      · exact h r0 h0 x hx
      · rw [List.mem_singleton.mp hx, show ((r0.1, r0.2 ++ [(l, t, c.name)]) : Str × Lists).1 = c.target from q]
        exact hc l e
    · rw [if_neg q] at hx ⊢
      exact h r0 h0 x hx
theorem Src.adds {t : Str} {S : Str → Str → Prop} : ∀ {cs : List Col} {m : List (Str × Lists)}, Src m S → (∀ c ∈ cs, ∀ l, c.lst = some l → S c.target l) → Src (cs.foldl (addCol t) m) S
  | [], _, h, _ => h
  | c :: r, m, h, hc => Src.adds (cs := r) (h.add (hc c List.mem_cons_self)) fun x hx => hc x (List.mem_cons_of_mem _ hx)
theorem mirOf_src : ∀ {ts : Tabs} {S : Str → Str → Prop}, GoodTabs ts → (∀ t ∈ ts, ∀ c ∈ t.2, ∀ l, c.lst = some l → S c.target l) → Src (mirOf ts) S := by
  intro ts S g
  induction g with
  | nil => exact fun _ r h => absurd h List.not_mem_nil
  | snoc g hn hx hc ih =>
    intro h
    rw [mirOf_snoc]
    have i := (ih fun t ht => h t (List.mem_append_left _ ht))
    intro r hr e he
    rcases List.mem_append.1 hr with hr | hr
    · exact (Src.adds i fun c hc => h _ (List.mem_append_right _ List.mem_cons_self) c hc) r hr e he
    · rw [List.mem_singleton.1 hr] at he
      exact absurd he List.not_mem_nil
theorem lookup_some {α : Type} : ∀ {l : List (Str × α)} {n : Str}, n ∈ l.map (·.1) → ∃ v, l.lookup n = some v
  | x :: xs, n, h => by
    rw [List.lookup_cons]
    by_cases e : n = x.1
    · rw [show (n == x.1) = true by rw [e]; exact beq_self_eq_true _]
      exact ⟨_, rfl⟩
    · rw [show (n == x.1) = false from beq_eq_false_iff_ne.mpr e]
      rw [List.map_cons] at h
      exact lookup_some ((List.mem_cons.mp h).resolve_left e)
theorem IsName.short {x : Str} (h : IsName x) : x.length ≤ 8 := h.1.2.1
theorem pre_colsIn {td : Tabs} {n : Str} {cs : List Col} (g : GoodTabs td) (h : PreCols td cs) : ColsIn n cs (mirOf td) td := by
  intro d c r e
  have hc : c ∈ cs := by rw [← e]; simp
  have nd := h.nd
  refine ⟨h.nm c hc, fun z => ?_, fun hL => ?_⟩
  · rw [← e, List.map_append, List.nodup_append] at nd
    exact nd.2.2 _ z _ (by rw [List.map_cons]; exact List.mem_cons_self) rfl
  · have htg := h.tg c hc hL
    obtain ⟨cs', hcs'⟩ := lookup_some htg
    obtain ⟨ls, hls⟩ := lookup_some (l := d.foldl (addCol n) (mirOf td)) (n := c.target) (by rw [foldl_addKey, mirOf_key g]; exact htg)
    have mt := PySem.mem_of_lookup hcs'
    refine ⟨cs', ls, hcs', hls, Nat.le_trans (g.cols _ mt) (by decide), fun x hx => Nat.le_trans (h.ls c hc x hx).short (by decide), ?_⟩
    cases hl : c.lst with
    | none => rfl
    | some l =>
      have old := h.old c hc l hl
      have o1 := old _ mt
      show (nameB l && !decide (l ∈ cs'.map Col.name) && !decide (l ∈ ls.map (·.1))) = true
      rw [(nameB_iff l).mpr (h.ls c hc l hl), decide_eq_false, decide_eq_false]
      · rfl
      · intro z
        obtain ⟨x, hx, rfl⟩ := List.mem_map.mp z
        have src : Src (d.foldl (addCol n) (mirOf td)) fun tg l => (∃ t ∈ td, ∃ c ∈ t.2, c.target = tg ∧ c.lst = some l) ∨ ∃ c ∈ d, c.target = tg ∧ c.lst = some l :=
          (mirOf_src g fun t ht c hc l hl => .inl ⟨t, ht, c, hc, rfl, hl⟩).adds fun c hc l hl => .inr ⟨c, hc, rfl, hl⟩
        rcases src _ (PySem.mem_of_lookup hls) x hx with ⟨t, ht, c', hc', e1, e2⟩ | ⟨c', hc', e1, e2⟩
        · refine old t ht ?_
          unfold takenStep linkLists
          refine List.mem_append_left _ (List.mem_map.mpr ⟨c', List.mem_filter.mpr ⟨hc', ?_⟩, e2⟩)
          rw [Col.lst_link e2, decide_eq_true e1]
          rfl
        · have pw := h.fr
          rw [← e, List.pairwise_append] at pw
          exact pw.2.2 c' hc' c List.mem_cons_self (Col.lst_link e2) e1 x.1 hl e2
      · intro z
        refine o1 ?_
        unfold takenStep
        rw [if_pos rfl]
        refine List.mem_append_right _ ?_
        obtain ⟨c', hc', e1⟩ := List.mem_map.mp z
        exact List.mem_map.mpr ⟨c', hc', by rw [e1]⟩
theorem good_colsIn {td : Tabs} {n : Str} {cs : List Col} (g : GoodTabs td) (h : GoodCols td cs) : ColsIn n cs (mirOf td) td := pre_colsIn g h.toPreCols
/-- the rows a schema's lists end with -/
theorem good_rule {td : Tabs} {cs : List Col} (h : GoodCols td cs) : ∀ c ∈ cs, leads (meetMap td) c = true → listedOf cs ≠ [] → listedOf cs = [c] := fun c hc hl hn => by
  unfold leads at hl
  rw [Bool.and_eq_true] at hl
  exact h.r6 c hc hl.1 hl.2 hn
theorem good_targets {td : Tabs} {cs : List Col} (h : PreCols td cs) : ∀ c ∈ cs, c.isLink = true → ∃ b, (meetMap td).lookup c.target = some b := fun c hc hl =>
  lookup_some (by rw [meetMap_keys]; exact h.tg c hc hl)
theorem good_sz {ts : Tabs} (g : GoodTabs ts) : ∀ t ∈ ts, TabSz t := by
  intro t ht
  obtain ⟨td, tr, e⟩ := List.append_of_mem ht
  obtain ⟨g1, g2, g3, g4⟩ := g.split td t tr e
  refine ⟨Nat.le_trans g2.short (by decide), Nat.le_trans g4.few (by decide), fun c hc => ⟨Nat.le_trans (g4.nm c hc).short (by decide), ?_, fun x hx => Nat.le_trans (g4.ls c hc x hx).short (by decide)⟩⟩
  cases hk : c.isLink with
  | true =>
    obtain ⟨t', h1, h2⟩ := List.mem_map.mp (g4.tg c hc hk)
    rw [← h2]
    exact Nat.le_trans (g1.names t' h1).short (by decide)
  | false =>
    have : c.target = "" := by cases c <;> first | rfl | cases hk
    rw [this]
    decide
end LP
namespace LP
open PySem L2
open Evl (Ex)
/-- a schema, made -/
structure SchAt (C : Addr) (H : Hp) (p : Addr) (u : Str) (ts : Tabs) : Prop where
  ex : ∃ (dc dl : Addr) (cvs : List (Key × V)) (rs : Rows) (dx : Addr) (fs : List (Str × V)) (tt ll : Addr), Part C H p dc dl cvs rs ts ∧ rs.mir = mirOf ts ∧ H p = some (.ins C dx fs) ∧ FsOk fs dc dl ∧ fs.lookup ("user" : Str) = some (.str u) ∧
    fs.lookup ("tables" : Str) = some (.ref tt) ∧ H tt = some (.tup (ts.map fun t => V.str t.1)) ∧ fs.lookup ("_lines" : Str) = some (.ref ll) ∧ H ll = some (.lst ((linesOf u ts).map V.str))
theorem SchAt.ext {C : Addr} {H H' : Hp} {p : Addr} {u : Str} {ts : Tabs} (e : Ex H H') (h : SchAt C H p u ts) : SchAt C H' p u ts := by
  obtain ⟨dc, dl, cvs, rs, dx, fs, tt, ll, h1, h2, h3, h4, h5, h6, h7, h8, h9⟩ := h.ex
  exact ⟨dc, dl, cvs, rs, dx, fs, tt, ll, h1.ext e, h2, e _ _ h3, h4, h5, h6, e _ _ h7, h8, e _ _ h9⟩
def spInit (C : Addr) : Sp := fun vs H Q _ => ∃ (p q dx : Addr) (u : Str) (ts : Tabs), vs = [.ref p, .str u, .ref q] ∧ H p = some (.ins C dx []) ∧ TabsAt H q ts ∧ GoodTabs ts ∧ 1 ≤ ts.length ∧ ts.length ≤ 6 ∧ u ∈ ts.map (·.1) ∧
  ∀ H', ExO [p] H H' → SchAt C H' p u ts → Q .non H'
/-- a field of the schema is set -/
theorem Part.setF {C : Addr} {H : Hp} {p dc dl dx dx' : Addr} {cvs : List (Key × V)} {rs : Rows} {ts : Tabs} {fs fs' : List (Str × V)} (h : Part C H p dc dl cvs rs ts) (hp : H p = some (.ins C dx fs)) (hf : FsOk fs' dc dl) : Part C (L2.upd H p (.ins C dx' fs')) p dc dl cvs rs ts := by
  obtain ⟨_, h3, h4, h5, h6, h7, h8, h9, h10⟩ := h
  have st : ∀ {a : Addr} {u : HO}, H a = some u → u ≠ .ins C dx fs → (L2.upd H p (.ins C dx' fs')) a = some u := fun {a u} e n => by rw [upd_ne (ne_of e hp n)]; exact e
  refine ⟨⟨dx', fs', upd_same, hf⟩, st h3 (by intro z; cases z), paired_imp (fun kv t h => ?_) h4, st h5 (by intro z; cases z), fun r hr => ?_, h7, h8, h9, h10⟩
  · obtain ⟨g1, b, vs, g2, g3, g4⟩ := h
    refine ⟨g1, b, vs, g2, st g3 (by intro z; cases z), paired_imp (fun v c hc => ?_) g4⟩
    obtain ⟨x, e, hx⟩ := hc
    exact ⟨x, e, st hx (by intro z; cases z)⟩
  · obtain ⟨k, g1, g2⟩ := h6 r hr
    refine ⟨k, st g1 (by intro z; cases z), paired_imp (fun kv e h => ?_) g2⟩
    obtain ⟨g3, b, g4, g5⟩ := h
    exact ⟨g3, b, g4, st g5 (by intro z; cases z)⟩
theorem FsOk.put {fs : List (Str × V)} {dc dl : Addr} {f : Str} {y : V} (h : FsOk fs dc dl) (hf : f ∉ ("_columns" : Str) :: ("_lists" : Str) :: meths) : FsOk (putF f y fs) dc dl := by
  refine ⟨?_, ?_, fun m hm => ?_⟩
  · rw [lookup_putF, if_neg (show ¬ (("_columns" : Str) = f) from fun z => hf (by rw [← z]; exact List.mem_cons_self))]
    exact h.c
  · rw [lookup_putF, if_neg (show ¬ (("_lists" : Str) = f) from fun z => hf (by rw [← z]; exact List.mem_cons_of_mem _ List.mem_cons_self))]
    exact h.l
  · rw [lookup_putF, if_neg (show ¬ (m = f) from fun z => hf (by rw [← z]; exact List.mem_cons_of_mem _ (List.mem_cons_of_mem _ hm)))]
    exact h.no m hm
theorem keepT {p C dx : Addr} {H H' : Hp} {a : Addr} {ys : List V} (hp : H p = some (.ins C dx [])) (x : ExO [p] H H') (h : H a = some (.tup ys)) : H' a = some (.tup ys) := x _ _ h fun z => by rw [List.mem_singleton.mp z, hp] at h; cases h
theorem keepL {p C dx : Addr} {H H' : Hp} {a : Addr} {ys : List V} (hp : H p = some (.ins C dx [])) (x : ExO [p] H H') (h : H a = some (.lst ys)) : H' a = some (.lst ys) := x _ _ h fun z => by rw [List.mem_singleton.mp z, hp] at h; cases h
theorem keepC {p C dx : Addr} {H H' : Hp} {vs : List V} {cs : List Col} (hp : H p = some (.ins C dx [])) (x : ExO [p] H H') (h : ColsV H vs cs) : ColsV H' vs cs := paired_imp (fun v c ⟨b, ev, hb⟩ => ⟨b, ev, keepT hp x hb⟩) h
theorem ExO.over {o1 o2 : List Addr} {H H1 H2 : Hp} (a : ExO o1 H H1) (b : ExO o2 H1 H2) (h : ∀ x ∈ o2, H x = none) : ExO o1 H H2 := fun c o hc n => b c o (a c o hc n) fun z => by
  rw [h c z] at hc
  cases hc
/-- another dict changes -/
theorem Part.other {C : Addr} {H : Hp} {p dc dl a : Addr} {cvs kvs : List (Key × V)} {rs : Rows} {ts : Tabs} {o : HO} (h : Part C H p dc dl cvs rs ts) (ha : H a = some (.dK kvs)) (n : a ∉ rs.own dc dl) : Part C (L2.upd H a o) p dc dl cvs rs ts := by
  obtain ⟨⟨dx, fs, h1, h2⟩, h3, h4, h5, h6, h7, h8, h9, h10⟩ := h
  have n1 : dc ≠ a := fun z => n (by rw [← z]; exact List.mem_cons_self)
  have n2 : dl ≠ a := fun z => n (by rw [← z]; exact List.mem_cons_of_mem _ List.mem_cons_self)
  refine ⟨⟨dx, fs, by rw [upd_ne (ne_of h1 ha (by intro z; cases z))]; exact h1, h2⟩, by rw [upd_ne n1]; exact h3, paired_imp (fun _ _ => ColRow.put ha) h4, by rw [upd_ne n2]; exact h5, fun r hr => (h6 r hr).put ha fun z => n ?_, h7, h8, h9, h10⟩
  rw [← z]
  exact List.mem_cons_of_mem _ (List.mem_cons_of_mem _ (List.mem_map.mpr ⟨r, hr, rfl⟩))
theorem meets_none {m : List (Str × Bool)} {n : Str} (h : n ∉ m.map (·.1)) : valV (m.map fun e => ((Sum.inr e.1 : Key), V.bl e.2)) (Sum.inr n : Key) = none := by
  unfold valV
  rw [Option.map_eq_none_iff, List.find?_eq_none]
  intro kv hkv
  obtain ⟨e, he, rfl⟩ := List.mem_map.mp hkv
  simp only [decide_eq_true_eq]
  intro z
  exact h (List.mem_map.mpr ⟨e, he, Sum.inr.inj z⟩)
theorem tup_keys {H : Hp} {cvs : List (Key × V)} {ts : Tabs} (h : Paired (ColRow H) cvs ts) : (cvs.map fun kv => kV kv.1) = ts.map fun t => V.str t.1 := by
  induction h with
  | nil => rfl
  | cons h _ ih => rw [List.map_cons, List.map_cons, ih, h.1]; rfl
section
variable {base : Heap} {mg : Str → Option Value} {K : PySem.W.Frag} {w : World} {P : Program} {ra C : Addr}
theorem ok_init {f : Addr} {fd : FuncData} {mc : Value} (S : SchC K C) (M : Mk K C f) (F : C8.Fun K "__init__" "Schema.__init__" s_Schema___init__ f fd) (b : Binds K fd ["self", "user", "tables"] []) (B : Blt mg) (T : Cns K mg ra C) (hmC : mg "Schema" = some (.ref C))
    (c_is_name : SCal P w K mg base 3 C mc "is_name" (spAsk K (strD nameB))) (c___contains__ : C8.Met P w K mg base 1 C "__contains__" (spContains K C) []) (c__take_columns : C8.Met P w K mg base 6 C "_take_columns" (spTakeCols K C) [])
    (c__meets : C8.Cal P w K mg base 3 "_meets" (spMeets K) []) (c_write_lines : C8.Cal P w K mg base 4 "write_lines" spWriteLines []) :
    C8.Mak P w K mg base 7 "Schema" C (spInit C) [] := by
  have sc : FnScope ["self", "user", "tables", "meeting", "index", "name", "columns"] ["self", "user", "tables"] (C8.fnScope s_Schema___init__) := C8.fnScope_by (by decide +kernel)
  refine C8.mak0 M hmC F b .nil sc (fun vs H Q E h => ?_) (fun cdv A outer s H vs Q E hr h => ?_)
  · obtain ⟨_, _, _, _, _, rfl, _⟩ := h
    rfl
  · obtain ⟨p, q, dx, u, ts, rfl, hp, ⟨xs, hq, hx⟩, g, l1, l2, hu, k⟩ := h
    have lx := paired_len hx
    refine ⟨_, (pss_cons (ps_if (pt_not (pt_chain op_le op_le pe_int (pe_callB (call_len_seqK (K := K) rfl) (by rfl) B.len_ (by decide +kernel) (pa_cons (pv 2) pa_nil)) (C8.pe_gc rfl T.MOST_TABLES_)))
        (pss_one ps_never)
        pss_nil)
        (pss_cons (ps_fldK (K := K) rfl (pv 0) pe_dnewK rfl)
        (pss_cons (ps_fldK (K := K) rfl (pv 0) pe_dnewK rfl)
        (pss_cons (ps_set (i := 3) sc.nd rfl (Or.inl rfl) pe_dnewK)
        (pss_cons (ps_for PassesOwn.never rfl (pi_enumK (K := K) rfl (by rfl) B.enumerate_ (pa_cons (pv 2) pa_nil)) (pg_tupK (K := K) (n := 2) rfl rfl (pgs_cons (pg_name (i := 4) sc.nd rfl (Or.inl rfl)) (pgs_cons (pg_tupK (K := K) (n := 2) rfl rfl (pgs_cons (pg_name (i := 5) sc.nd rfl (Or.inl rfl)) (pgs_cons (pg_name (i := 6) sc.nd rfl (Or.inl rfl)) pgs_nil))) pgs_nil)))
        (pss_cons (ps_if (PW.pt (pw_or (pt_not (pt_val (pe_sm c_is_name hr (by decide) (C8.pe_gc rfl T.Schema_) (pa_cons (pv 5) pa_nil)))) (pw_or (pt_cmp (pc_din (hu_of hr) (pv 5) (pe_fldK (K := K) rfl (pv 0) rfl))) (pw_or1 (pt_cmpR op_gt (pe_callB (call_len_seqK (K := K) rfl) (by rfl) B.len_ (by decide +kernel) (pa_cons (pv 6) pa_nil)) (C8.pe_gc rfl T.MOST_COLUMNS_) (nomark _))))))
        (pss_one ps_never)
        pss_nil)
        (pss_cons (ps_expr (C8.pe_mt c__take_columns hr (by decide) (pv 0) (pa_cons (pv 4) (pa_cons (pv 5) (pa_cons (pv 6) pa_nil)))))
        (pss_one (ps_dput (hu_of hr) (pv 3) (pv 5) (C8.pe_c c__meets hr (by decide) rfl (pa_cons (pv 4) (pa_cons (pe_dget (hu_of hr) (pe_fldK (K := K) rfl (pv 0) rfl) (pv 5) (fun _ _ => rfl)) (pa_cons (pv 3) pa_nil)))) rfl)))))
        (pss_cons (ps_if (pt_cmpR (op_onin (dvs := []) c___contains__ hr (by decide)) (pv 1) (pv 0) (by rfl))
        (pss_one ps_never)
        pss_nil)
        (pss_cons (ps_fldK (K := K) rfl (pv 0) (pv 1) rfl)
        (pss_cons (ps_fldK (K := K) rfl (pv 0) (pe_callTy (call_tupD rfl) (by rfl) B.tuple_ (by decide +kernel) (pa_cons (pe_fldK (K := K) rfl (pv 0) rfl) pa_nil)) rfl)
        (pss_one (ps_fldK (K := K) rfl (pv 0) (C8.pe_c c_write_lines hr (by decide) rfl (pa_cons (pv 1) (pa_cons (pe_fldK (K := K) rfl (pv 0) rfl) pa_nil))) rfl)))))))))), ?_⟩
    walk_at "w"
    refine iteD (fun _ => ?_) (fun h => absurd (by omega) h)
    walk_at "w"
    refine iteND (fun h => absurd (by omega) h) (fun _ => ?_)
    walk_at "w"
    intro dc hdc
    have hp1 : (L2.upd H dc (.dK [])) p = some (.ins C dx []) := by rw [upd_ne (ne_of_none hp hdc)]; exact hp
    have hc1 : (L2.upd H dc (.dK [])) dc = some (.dK []) := upd_same
    have x1 : ExO [p] H (L2.upd H dc (.dK [])) := ExO.of (Ex.new hdc)
    generalize (L2.upd H dc (.dK [])) = H1 at hp1 hc1 x1 ⊢
    walk_at "w"
    refine w_kSfld hp1 S.cls S.columns_ (by decide) ?_
    have hp2 : (L2.upd H1 p (.ins C dx (putF "_columns" (.ref dc) []))) p = some (.ins C dx (putF "_columns" (.ref dc) [])) := upd_same
    have hc2 : (L2.upd H1 p (.ins C dx (putF "_columns" (.ref dc) []))) dc = some (.dK []) := by rw [upd_ne (ne_of hc1 hp1 (by intro z; cases z))]; exact hc1
    have x2 : ExO [p] H (L2.upd H1 p (.ins C dx (putF "_columns" (.ref dc) []))) := x1.put List.mem_cons_self
    generalize (L2.upd H1 p (.ins C dx (putF "_columns" (.ref dc) []))) = H2 at hp2 hc2 x2 ⊢
    have one : ∀ {a : Addr}, a ∈ [p] → ∀ {G : Hp}, G p = some (.ins C dx []) → ∃ o, G a = some o := fun h _ e => by rw [List.mem_singleton.1 h]; exact ⟨_, e⟩
    walk_at "w"
    intro dl hdl
    have cdl : dc ≠ dl := ne_of_none hc2 hdl
    have hdl0 : H dl = none := x2.back (fun a ha => by rw [List.mem_singleton.1 ha]; exact ⟨_, hp2⟩) hdl
    have hp3 : (L2.upd H2 dl (.dK [])) p = some (.ins C dx (putF "_columns" (.ref dc) [])) := by rw [upd_ne (ne_of_none hp2 hdl)]; exact hp2
    have hc3 : (L2.upd H2 dl (.dK [])) dc = some (.dK []) := by rw [upd_ne cdl]; exact hc2
    have hl3 : (L2.upd H2 dl (.dK [])) dl = some (.dK []) := upd_same
    have x3 : ExO [p] H (L2.upd H2 dl (.dK [])) := x2.mut hdl0
    generalize (L2.upd H2 dl (.dK [])) = H3 at hp3 hc3 hl3 x3 ⊢
    have f5 : FsOk (putF "_lists" (.ref dl) (putF "_columns" (.ref dc) [])) dc dl := by
      have nm : ∀ m ∈ meths, ¬ m = ("_lists" : Str) ∧ ¬ m = ("_columns" : Str) := by decide +kernel
      refine ⟨?_, ?_, fun m hm => ?_⟩
      · rw [lookup_putF, if_neg (by decide +kernel), lookup_putF, if_pos rfl]
      · rw [lookup_putF, if_pos rfl]
      · rw [lookup_putF, if_neg (nm m hm).1, lookup_putF, if_neg (nm m hm).2]
        rfl
    have ln2 : (putF "_columns" (.ref dc) ([] : List (Str × V))).length ≤ 1 := length_putF _ _ _
    have ln5 : (putF "_lists" (.ref dl) (putF "_columns" (.ref dc) ([] : List (Str × V)))).length ≤ 2 := Nat.le_trans (length_putF _ _ _) (Nat.succ_le_succ ln2)
    walk_at "w"
    refine w_kSfld hp3 S.cls S.lists_ (by omega) ?_
    generalize (putF "_lists" (.ref dl) (putF "_columns" (.ref dc) [])) = fs at f5 ln5 ⊢
    have hp4 : (L2.upd H3 p (.ins C dx fs)) p = some (.ins C dx fs) := upd_same
    have hc4 : (L2.upd H3 p (.ins C dx fs)) dc = some (.dK []) := by rw [upd_ne (ne_of hc3 hp3 (by intro z; cases z))]; exact hc3
    have hl4 : (L2.upd H3 p (.ins C dx fs)) dl = some (.dK []) := by rw [upd_ne (ne_of hl3 hp3 (by intro z; cases z))]; exact hl3
    have x4 : ExO [p] H (L2.upd H3 p (.ins C dx fs)) := x3.put List.mem_cons_self
    generalize (L2.upd H3 p (.ins C dx fs)) = H4 at hp4 hc4 hl4 x4 ⊢
    walk_at "w"
    intro dm hdm
    have cdm : dc ≠ dm := ne_of_none hc4 hdm
    have ldm : dl ≠ dm := ne_of_none hl4 hdm
    have hdm0 : H dm = none := x4.back (fun a ha => by rw [List.mem_singleton.1 ha]; exact ⟨_, hp4⟩) hdm
    have e5 : Ex H4 (L2.upd H4 dm (.dK [])) := Ex.new hdm
    have hm5 : (L2.upd H4 dm (.dK [])) dm = some (.dK []) := upd_same
    have x5 : ExO [p] H (L2.upd H4 dm (.dK [])) := x4.mut hdm0
    generalize (L2.upd H4 dm (.dK [])) = H5 at e5 hm5 x5 ⊢
    have P5 : Part C H5 p dc dl [] [] [] := ⟨⟨dx, fs, e5 _ _ hp4, f5⟩, e5 _ _ hc4, .nil, e5 _ _ hl4, fun _ h => absurd h List.not_mem_nil, List.nodup_nil, cdl, fun _ h => absurd h List.not_mem_nil, List.nodup_nil⟩
    have hq5 : SqL K H5 q xs := SqL.of (x5 _ _ hq fun z => by rw [List.mem_singleton.mp z, hp] at hq; cases hq)
    walk_at "w"
    refine loopE (xs := xs) (fun d r σ' H' => ∃ x4 x5 x6 td tr cvs rs, σ' = [some (.ref p), some (.str u), some (.ref q), some (.ref dm), x4, x5, x6] ∧ ts = td ++ tr ∧ Paired (TabAt H) r tr ∧ Part C H' p dc dl cvs rs td ∧ rs.mir = mirOf td ∧ Meets H' dm (meetMap td) ∧ ExO [p] H H' ∧ H' p = some (.ins C dx fs) ∧
        (∀ r ∈ rs, H r.2.1 = none ∧ r.2.1 ≠ dm ∧ r.2.2.length ≤ 6 * td.length)) ⟨_, _, _, [], ts, [], [], rfl, rfl, hx, P5, rfl, hm5, x5, e5 _ _ hp4, fun _ h => absurd h List.not_mem_nil⟩ (fun d r σ' H' e h => ?_) (fun d y r σ' H' Tp e hTp h => ?_) (fun σ' H' h => ?_)
    · obtain ⟨_, _, _, _, _, _, _, _, _, _, _, _, _, x, _, _⟩ := h
      exact SqL.of (keepL hp x hq)
    · obtain ⟨x4, x5', x6, td, tr, cvs, rs, rfl, et, hr0, hP, hmi, hme, hO, hpf, hrs⟩ := h
      obtain ⟨t, tr', rfl, hy, hr1⟩ := paired_cons hr0
      obtain ⟨g1, g2, g3, g4⟩ := g.split td t tr' et
      obtain ⟨ya, pp, rfl, hya, vs, hpp, hcs⟩ := hy
      have hT1 : (L2.upd H' Tp (.tup [.int (d.length : Nat), .ref ya])) Tp = some (.tup [.int (d.length : Nat), .ref ya]) := upd_same
      have eT : Ex H' (L2.upd H' Tp (.tup [.int (d.length : Nat), .ref ya])) := Ex.new hTp
      generalize (L2.upd H' Tp (.tup [.int (d.length : Nat), .ref ya])) = H1 at hT1 eT ⊢
      have hO1 : ExO [p] H H1 := hO.trans (.of eT)
      have hP1 := hP.ext eT
      have hme1 : H1 dm = _ := eT _ _ hme
      obtain ⟨⟨dx1, fs1, i1, i2⟩, _, _, _, _, _, _, _, _⟩ := id hP1
      have hya1 := keepT hp hO1 hya
      have hpp1 : H1 pp = some (.lst vs) := keepL hp hO1 hpp
      have hpL : SqL K H1 pp vs := SqL.of hpp1
      have hcs1 : ColsV H1 vs t.2 := keepC hp hO1 hcs
      have lv := paired_len hcs1
      have few := g4.few
      walk_at "w"
      refine ⟨_, .str t.1, rfl, .str _, (fun y e => by cases e; exact Nat.le_trans g2.short (by decide)), ?_⟩
      rw [show strD nameB (.str t.1) = true from (nameB_iff _).mpr g2]
      walk_at "w"
      refine w_kFld i1 S.cls S.columns_ i2.c ?_
      refine w_kI2 hP1.hdc ?_
      rw [hP1.has, decide_eq_false g3]
      walk_at "w"
      refine iteD (fun h => absurd h (by omega)) (fun _ => ?_)
      walk_at "w"
      refine w_kMeth i1 (i2.no _ (by decide +kernel)) ?_
      walk_at "w"
      have mk : rs.mir.map (·.1) = td.map (·.1) := by rw [hmi]; exact mirOf_key g1
      have ltd : td.length ≤ 6 := by rw [et, List.length_append] at l2; omega
      have hown : ∀ a ∈ rs.own dc dl, H a = none := fun a ha => by
        rcases List.mem_cons.1 ha with rfl | ha
        · exact hdc
        · rcases List.mem_cons.1 ha with rfl | ha
          · exact hdl0
          · obtain ⟨r0, hr0, rfl⟩ := List.mem_map.mp ha
            exact (hrs r0 hr0).1
      have dmo : dm ∉ rs.own dc dl := fun ha => by
        rcases List.mem_cons.1 ha with z | ha
        · exact cdm z.symm
        · rcases List.mem_cons.1 ha with z | ha
          · exact ldm z.symm
          · obtain ⟨r0, hr0, z⟩ := List.mem_map.mp ha
            exact (hrs r0 hr0).2.1 z
      refine ⟨p, pp, _, t.1, vs, t.2, dc, dl, cvs, rs, td, rfl, hP1, hpp1, hcs1, by omega, by omega, g3, mk, fun r hr => by have := (hrs r hr).2.2; omega, by rw [hmi]; exact good_colsIn g1 g4, fun T D H3 hD hO3 hP3 => ?_⟩
      have hme3 : H3 dm = some (.dK ((meetMap td).map fun e => ((Sum.inr e.1 : Key), V.bl e.2))) := hO3 _ _ hme1 dmo
      have hp3' : H3 p = some (.ins C dx fs) := hO3 _ _ (eT _ _ hpf) fun z => by rw [hown p z] at hp; cases hp
      have hOO3 : ExO [p] H H3 := hO1.over hO3 hown
      have hD0 : H D = none := hO1.back (fun a ha => by rw [List.mem_singleton.1 ha]; exact ⟨_, i1⟩) hD
      have Ddm : D ≠ dm := fun z => by rw [z, hme1] at hD; cases hD
      obtain ⟨⟨dx3, fs3, j1, j2⟩, k3, _, _, _, _, _, _, _⟩ := id hP3
      have lk : (td ++ [(t.1, t.2)]).lookup t.1 = some t.2 := lookup_mem (l := td ++ [(t.1, t.2)]) (e := t) (by
        have := g.nodup
        rw [et] at this
        have e2 : td ++ t :: tr' = (td ++ [(t.1, t.2)]) ++ tr' := by simp
        rw [e2, List.map_append] at this
        exact (List.nodup_append.mp this).1) (by simp)
      obtain ⟨ca, cvals, c1, c2, c3⟩ := hP3.cget lk
      walk_at "w"
      refine w_kFld j1 S.cls S.columns_ j2.c ?_
      walk_at "w"
      refine w_kG k3 c1 ?_
      walk_at "w"
      refine ⟨_, ca, dm, cvals, t.2, meetMap td, rfl, c2, c3, by omega, g4.ok g1, hme3, good_targets g4.toPreCols, good_rule g4, fun H4 e4 => ?_⟩
      walk_at "w"
      have hm4 := e4 _ _ hme3
      have lm : (meetMap td).length = td.length := by have := congrArg List.length (meetMap_keys td); simpa using this
      refine ⟨dm, _, rfl, DPut.k (k := Sum.inr t.1) hm4 (Nat.lt_of_le_of_lt (m := 6) (by rw [List.length_map]; omega) (by decide)), ?_⟩
      rw [putK_new (meets_none (by rw [meetMap_keys]; exact g3))]
      have P4 := hP3.ext e4
      have ek : ((meetMap td).map fun e => ((Sum.inr e.1 : Key), V.bl e.2)) ++ [(Sum.inr t.1, V.bl (meetOf (meetMap td) t.2))] = (meetMap (td ++ [(t.1, t.2)])).map fun e => ((Sum.inr e.1 : Key), V.bl e.2) := by
        rw [meetMap_snoc, List.map_append]
        rfl
      rw [ek]
      have adr : ∀ r ∈ t.2.foldl (rsAdd t.1) rs ++ [(t.1, D, [])], H r.2.1 = none ∧ r.2.1 ≠ dm ∧ r.2.2.length ≤ 6 * (td ++ [(t.1, t.2)]).length := fun r hr => by
        rw [List.length_append,
                List.length_singleton]
        rcases List.mem_append.1 hr with hr | hr
        · have a1 : r.2.1 ∈ rs.map fun r => r.2.1 := by
            rw [← foldl_adr t.1 t.2 rs]
            exact List.mem_map.mpr ⟨r, hr, rfl⟩
          obtain ⟨r0, h0, e0⟩ := List.mem_map.mp a1
          have a2 := foldl_lens t.1 t.2 rs (6 * td.length) (fun r hr => (hrs r hr).2.2) r hr
          rw [← e0]
          exact ⟨(hrs r0 h0).1, (hrs r0 h0).2.1, by omega⟩
        · rw [List.mem_singleton.1 hr]
          exact ⟨hD0, Ddm, Nat.zero_le _⟩
      have dm4 : dm ∉ Rows.own dc dl (t.2.foldl (rsAdd t.1) rs ++ [(t.1, D, [])]) := fun ha => by
        rcases List.mem_cons.1 ha with z | ha
        · exact cdm z.symm
        · rcases List.mem_cons.1 ha with z | ha
          · exact ldm z.symm
          · obtain ⟨r0, hr0, z⟩ := List.mem_map.mp ha
            exact (adr r0 hr0).2.1 z
      exact ⟨_, _, _, td ++ [(t.1, t.2)], tr', cvs ++ [(.inr t.1, .ref T)], _, rfl, by rw [et]; simp, hr1, P4.other hm4 dm4, by rw [mirOf_snoc]; unfold Rows.mir; rw [List.map_append]; show (t.2.foldl (rsAdd t.1) rs).mir ++ _ = _; rw [foldl_mir, hmi]; rfl, upd_same, (hOO3.trans (.of e4)).mut hdm0, by rw [upd_ne (ne_of (e4 _ _ hp3') hm4 (by intro z; cases z))]; exact e4 _ _ hp3', adr⟩
    · obtain ⟨x4, x5', x6, td, tr, cvs, rs, rfl, et, hr0, hP, hmi, hme, hO, hpf, hrs⟩ := h
      cases hr0
      rw [List.append_nil] at et
      subst et
      obtain ⟨_, k1, k2, _, _, _, _, _, _⟩ := id hP
      walk_at "w"
      refine w_ownIn hpf ?_
      refine ⟨p, _, .str u, dc, dl, cvs, rs, ts, rfl, hP, .str u, ?_⟩
      rw [show strD (fun n => decide (n ∈ ts.map (·.1))) (.str u) = true from decide_eq_true hu]
      refine ⟨true, rfl, ?_⟩
      refine ⟨false, rfl, iteF ?_⟩
      walk_at "w"
      refine w_kSfld hpf S.cls S.user_ (by omega) ?_
      have ln6 : (putF "user" (.str u) fs).length ≤ 3 := Nat.le_trans (length_putF _ _ _) (Nat.succ_le_succ ln5)
      have f6 : FsOk (putF "user" (.str u) fs) dc dl := f5.put (by decide +kernel)
      have u6 : (putF "user" (.str u) fs).lookup ("user" : Str) = some (.str u) := by rw [lookup_putF, if_pos rfl]
      have P6 : Part C (L2.upd H' p (.ins C dx (putF "user" (.str u) fs))) p dc dl cvs rs ts := hP.setF hpf f6
      have O6 : ExO [p] H (L2.upd H' p (.ins C dx (putF "user" (.str u) fs))) := hO.put List.mem_cons_self
      have p6 : (L2.upd H' p (.ins C dx (putF "user" (.str u) fs))) p = some (.ins C dx (putF "user" (.str u) fs)) := upd_same
      generalize (L2.upd H' p (.ins C dx (putF "user" (.str u) fs))) = H6 at P6 O6 p6 ⊢
      generalize (putF "user" (.str u) fs) = fs6 at ln6 f6 u6 p6 ⊢
      walk_at "w"
      refine w_kFld p6 S.cls S.columns_ f6.c ?_
      walk_at "w"
      refine ⟨dc, cvs, rfl, .inl P6.hdc, fun tt htt => ?_⟩
      rw [tup_keys P6.cols]
      have e7 : Ex H6 (L2.upd H6 tt (.tup (ts.map fun t => V.str t.1))) := Ex.new htt
      have t7 : (L2.upd H6 tt (.tup (ts.map fun t => V.str t.1))) tt = some (.tup (ts.map fun t => V.str t.1)) := upd_same
      generalize (L2.upd H6 tt (.tup (ts.map fun t => V.str t.1))) = H7 at e7 t7 ⊢
      walk_at "w"
      have p7 := e7 _ _ p6
      refine w_kSfld p7 S.cls S.tables_ (by omega) ?_
      have ln8 : (putF "tables" (.ref tt) fs6).length ≤ 4 := Nat.le_trans (length_putF _ _ _) (Nat.succ_le_succ ln6)
      have f8 : FsOk (putF "tables" (.ref tt) fs6) dc dl := f6.put (by decide +kernel)
      have u8 : (putF "tables" (.ref tt) fs6).lookup ("user" : Str) = some (.str u) := by rw [lookup_putF, if_neg (by decide +kernel)]; exact u6
      have t8 : (putF "tables" (.ref tt) fs6).lookup ("tables" : Str) = some (.ref tt) := by rw [lookup_putF, if_pos rfl]
      have P8 : Part C (L2.upd H7 p (.ins C dx (putF "tables" (.ref tt) fs6))) p dc dl cvs rs ts := (P6.ext e7).setF p7 f8
      have O8 : ExO [p] H (L2.upd H7 p (.ins C dx (putF "tables" (.ref tt) fs6))) := (O6.trans (.of e7)).put List.mem_cons_self
      have p8 : (L2.upd H7 p (.ins C dx (putF "tables" (.ref tt) fs6))) p = some (.ins C dx (putF "tables" (.ref tt) fs6)) := upd_same
      have tt8 : (L2.upd H7 p (.ins C dx (putF "tables" (.ref tt) fs6))) tt = some (.tup (ts.map fun t => V.str t.1)) := by rw [upd_ne (ne_of t7 p7 (by intro z; cases z))]; exact t7
      generalize (L2.upd H7 p (.ins C dx (putF "tables" (.ref tt) fs6))) = H8 at P8 O8 p8 tt8 ⊢
      generalize (putF "tables" (.ref tt) fs6) = fs8 at ln8 f8 u8 t8 p8 ⊢
      walk_at "w"
      refine w_kFld p8 S.cls S.columns_ f8.c ?_
      walk_at "w"
      refine ⟨u, dc, cvs, ts, rfl, P8.hdc, P8.cols, ?_, by omega, g.nodup, good_sz g, fun ll H9 e9 hll => ?_⟩
      · obtain ⟨t, h1, h2⟩ := List.mem_map.mp hu
        rw [← h2]
        exact Nat.le_trans (g.names t h1).short (by decide)
      · walk_at "w"
        have p9 := e9 _ _ p8
        refine w_kSfld p9 S.cls S.lines_ (by omega) ?_
        have f10 : FsOk (putF "_lines" (.ref ll) fs8) dc dl := f8.put (by decide +kernel)
        refine k _ ((O8.trans (.of e9)).put List.mem_cons_self) ⟨dc, dl, cvs, rs, dx, _, tt, ll, (P8.ext e9).setF p9 f10, hmi, upd_same, f10, ?_, ?_, ?_, ?_, ?_⟩
        · rw [lookup_putF, if_neg (by decide +kernel)]; exact u8
        · rw [lookup_putF, if_neg (by decide +kernel)]; exact t8
        · rw [upd_ne (ne_of (e9 _ _ tt8) p9 (by intro z; cases z))]; exact e9 _ _ tt8
        · rw [lookup_putF, if_pos rfl]
        · rw [upd_ne (ne_of hll p9 (by intro z; cases z))]; exact hll
end
end LP
namespace LP
open PySem L2
open Evl (Ex)
section
variable {base : Heap} {mg : Str → Option Value} {K : PySem.W.Frag} {w : World} {P : Program} {C CN fI : Addr} {fdI : FuncData}
theorem ok_noname {f : Addr} {fd : FuncData} (T : OexL K CN) (n : NoAttr K CN "name") (F : C8.Fun K "__init__" "NoName.__init__" s_NoName___init__ f fd) (b : Binds K fd ["self", "name"] []) :
    FnOk P w K mg base C8.CX0 1 f fd ["self", "name"] (spExI CN "name") := by
  have sc : FnScope ["self", "name"] ["self", "name"] (C8.fnScope s_NoName___init__) := C8.fnScope_by (by decide +kernel)
  refine C8.fn0 F sc (fun vs H Q E h => ?_) (fun cdv A outer s H vs Q E hr h => ?_)
  · obtain ⟨_, _, rfl, _⟩ := h
    rfl
  · obtain ⟨a, v, rfl, ha, k⟩ := h
    refine ⟨_, (pss_one (ps_ostL (K := K) rfl (pv 0) (pv 1) rfl)), ?_⟩
    walk_at "w"
    exact ⟨a, CN, rfl, T, n, ha, k⟩
/-- what a def wishes that may refuse a name -/
def NoN (CN : Addr) (v : V) (H : Hp) (E : XK) : Prop := ∀ (dd : Addr) (H' : Hp), Ex H H' → H' dd = some (.xd [("name", v)]) → E (.ref CN) (some dd) H'
def spColumns (K : PySem.W.Frag) (C CN : Addr) : Sp := fun vs H Q E => ∃ (p : Addr) (v : V) (d : PyData) (u : Str) (ts : Tabs), vs = [.ref p, v] ∧ SchAt C H p u ts ∧ Dp K H v d ∧
  ((∃ n cs, d = .str n ∧ ts.lookup n = some cs ∧ ∀ a xs, H a = some (.tup xs) → ColsV H xs cs → Q (.ref a) H) ∨ (strD (fun n => decide (n ∈ ts.map (·.1))) d = false ∧ NoN CN v H E))
theorem raised {H : Hp} {CN : Addr} {v : V} {E : XK} (k : NoN CN v H E) (a : Addr) (ha : H a = none) : spExI CN "name" [.ref a, v] (upd H a (exo a CN none))
    (fun x H2 => x = .non ∧ ∃ (d : Addr) (fs : List (Str × V)), H2 a = some (exo a CN (some d)) ∧ H2 d = some (exd d fs) ∧ H d = none ∧ E (.ref CN) (some d) (upd (L2.del H2 a) d (.xd fs))) (fun _ _ _ => False) := by
  refine ⟨a, v, rfl, upd_same, fun dx hdx ne => ⟨rfl, dx, _, upd_same, by rw [upd_ne ne]; exact upd_same, ?_, ?_⟩⟩
  · rw [upd_ne ne] at hdx
    exact hdx
  · rw [upd_ne ne] at hdx
    refine k dx _ (fun b o hb => ?_) upd_same
    have b1 : b ≠ dx := ne_of_none hb hdx
    have b2 : b ≠ a := ne_of_none hb ha
    rw [upd_ne b1, L2.del_ne b2, upd_ne b2, upd_ne b1, upd_ne b2]
    exact hb
theorem ok_columns {f : Addr} {fd : FuncData} (S : SchC K C) (F : C8.Fun K "columns" "Schema.columns" s_Schema_columns f fd) (B : Blt mg) (NX : ExC P w K mg base "NoName" CN fI fdI ["self", "name"] 1 (spExI CN "name"))
    (c___contains__ : C8.Met P w K mg base 1 C "__contains__" (spContains K C) []) : FnOk P w K mg base (L2.CX P w) 3 f fd ["self", "table"] (spColumns K C CN) := by
  have sc : FnScope ["self", "table"] ["self", "table"] (C8.fnScope s_Schema_columns) := C8.fnScope_by (by decide +kernel)
  refine fnX F sc (fun vs H Q E h => ?_) (fun cdv A outer s H vs Q E hr h => ?_)
  · obtain ⟨_, _, _, _, _, rfl, _⟩ := h
    rfl
  · obtain ⟨p, v, d, u, ts, rfl, hS, hd, k⟩ := h
    obtain ⟨dc, dl, cvs, rs, dx, fs, tt, ll, hP, hm, hp, hf, _⟩ := hS.ex
    refine ⟨_, (pss_cons (ps_if (pt_cmpR (op_onin (dvs := []) c___contains__ hr (by decide)) (pv 1) (pv 0) (by rfl))
        (pss_one (ps_raiseL rfl (takes_of rfl rfl rfl rfl) (pmk_L NX.T NX.iC NX.tI NX.F (hr.mono (by decide)) NX.b (by rfl) NX.mgC (pa_cons (pv 1) pa_nil))))
        pss_nil)
        (pss_one (ps_ret (pe_dget (hu_of hr) (pe_fldK (K := K) rfl (pv 0) rfl) (pv 1) (fun _ _ => rfl))))), ?_⟩
    walk_at "w"
    refine w_ownIn hp ?_
    refine ⟨p, v, d, dc, dl, cvs, rs, ts, rfl, hP, hd, ?_⟩
    rcases k with ⟨n, cs, rfl, hl, k⟩ | ⟨hno, k⟩
    · rw [show strD (fun n => decide (n ∈ ts.map (·.1))) (.str n) = true from decide_eq_true (List.mem_map.mpr ⟨_, PySem.mem_of_lookup hl, rfl⟩)]
      cases hd
      refine ⟨true, rfl, false, rfl, iteF ?_⟩
      walk_at "w"
      refine w_kFld hp S.cls S.columns_ hf.c ?_
      walk_at "w"
      obtain ⟨ca, cvals, g1, g2, g3⟩ := hP.cget hl
      refine w_kG hP.hdc g1 ?_
      exact k ca cvals g2 g3
    · rw [hno]
      refine ⟨false, rfl, true, rfl, iteT ?_⟩
      walk_at "w"
      exact ⟨by simp, fun a ha => raised k a ha⟩
def spLists (K : PySem.W.Frag) (C CN : Addr) : Sp := fun vs H Q E => ∃ (p : Addr) (v : V) (d : PyData) (u : Str) (ts : Tabs), vs = [.ref p, v] ∧ SchAt C H p u ts ∧ Dp K H v d ∧
  ((∃ n ls, d = .str n ∧ n ∈ ts.map (·.1) ∧ (mirOf ts).lookup n = some ls ∧ ∀ D H', H D = none → Ex H H' → ListRow H' D ls → Q (.ref D) H') ∨ (strD (fun n => decide (n ∈ ts.map (·.1))) d = false ∧ NoN CN v H E))
theorem ok_lists {f : Addr} {fd : FuncData} (S : SchC K C) (F : C8.Fun K "lists" "Schema.lists" s_Schema_lists f fd) (B : Blt mg) (NX : ExC P w K mg base "NoName" CN fI fdI ["self", "name"] 1 (spExI CN "name"))
    (c___contains__ : C8.Met P w K mg base 1 C "__contains__" (spContains K C) []) : FnOk P w K mg base (L2.CX P w) 3 f fd ["self", "table"] (spLists K C CN) := by
  have sc : FnScope ["self", "table"] ["self", "table"] (C8.fnScope s_Schema_lists) := C8.fnScope_by (by decide +kernel)
  refine fnX F sc (fun vs H Q E h => ?_) (fun cdv A outer s H vs Q E hr h => ?_)
  · obtain ⟨_, _, _, _, _, rfl, _⟩ := h
    rfl
  · obtain ⟨p, v, d, u, ts, rfl, hS, hd, k⟩ := h
    obtain ⟨dc, dl, cvs, rs, dx, fs, tt, ll, hP, hm, hp, hf, _⟩ := hS.ex
    refine ⟨_, (pss_cons (ps_if (pt_cmpR (op_onin (dvs := []) c___contains__ hr (by decide)) (pv 1) (pv 0) (by rfl))
        (pss_one (ps_raiseL rfl (takes_of rfl rfl rfl rfl) (pmk_L NX.T NX.iC NX.tI NX.F (hr.mono (by decide)) NX.b (by rfl) NX.mgC (pa_cons (pv 1) pa_nil))))
        pss_nil)
        (pss_one (ps_ret (pe_callTy call_dictD' (by rfl) B.dict_ (by decide +kernel) (pa_cons (pe_dget (hu_of hr) (pe_fldK (K := K) rfl (pv 0) rfl) (pv 1) (fun _ _ => rfl)) pa_nil))))), ?_⟩
    walk_at "w"
    refine w_ownIn hp ?_
    refine ⟨p, v, d, dc, dl, cvs, rs, ts, rfl, hP, hd, ?_⟩
    rcases k with ⟨n, ls, rfl, hn, hl, k⟩ | ⟨hno, k⟩
    · rw [show strD (fun n => decide (n ∈ ts.map (·.1))) (.str n) = true from decide_eq_true hn]
      cases hd
      refine ⟨true, rfl, false, rfl, iteF ?_⟩
      walk_at "w"
      refine w_kFld hp S.cls S.lists_ hf.l ?_
      walk_at "w"
      obtain ⟨la, l1, l2⟩ := rows_get (rs := rs) (by rw [hm]; exact hl)
      refine w_kG hP.hdl l1 ?_
      obtain ⟨kvs, m1, m2⟩ := hP.lst _ l2
      walk_at "w"
      have m1 : H la = some (.dK kvs) := m1
      have fin : ∀ D, H D = none → Q (.ref D) (L2.upd H D (.dK kvs)) := fun D hD => k D _ hD (Ex.new hD) ⟨kvs, upd_same, paired_imp (fun _ _ => ListEnt.ext (Ex.new hD)) m2⟩
      exact ⟨la, kvs, rfl, .inl m1, fin⟩
    · rw [hno]
      refine ⟨false, rfl, true, rfl, iteT ?_⟩
      walk_at "w"
      exact ⟨by simp, fun a ha => raised k a ha⟩
end
end LP
namespace LP
open PySem L2
open Evl (Ex)
open LamX (GivesTo CodeO)
/-- what the law's own names of classes hold -/
structure LawC (K : PySem.W.Frag) (mg : Str → Option Value) (CN NR LE : Addr) : Prop where
  mgN : mg "NoName" = some (.ref CN)
  NoRow_ : ∃ u, mg "NoRow" = some u ∧ RelV (.ref NR) u
  ListandpageError_ : ∃ u, mg "ListandpageError" = some u ∧ RelV (.ref LE) u
  lk_ : mg "LookupError" = none
  ex : ExcK K CN
  xf : XfC K CN
  nn : PySem.W.findIn K (.ref CN) "name" = some none
  k1 : PySem.W.kitAny K (.ref CN) [.ref NR, .ref LE] = some false
  k2 : PySem.W.kitOne K (.ref CN) (.type "LookupError") = some true
  m1 : PySem.W.exmOne K (.ref CN) (.ref CN) = some true
/-- what _law_error makes of what it calls -/
def TTerr (CN : Addr) : (XK → Hp → VK → Prop) → Hp → VK → Prop := fun tl H Q =>
  tl (fun cls d H' => cls = .ref CN ∧ ∃ (dd : Addr) (v : V), d = some dd ∧ H' dd = some (.xd [("name", v)]) ∧ ∀ T H'', Ex H' H'' → H'' T = some (.tup [.str "name", v]) → Q (.ref T) H'') H fun _ H' => Q .non H'
end LP
namespace LP
open PySem L2
open Evl (Ex)
open LamX (GivesTo CodeO TabS Tabs ExtN TabB LamS lamEnv lamCx tLam)
/-- a def, its code object at c -/
structure FunC (K : PySem.W.Frag) (x qual : Str) (st : Stmt) (f : Addr) (fd : FuncData) (c : Addr) : Prop where
  ex : ∃ (oc : Value) (od : Option Addr) (dV kV doc pm : Value) (an : Option Addr) (ct : Value) (osl : Array (Option Value)),
    fd = PySem.W.fnOf x qual (C8.fnArgs st) (C8.fnBody st) (C8.fnScope st) dV kV doc pm an (.ref c) ct ∧ K.lookup f = some ⟨oc, od, .func fd, osl⟩ ∧ PySem.W.codeIn K (.ref c) qual = true
theorem fnC {P : Program} {w : World} {K : PySem.W.Frag} {mg : Str → Option Value} {base : Heap} {x qual : Str} {st : Stmt} {f c : Addr} {fd : FuncData} {N ps : List Str} {k : Nat} {sp : Sp} (F : FunC K x qual st f fd c) (S : FnScope N ps (C8.fnScope st)) (len : ∀ vs H Q E, sp vs H Q E → vs.length = ps.length)
    (hb : ∀ (A : Around) (outer : List Env) (s : Shared) (H : Hp) (vs : List V) (Q : VK) (E : XK), Room k (A.deeper (PyProof.Rows.envOfC qual (C8.fnScope st) s.heap.objs.size f (.ref c))) → sp vs H Q E →
      ∃ t, PSs (cxOf C8.CX0 P w K mg base N qual (C8.fnScope st) f (.ref c) A outer s H E).nox (C8.fnBody st) t ∧ t { nx := fun _ H' => Q .non H', rt := Q } (L2.start N vs) H) : FnOk P w K mg base C8.CX0 (k + 1) f fd ps sp := by
  obtain ⟨oc, od, dV, kV, doc, pm, an, ct, osl, rfl, lk, hcd⟩ := F.ex
  refine fn_of lk hcd S len fun A outer s H vs Q E hr hsp => ?_; obtain ⟨t, h, q⟩ := hb A outer s H vs Q E hr hsp
  exact ⟨t, h.nox, q⟩
/-- a method that may raise -/
structure MetX (P : Program) (w : World) (K : PySem.W.Frag) (mg : Str → Option Value) (base : Heap) (k : Nat) (C : Addr) (m : Str) (sp : Sp) : Prop where
  ex : ∃ (f : Addr) (fd : FuncData) (ps : List Str), Cls K C ∧ Meth K C m f ∧ FnOk P w K mg base (L2.CX P w) k f fd ps sp ∧ Binds K fd ps []
theorem passF {X : Cx} : Passes (L2.CX X.prog X.w) X (fun _ _ _ => False) := fun _ _ _ _ _ _ _ h => by
  obtain ⟨_,
          _, _, _, _, _, _, _, _, _, _, _, z⟩ := h
  exact z.elim
theorem pe_mx {X : Cx} {k j : Nat} {C : Addr} {m : Str} {sp : Sp} {E : XK} {o e : Expr} {es : List Expr} {pos apos : Pos} {ta : TE} {t : TA} {pl : Sem Bool} (c : MetX X.prog X.w X.K X.mg X.base k C m sp) (hr : Room j X.A) (hk : k ≤ j) (hx : Passes (L2.CX X.prog X.w) X E) (he : PE X o ta) (ha : PA X (e :: es) t)
    (hst : starEach
            (e :: es) X.env = (false, eval e X.env) :: starEach es X.env := by rfl) (hpl : (backTo pos (starEach es X.env)).any (·.1) = false := by rfl)
    (ht : eval (.Call (.Attribute o m apos) (e :: es) [] pos) X.env = (do let ov ← eval o X.env; standAt apos.atName; let (f, first) ← holding [ov] (getMethod ov m pl); callWith pos f first (backTo pos (starEach (e :: es) X.env)) (backToKw pos (keywordEach [] X.env))) := by rfl) :
    PE X (.Call (.Attribute o m apos) (e :: es) [] pos) (tMeth C m sp [] E ta t) := by
  obtain ⟨f, fd, ps, hc, hm, F, b⟩ := c.ex
  exact pe_meth (pl := pl) he hc hm F (hr.mono hk) b .nil hx ha hst hpl ht
/-- the heap without the tables of code objects -/
def noT (H : Hp) : Hp := fun a => match H a with
  | some (.tbl _) => none
  | o => o
theorem noT_ex {H : Hp} : Ex (noT H) H := fun a o h => by
  unfold noT at h
  split at h
  · cases h
  · exact h
theorem noT_some {H : Hp} {a : Addr} {o : HO} (h : noT H a = some o) : ∀ ps, o ≠ .tbl ps := fun ps z => by
  subst z
  have e := noT_ex a _ h
  unfold noT at h
  rw [e] at h
  cases h
theorem noT_of {H : Hp} {a : Addr} {o : HO} (h : H a = some o) (n : ∀ ps, o ≠ .tbl ps) : noT H a = some o := by
  unfold noT
  split
  · rename_i ps e
    rw [e] at h
    cases h
    exact absurd rfl (n ps)
  · exact h
theorem noT_ext {H H' : Hp} (e : ExtN H H') : Ex (noT H) (noT H') := fun a o h => noT_of (e a o (noT_ex a o h) (noT_some h)) (noT_some h)
theorem noT_mono {H H' : Hp} (e : Ex H H') : Ex (noT H) (noT H') := noT_ext (LamX.ExtN.of e)
end LP
namespace LP
open PySem.Spec PyProof.Rows PySem L2
/-! ### defs told by their statements -/
def dn (x : Str) (st : Stmt) : He.DefD := ⟨(x, none), x, x, C8.fnArgs st, C8.fnBody st, C8.fnScope st, [], []⟩
def dm (C m q : Str) (st : Stmt) : He.DefD := ⟨(C, some m), m, q, C8.fnArgs st, C8.fnBody st, C8.fnScope st, [], []⟩
theorem told_fun {K : PySem.W.Frag} {x q : Str} {st : Stmt} {f : Addr} {fd : FuncData} (F : FunD K x q (C8.fnArgs st) (C8.fnBody st) (C8.fnScope st) [] [] f fd) : C8.Fun K x q st f fd ∧ fd.defaults = .none := by
  obtain ⟨oc, od, dV, kV, doc, pm, an, cdv, ct, osl, e, lk, hc, hd, _⟩ := F.ex
  refine ⟨⟨oc, od, dV, kV, doc, pm, an, cdv, ct, osl, e, lk, hc⟩, ?_⟩
  rcases hd with ⟨_, z⟩ | ⟨z, _⟩
  · rw [e]
    exact z
  · exact absurd rfl z
section
variable {fa : List He.Fa} {fn : List He.DefD} {K : PySem.W.Frag} {h : Heap} {mg : Str → Option Value}
theorem told_def (c : He.SaysD fa fn K) (i : Nat) {x : Str} {st : Stmt} (hi : fn[i]? = some (dn x st)) (hg : mg x = some (.ref (He.ga K x))) : ∃ fd, C8.Def K mg x st (He.ga K x) fd ∧ fd.defaults = .none := by
  obtain ⟨fd, F⟩ := c.def_ i hi
  obtain ⟨a, b⟩ := told_fun F
  exact ⟨fd, ⟨a, hg, F.kp⟩, b⟩
theorem told_meth (c : He.SaysD fa fn K) (i : Nat) {C m q : Str} {st : Stmt} (hi : fn[i]? = some (dm C m q st)) : ∃ fd, C8.Fun K m q st (He.ma K (He.ga K C) m) fd ∧ fd.defaults = .none := by
  obtain ⟨fd, F⟩ := c.def_ i hi
  obtain ⟨a, b⟩ := told_fun F
  exact ⟨fd, a, b⟩
theorem is_ref {x : Str} {a : Addr} (e : mg x = some (.ref a)) : ∃ u, mg x = some u ∧ RelV (.ref a) u := ⟨_, e, rfl⟩
theorem is_int {x : Str} {i : Int} (e : ∃ t, mg x = some (.int i t)) : ∃ u, mg x = some u ∧ RelV (.int i) u := by
  obtain ⟨t, e⟩ := e
  exact ⟨_, e, t, rfl⟩
end
theorem bindLaw {K : PySem.W.Frag} {x : Str} {st : Stmt} {f : Addr} {fd : FuncData} (F : C8.Fun K x x st f fd) (df : fd.defaults = .none) (s : Shared) (u : Value) {p : Str}
    (e : ∀ (kV doc pm : Value) (an : Option Addr) (cdv ct : Value), bindArgs (PySem.W.fnOf x x (C8.fnArgs st) (C8.fnBody st) (C8.fnScope st) .none kV doc pm an cdv ct) ⟨[u], []⟩ = pure [(p, u)] := by intros; rfl) : BindsTo s fd ⟨[u], []⟩ [(p, u)] := by
  obtain ⟨oc,
          od, dV, kV, doc, pm, an, cdv, ct, osl, rfl, lk, hcd⟩ := F.ex
  have z : dV = .none := df
  subst z
  exact .of_eq (e kV doc pm an cdv ct)
/-! ### static methods -/
structure SDef where
  cls : Str
  name : Str
  qual : Str
  st : Stmt
def SDef.box (K : PySem.W.Frag) (d : SDef) : Addr := He.ma K (He.ga K d.cls) d.name
def SDef.ad (K : PySem.W.Frag) (d : SDef) : Addr := match PySem.W.recIn K (d.box K) "staticmethod" with
  | some (.ref g :: _) => g
  | _ => 0
def SDef.see (K : PySem.W.Frag) (d : SDef) : He.FnW := match K.lookup (d.ad K) with
  | some ⟨_, _, .func u, _⟩ => some (u.name, u.qualname, u.params, u.body, u.scope, u.globals, u.closure, u.builtins)
  | _ => none
def SDef.val (d : SDef) : He.FnW := some (d.name, d.qual, C8.fnArgs d.st, .stmts (C8.fnBody d.st), C8.fnScope d.st, mainGlobals, [], builtinsNs)
def noDfl : Value → Bool
  | .none => true
  | _ => false
def SDef.okF (K : PySem.W.Frag) (d : SDef) : Bool := match K.lookup (d.ad K) with
  | some ⟨_, _, .func u, _⟩ => PySem.W.codeIn K u.code d.qual && noDfl u.defaults
  | _ => false
def SDef.okM (K : PySem.W.Frag) (d : SDef) : Bool := match PySem.W.findCls K (.ref (He.ga K d.cls)) (.type "type") d.name with
  | some (.get (.builtin g) (.ref p) .none (.ref C)) => decide (g = "staticmethod.__get__") && (decide (p = d.box K) && decide (C = He.ga K d.cls))
  | _ => false
def SDef.okR (K : PySem.W.Frag) (d : SDef) : Bool := match PySem.W.recIn K (d.box K) "staticmethod" with
  | some (.ref _ :: _) => true
  | _ => false
def SDef.ok (K : PySem.W.Frag) (d : SDef) : Bool :=
  d.okF K && (d.okM K && (d.okR K && (PySem.W.keepIn K (.ref (d.ad K)) && (PySem.W.readsIn K (He.ga K d.cls) (.type "type") && (He.eqO (PySem.W.specialIn K (.ref (He.ga K d.cls)) "__getattribute__") (some (some (.builtin "type.__getattribute__"))) &&
    (PySem.W.plainGet K (He.ga K d.cls) Str.empty && (PySem.W.isClsIn K (He.ga K d.cls) && (He.eqO (PySem.W.findIn K (.ref (He.ga K d.cls)) d.name) (some (some (.ref (d.box K)))) && (decide (PySem.W.typeIn K (.ref (d.box K)) = some (.type "staticmethod")) &&
    (He.eqO (PySem.W.specialIn K (.ref (d.box K)) "__get__") (some (some (.builtin "staticmethod.__get__"))) && (decide (PySem.W.takesIn K (.ref (d.box K)) = some false) && !PySem.W.copiedNames.contains d.name)))))))))))
theorem SDef.fun_ {K : PySem.W.Frag} {d : SDef} (e : d.see K = d.val) (c : d.okF K = true) : ∃ fd, C8.Fun K d.name d.qual d.st (d.ad K) fd ∧ fd.defaults = .none := by
  unfold SDef.see at e
  unfold SDef.okF at c
  cases q : K.lookup (d.ad K) with
  | none =>
    rw [q] at c
    cases c
  | some o =>
    obtain ⟨oc, od, dt, osl⟩ := o
    rw [q] at c e
    cases dt with
    | func u =>
      obtain ⟨n1, n2, n3, n4, n5, n6, n7, n8, n9, n10, n11, n12, n13, n14, n15⟩ := u
      have e2 : (some (n1, n2, n3, n4, n5, n6, n7, n15) : He.FnW) = d.val := e
      unfold SDef.val at e2
      simp only [Option.some.injEq,
              Prod.mk.injEq] at e2
      obtain ⟨h1,
              h2, h3, h4, h5, h6, h7, h8⟩ := e2
      subst h1 h2 h3 h4 h5 h6 h7 h8
      obtain ⟨k1, k2⟩ := He.ba (show (PySem.W.codeIn K n13 d.qual && noDfl n8) = true from c)
      cases n8 with
      | none => exact ⟨_, ⟨oc, od, .none, n9, n10, n11, n12, n13, n14, osl, rfl, q, k1⟩, rfl⟩
      | _ => cases k2
    | _ => cases c
theorem SDef.rec_ {K : PySem.W.Frag} {d : SDef} (h : d.okR K = true) : ∃ rest, PySem.W.recIn K (d.box K) "staticmethod" = some (.ref (d.ad K) :: rest) := by
  unfold SDef.okR at h
  unfold SDef.ad
  split at h
  · rename_i g rest e
    rw [e]
    exact ⟨rest, rfl⟩
  · cases h
theorem SDef.at_ {K : PySem.W.Frag} {d : SDef} (h : d.okM K = true) : PySem.W.findCls K (.ref (He.ga K d.cls)) (.type "type") d.name = some (.get (.builtin "staticmethod.__get__") (.ref (d.box K)) .none (.ref (He.ga K d.cls))) := by
  unfold SDef.okM at h
  split at h
  · rename_i g p C e
    obtain ⟨h1, h⟩ := He.ba h
    obtain ⟨h2, h3⟩ := He.ba h
    rw [e, of_decide_eq_true h1, of_decide_eq_true h2, of_decide_eq_true h3]
  · cases h
theorem SDef.all {K : PySem.W.Frag} {d : SDef} (e : d.see K = d.val) (h : d.ok K = true) : (∃ fd, C8.Fun K d.name d.qual d.st (d.ad K) fd ∧ fd.defaults = .none) ∧ ClX.CRead K (He.ga K d.cls) (.type "type") ∧ SMet K (He.ga K d.cls) (.type "type") d.name (d.box K) (d.ad K) ∧
    SInst K (He.ga K d.cls) d.name (d.box K) (d.ad K) := by
  obtain ⟨h1, h⟩ := He.ba h
  obtain ⟨h2, h⟩ := He.ba h
  obtain ⟨h3, h⟩ := He.ba h
  obtain ⟨h4, h⟩ := He.ba h
  obtain ⟨h5, h⟩ := He.ba h
  obtain ⟨h6, h⟩ := He.ba h
  obtain ⟨h7, h⟩ := He.ba h
  obtain ⟨h8, h⟩ := He.ba h
  obtain ⟨h9, h⟩ := He.ba h
  obtain ⟨h10, h⟩ := He.ba h
  obtain ⟨h11, h⟩ := He.ba h
  obtain ⟨h12, h13⟩ := He.ba h
  have c : PySem.W.copiedNames.contains d.name = false := by
    cases z : PySem.W.copiedNames.contains d.name with
    | false => rfl
    | true =>
      rw [z] at h13
      cases h13
  exact ⟨SDef.fun_ e h1, ⟨h5, He.eqO_ok h6⟩, ⟨SDef.at_ h2, SDef.rec_ h3, h4⟩, ⟨h7, h8, He.eqO_ok h9, of_decide_eq_true h10, He.eqO_ok h11, of_decide_eq_true h12, c, SDef.rec_ h3, h4⟩⟩
/-! ### class methods -/
def SDef.adC (K : PySem.W.Frag) (d : SDef) : Addr := match PySem.W.recIn K (d.box K) "classmethod" with
  | some (.ref g :: _) => g
  | _ => 0
def SDef.seeC (K : PySem.W.Frag) (d : SDef) : He.FnW := match K.lookup (d.adC K) with
  | some ⟨_, _, .func u, _⟩ => some (u.name, u.qualname, u.params, u.body, u.scope, u.globals, u.closure, u.builtins)
  | _ => none
def SDef.okFC (K : PySem.W.Frag) (d : SDef) : Bool := match K.lookup (d.adC K) with
  | some ⟨_, _, .func u, _⟩ => PySem.W.codeIn K u.code d.qual && noDfl u.defaults
  | _ => false
def SDef.okMC (K : PySem.W.Frag) (d : SDef) : Bool := match PySem.W.findCls K (.ref (He.ga K d.cls)) (.type "type") d.name with
  | some (.get (.builtin g) (.ref p) .none (.ref C)) => decide (g = "classmethod.__get__") && (decide (p = d.box K) && decide (C = He.ga K d.cls))
  | _ => false
def SDef.okRC (K : PySem.W.Frag) (d : SDef) : Bool := match PySem.W.recIn K (d.box K) "classmethod" with
  | some (.ref _ :: _) => true
  | _ => false
def SDef.okC (K : PySem.W.Frag) (d : SDef) : Bool :=
  d.okFC K && (d.okMC K && (d.okRC K && (PySem.W.fnIn K (d.adC K) && (PySem.W.readsIn K (He.ga K d.cls) (.type "type") && He.eqO (PySem.W.specialIn K (.ref (He.ga K d.cls)) "__getattribute__") (some (some (.builtin "type.__getattribute__")))))))
theorem SDef.funC {K : PySem.W.Frag} {d : SDef} (e : d.seeC K = d.val) (c : d.okFC K = true) : ∃ fd, C8.Fun K d.name d.qual d.st (d.adC K) fd ∧ fd.defaults = .none := by
  unfold SDef.seeC at e
  unfold SDef.okFC at c
  cases q : K.lookup (d.adC K) with
  | none =>
    rw [q] at c
    cases c
  | some o =>
    obtain ⟨oc, od, dt, osl⟩ := o
    rw [q] at c e
    cases dt with
    | func u =>
      obtain ⟨n1, n2, n3, n4, n5, n6, n7, n8, n9, n10, n11, n12, n13, n14, n15⟩ := u
      have e2 : (some (n1, n2, n3, n4, n5, n6, n7, n15) : He.FnW) = d.val := e
      unfold SDef.val at e2
      simp only [Option.some.injEq,
              Prod.mk.injEq] at e2
      obtain ⟨h1,
              h2, h3, h4, h5, h6, h7, h8⟩ := e2
      subst h1 h2 h3 h4 h5 h6 h7 h8
      obtain ⟨k1, k2⟩ := He.ba (show (PySem.W.codeIn K n13 d.qual && noDfl n8) = true from c)
      cases n8 with
      | none => exact ⟨_, ⟨oc, od, .none, n9, n10, n11, n12, n13, n14, osl, rfl, q, k1⟩, rfl⟩
      | _ => cases k2
    | _ => cases c
theorem SDef.recC {K : PySem.W.Frag} {d : SDef} (h : d.okRC K = true) : ∃ rest, PySem.W.recIn K (d.box K) "classmethod" = some (.ref (d.adC K) :: rest) := by
  unfold SDef.okRC at h
  unfold SDef.adC
  split at h
  · rename_i g rest e
    rw [e]
    exact ⟨rest, rfl⟩
  · cases h
theorem SDef.atC {K : PySem.W.Frag} {d : SDef} (h : d.okMC K = true) : PySem.W.findCls K (.ref (He.ga K d.cls)) (.type "type") d.name = some (.get (.builtin "classmethod.__get__") (.ref (d.box K)) .none (.ref (He.ga K d.cls))) := by
  unfold SDef.okMC at h
  split at h
  · rename_i g p C e
    obtain ⟨h1, h⟩ := He.ba h
    obtain ⟨h2, h3⟩ := He.ba h
    rw [e, of_decide_eq_true h1, of_decide_eq_true h2, of_decide_eq_true h3]
  · cases h
theorem SDef.allC {K : PySem.W.Frag} {d : SDef} (e : d.seeC K = d.val) (h : d.okC K = true) : (∃ fd, C8.Fun K d.name d.qual d.st (d.adC K) fd ∧ fd.defaults = .none) ∧ ClX.CRead K (He.ga K d.cls) (.type "type") ∧ ClX.CMet K (He.ga K d.cls) (.type "type") d.name (d.box K) (d.adC K) := by
  obtain ⟨h1, h⟩ := He.ba h
  obtain ⟨h2, h⟩ := He.ba h
  obtain ⟨h3, h⟩ := He.ba h
  obtain ⟨h4, h⟩ := He.ba h
  obtain ⟨h5, h6⟩ := He.ba h
  exact ⟨SDef.funC e h1, ⟨h5, He.eqO_ok h6⟩, ⟨SDef.atC h2, SDef.recC h3, h4⟩⟩
/-! ### classes of errors -/
def oexB (K : PySem.W.Frag) (x : Str) : Bool := PySem.W.excInitIn K (He.ga K x) bmL "LookupError.__new__" && (PySem.W.excOver K (He.ga K x) bmL && (PySem.W.hasDictIn K (He.ga K x) && (He.eqO (PySem.W.findIn K (.ref (He.ga K x)) "__setattr__") (some (some (.builtin "object.__setattr__"))) &&
  (decide (PySem.W.subIn K (.ref (He.ga K x)) (.type "BaseException") = some true) && (decide (PySem.W.typeIn K (.ref (He.ga K x)) = some (.type "type")) && PySem.W.keepIn K (.ref (He.ga K x)))))))
theorem oexB_ok {K : PySem.W.Frag} {x : Str} (h : oexB K x = true) : OexL K (He.ga K x) := by
  obtain ⟨h1, h⟩ := He.ba h
  obtain ⟨h2, h⟩ := He.ba h
  obtain ⟨h3, h⟩ := He.ba h
  obtain ⟨h4, h⟩ := He.ba h
  obtain ⟨h5, h⟩ := He.ba h
  obtain ⟨h6, h7⟩ := He.ba h
  exact ⟨h1, h2, h3, He.eqO_ok h4, of_decide_eq_true h5, of_decide_eq_true h6, h7⟩
/-- the class's own __init__ is a plain def -/
def oinB (K : PySem.W.Frag) (x : Str) : Bool := He.eqO (PySem.W.findIn K (.ref (He.ga K x)) "__init__") (some (some (.ref (He.ma K (He.ga K x) "__init__")))) && decide (PySem.W.typeIn K (.ref (He.ma K (He.ga K x) "__init__")) = some (.type "function"))
theorem oinB_ok {K : PySem.W.Frag} {x : Str} (h : oinB K x = true) : PySem.W.findIn K (.ref (He.ga K x)) "__init__" = some (some (.ref (He.ma K (He.ga K x) "__init__"))) ∧ PySem.W.typeIn K (.ref (He.ma K (He.ga K x) "__init__")) = some (.type "function") := by
  obtain ⟨h1, h2⟩ := He.ba h
  exact ⟨He.eqO_ok h1, of_decide_eq_true h2⟩
def exkB (K : PySem.W.Frag) (x : Str) : Bool := He.eqO (PySem.W.findIn K (.ref (He.ga K x)) "__getattribute__") (some (some (.builtin "BaseException.__getattribute__"))) && (He.eqO (PySem.W.findIn K (.ref (He.ga K x)) "__getattr__") (some none) && (decide (PySem.W.subIn K (.ref (He.ga K x)) (.type "BaseException") = some true) &&
  ((PySem.W.clsIn K (He.ga K x)).isSome && (He.eqO (PySem.W.findIn K (.ref (He.ga K x)) "__class__") (some (some (.builtin "object.__class__"))) && (He.eqO (PySem.W.specialIn K (.builtin "object.__class__") "__get__") (some (some (.builtin "getset_descriptor.__get__"))) &&
  (decide (PySem.W.takesIn K (.builtin "object.__class__") = some true) && decide (PySem.W.mroIn K (He.ga K x) (.type "object") = some true)))))))
theorem exkB_ok {K : PySem.W.Frag} {x : Str} (h : exkB K x = true) : ExcK K (He.ga K x) := by
  obtain ⟨h1, h⟩ := He.ba h
  obtain ⟨h2, h⟩ := He.ba h
  obtain ⟨h3, h⟩ := He.ba h
  obtain ⟨h4, h⟩ := He.ba h
  obtain ⟨h5, h⟩ := He.ba h
  obtain ⟨h6, h⟩ := He.ba h
  obtain ⟨h7, h8⟩ := He.ba h
  exact ⟨He.eqO_ok h1, He.eqO_ok h2, of_decide_eq_true h3, h4, He.eqO_ok h5, He.eqO_ok h6, of_decide_eq_true h7, of_decide_eq_true h8⟩
/-! ### the Hook with static methods -/
abbrev AlS : Type := ((He.AlT × Bool) × List He.FnW) × List He.FnW
/-- a table stands empty, and is left out -/
theorem tabs_told {as : List Addr} {fa : List He.Fa} {fn : List He.DefD} {ts : List He.Tab} {tf : List He.Defn} {ex : PySem.W.Frag → Bool} {w : World} {h : Heap} {K : PySem.W.Frag} (eK : K = He.frT h.get? as)
    (a : He.obsT fa fn ts K = He.valT fn ts w) (b : ex K = true) (c : He.tabsB h.get? tf K = true) : He.SaysX fa fn ts tf ex w h K := by
  have each : ∀ p ∈ tf, PySem.W.codeHdIn K (He.cT K p).1 (He.cT K p).2 = true ∧ ∃ o, h.get? (He.cT K p).2 = some o ∧ He.emptyTab o = true := by
    intro p hp
    have z := List.all_eq_true.mp c p hp
    rw [Bool.and_eq_true] at z
    refine ⟨z.1, ?_⟩
    have z2 := z.2
    split at z2
    · rename_i o e
      exact ⟨o, e, z2⟩
    · cases z2
  refine ⟨a, b, fun p hp => (each p hp).1, fun p hp => ?_, fun p hp => ?_⟩
  · obtain ⟨_, o, e, t⟩ := each p hp
    rw [eK] at e ⊢
    exact He.frT_none e t
  · obtain ⟨_, o, e, t⟩ := each p hp
    rw [e]
    exact congrArg some (He.emptyTab_eq t)
structure Tell where
  n : Nat
  fa : List He.Fa
  fn : List He.DefD
  ts : List He.Tab
  tf : List He.Defn
  ex : PySem.W.Frag → Bool
  sd : List SDef
  cd : List SDef
/-- what is looked at: what the names reach, the model's own table of statics -/
def Tell.frag (t : Tell) (g : Addr → Option Obj) : PySem.W.Frag := He.frT g (cStatics :: He.asD g t.n)
def Tell.seeK (t : Tell) (g : Addr → Option Obj) (K : PySem.W.Frag) : AlS := (((He.obsT t.fa t.fn t.ts K, t.ex K && He.tabsB g t.tf K), t.sd.map fun d => d.see K), t.cd.map fun d => d.seeC K)
def Tell.see (t : Tell) (g : Addr → Option Obj) : AlS := t.seeK g (t.frag g)
def Tell.due (t : Tell) (w : World) : AlS := (((He.valT t.fn t.ts w, true), t.sd.map SDef.val), t.cd.map SDef.val)
structure Tell.Ok (t : Tell) (w : World) (h : Heap) (K : PySem.W.Frag) : Prop where
  x : He.SaysX t.fa t.fn t.ts t.tf t.ex w h K
  s : (t.sd.map fun d => d.see K) = t.sd.map SDef.val
  c : (t.cd.map fun d => d.seeC K) = t.cd.map SDef.val
theorem Tell.told {t : Tell} {w : World} {h : Heap} (e : t.see h.get? = t.due w) : t.Ok w h (t.frag h.get?) := by
  obtain ⟨e0, e7⟩ := Prod.mk.inj (show t.seeK h.get? (t.frag h.get?) = t.due w from e)
  obtain ⟨e1, e2⟩ := Prod.mk.inj e0
  obtain ⟨e3, e4⟩ := Prod.mk.inj e1
  obtain ⟨e5, e6⟩ := He.ba e4
  exact ⟨tabs_told rfl e3 e5 e6, e2, e7⟩
def Tell.hook (t : Tell) : PySem.W.Hook where
  α := AlS
  obs := fun s => t.see s.heap.get?
  val := fun w => t.due w
  says := fun w h => ∃ K : PySem.W.Frag, K.In h ∧ t.Ok w h K
  of := fun _ _ e => ⟨_, He.frT_in, Tell.told e⟩
  keeps := fun _ _ _ ⟨K, i, c⟩ k => ⟨K, PySem.W.Frag.In.keeps i k, ⟨c.x.t, c.x.more, c.x.hd, c.x.out, fun p m => k _ _ (c.x.empty p m)⟩, c.s, c.c⟩
theorem Tell.see_eq {t : Tell} {g : Addr → Option Obj} {s : Shared} (h : ∀ a, g a = s.heap.get? a) : t.see g = t.hook.obs s := by
  have e : g =
          s.heap.get? := funext h
  rw [e]
  rfl
theorem Tell.Ok.clsm {t : Tell} {w : World} {h : Heap} {K : PySem.W.Frag} (c : t.Ok w h K) (i : Nat) {d : SDef} (hi : t.cd[i]? = some d) : d.seeC K = d.val := by
  have e : (t.cd.map fun d => d.seeC K)[i]? = (t.cd.map SDef.val)[i]? := by rw [c.c]
  rw [List.getElem?_map, List.getElem?_map, hi] at e
  exact Option.some.inj e
theorem Tell.Ok.static {t : Tell} {w : World} {h : Heap} {K : PySem.W.Frag} (c : t.Ok w h K) (i : Nat) {d : SDef} (hi : t.sd[i]? = some d) : d.see K = d.val := by
  have e : (t.sd.map fun d => d.see K)[i]? = (t.sd.map SDef.val)[i]? := by rw [c.s]
  rw [List.getElem?_map, List.getElem?_map, hi] at e
  exact Option.some.inj e
end LP
namespace LP
open PySem L2
/-- a written dict's keys are texts of these -/
def keysB (K : PySem.W.Frag) (a : Addr) (ks : List Str) : Bool := match K.lookup a with
  | some ⟨_, _, .dict es _, _⟩ => es.toList.all fun e => match e.key with
    | .str s _ => decide (s ∈ ks)
    | _ => false
  | _ => false
theorem keysB_no {K : PySem.W.Frag} {a : Addr} {ks : List Str} {n : Str} (h : keysB K a ks = true) (hn : n ∉ ks) : PySem.W.nsIn K a n = some none := by
  unfold keysB at h
  unfold PySem.W.nsIn
  split at h
  · rename_i es _ _ ho
    rw [ho]
    have h2 := List.all_eq_true.mp h
    have f : es.toList.find? (fun e => e.key.isStr n) = none := by
      rw [List.find?_eq_none]
      intro e he z
      have w := h2 e he
      split at w
      · rename_i s t hk
        rw [hk] at z
        have z : (s == n) = true := z
        have w := of_decide_eq_true w
        rw [eq_of_beq z] at w
        exact hn w
      · cases w
    have g : es.toList.any (fun e => e.refKey) = false := by
      rw [List.any_eq_false]
      intro e he z
      have w := h2 e he
      unfold DictEntry.refKey at z
      split at w
      · rename_i s t hk
        rw [hk] at z
        cases z
      · cases w
    show (match es.toList.find? (fun e => e.key.isStr n) with | some e => some (some e.val) | none => if es.toList.any (fun e => e.refKey) then none else some none) = _
    rw [f, g]
    rfl
  · cases h
theorem lenG_of {K : PySem.W.Frag} {mg : Str → Option Value} {la : Addr} (hg : ∃ u, mg "LENGTHS" = some u ∧ RelV (.ref la) u) (hv : He.valsB K la [("flag", .int 2), ("number", .int 2), ("word", .int 3), ("link", .int 5)] = true) (hk : keysB K la ["flag", "number", "word", "link"] = true) : LenG K mg la := by
  refine ⟨hg, fun k => ?_⟩
  by_cases h1 : k = "flag"
  · subst h1
    exact .inl (He.valsB_ok hv (q := ("flag", .int 2)) (by simp))
  by_cases h2 : k = "number"
  · subst h2
    exact .inl (He.valsB_ok hv (q := ("number", .int 2)) (by simp))
  by_cases h3 : k = "word"
  · subst h3
    exact .inl (He.valsB_ok hv (q := ("word", .int 3)) (by simp))
  by_cases h4 : k = "link"
  · subst h4
    exact .inl (He.valsB_ok hv (q := ("link", .int 5)) (by simp))
  · refine .inr ⟨keysB_no hk (by simp [h1, h2, h3, h4]), ?_⟩
    unfold lenD
    rw [if_neg (by simp [h1, h2]), if_neg h3, if_neg h4]
end LP
namespace LP
open PySem.Spec PyProof.Rows PySem L2
def k02_fa_0 : List He.Fa := [.glo "is_letters", .glo "is_word", .glo "is_link", .glo "has_list", .glo "may_lack", .glo "write_lines", .glo "_write_column", .glo "_meets", .glo "_law_start", .glo "_law_take", .glo "_law_of", .glo "_law_reserved", .glo "_law_draw_letters", .glo "_law_new_name", .glo "_law_all_links", .glo "_law_reach", .glo "_law_is_listed", .glo "_law_is_heavy", .glo "_law_names_taken", .glo "_law_allowed", .glo "_law_draw_columns", .glo "_law_draw_tables", .glo "_law_is_name", .glo "_law_odd_name", .glo "_law_find_column", .glo "_law_fits", .glo "_law_broken", .glo "_law_what_is_due", .glo "_law_what_comes", .glo "_law_spoilt"]
def k02_fa_1 : List He.Fa := [.glo "law", .free "len", .free "int", .free "abs", .free "max", .free "min", .free "any", .free "all", .free "str", .free "bool", .free "list", .free "tuple", .free "dict", .free "isinstance", .free "range", .free "reversed", .free "enumerate", .free "zip", .int "MOST_LETTERS" 8, .int "MOST_TABLES" 6, .int "MOST_COLUMNS" 6, .glo "RESERVED", .glo "Schema", .cls "Schema", .noat "Schema" "_columns", .noat "Schema" "_lists", .noat "Schema" "user", .noat "Schema" "tables", .noat "Schema" "_lines", .glo "LENGTHS"]
def k02_fa_2 : List He.Fa := [.noat "BadSchema" "table", .noat "BadSchema" "column", .glo "BadSchema", .glo "BadLine", .glo "BadStore", .glo "ListandpageError", .exm "BadSchema" "BadSchema" true, .mkr "Schema", .meth "Schema" "__contains__", .meth "Schema" "_is_list", .meth "Schema" "_is_column", .meth "Schema" "_take_columns"]
def k02_fa : List He.Fa := k02_fa_0 ++ (k02_fa_1 ++ k02_fa_2)
def k02_fn_0 : List He.DefD := [dn "is_letters" s_is_letters, dn "is_word" s_is_word, dn "is_link" s_is_link, dn "has_list" s_has_list, dn "may_lack" s_may_lack, dn "write_lines" s_write_lines, dn "_write_column" s__write_column, dn "_meets" s__meets, dn "_law_start" s__law_start, dn "_law_take" s__law_take, dn "_law_of" s__law_of, dn "_law_reserved" s__law_reserved, dn "_law_draw_letters" s__law_draw_letters, dn "_law_new_name" s__law_new_name, dn "_law_all_links" s__law_all_links, dn "_law_reach" s__law_reach, dn "_law_is_listed" s__law_is_listed, dn "_law_is_heavy" s__law_is_heavy, dn "_law_names_taken" s__law_names_taken, dn "_law_allowed" s__law_allowed, dn "_law_draw_columns" s__law_draw_columns, dn "_law_draw_tables" s__law_draw_tables, dn "_law_is_name" s__law_is_name, dn "_law_odd_name" s__law_odd_name, dn "_law_find_column" s__law_find_column, dn "_law_fits" s__law_fits, dn "_law_broken" s__law_broken, dn "_law_what_is_due" s__law_what_is_due, dn "_law_what_comes" s__law_what_comes, dn "_law_spoilt" s__law_spoilt]
def k02_fn_1 : List He.DefD := [dn "law" s_law, dm "Schema" "__init__" "Schema.__init__" s_Schema___init__, dm "Schema" "_take_columns" "Schema._take_columns" s_Schema__take_columns, dm "Schema" "_is_column" "Schema._is_column" s_Schema__is_column, dm "Schema" "_is_list" "Schema._is_list" s_Schema__is_list, dm "Schema" "__contains__" "Schema.__contains__" s_Schema___contains__, dm "BadSchema" "__init__" "BadSchema.__init__" s_BadSchema___init__]
def k02_fn : List He.DefD := k02_fn_0 ++ k02_fn_1
def k02_ex : List (PySem.W.Frag → Bool) := [fun K => He.tupB K "RESERVED" (reservedL.map He.Dv.str), fun K => SDef.ok K (⟨"Schema", "is_name", "Schema.is_name", s_Schema_is_name⟩ : SDef), fun K => He.valsB K (He.ga K "LENGTHS") [("flag", .int 2), ("number", .int 2), ("word", .int 3), ("link", .int 5)], fun K => keysB K (He.ga K "LENGTHS") ["flag", "number", "word", "link"], fun K => oxvB K "BadSchema", fun K => oinB K "BadSchema", fun K => exkB K "BadSchema", fun K => L2.xfB K (He.ga K "BadSchema"), fun K => decide (PySem.W.kitAny K (.ref (He.ga K "BadSchema")) [.ref (He.ga K "BadLine"), .ref (He.ga K "BadStore")] = some false), fun K => decide (PySem.W.kitOne K (.ref (He.ga K "BadSchema")) (.ref (He.ga K "ListandpageError")) = some true)]
def k02_tell : Tell := ⟨6, k02_fa, k02_fn, [(fun K => He.ga K "LENGTHS", ["flag", "number", "word", "link"])], [], fun K => k02_ex.all fun e => e K, [⟨"Schema", "is_name", "Schema.is_name", s_Schema_is_name⟩], []⟩
def k02_names_0 : List Str := ["_wall", "MOST_LETTERS", "is_letters", "is_word", "is_link", "has_list", "may_lack", "ListandpageError", "BadSchema", "BadLine", "BadStore", "NoName", "write_lines", "_write_column", "read_lines", "_is_head", "_read_column", "_read_link", "MOST_TABLES", "MOST_COLUMNS", "RESERVED", "LENGTHS", "Schema", "_meets", "_law_start", "_law_take", "_law_of", "_law_reserved", "_law_draw_letters", "_law_new_name"]
def k02_names_1 : List Str := ["_law_all_links", "_law_reach", "_law_is_listed", "_law_is_heavy", "_law_names_taken", "_law_allowed", "_law_draw_columns", "_law_draw_tables", "_law_is_name", "_law_odd_name", "_law_find_column", "_law_fits", "_law_broken", "_law_what_is_due", "_law_what_comes", "_law_spoilt"]
def k02_names : List Str := k02_names_0 ++ k02_names_1
abbrev k02_R : PySem.W.OpenRow := PySem.W.OpenLaw.row PySem.Challenge.rw_listandpage_k02_schemas_refused
def k02_ob (s : PySem.W.SharedT) : AlS := k02_tell.see (HandSHeadRun.getT s)
theorem k02_ob_eq (s : PySem.W.SharedT) : k02_ob s = k02_tell.hook.obs s.abs := Tell.see_eq (HandSHeadRun.getT_eq s)
end LP
namespace LP
open PySem.Spec PyProof.Rows PySem L2
abbrev k02_Run (w : World) : Prop := HandSHeadRun.RunEq k02_R (PySem.W.view k02_R.prog [52]) k02_tell.hook k02_ob 4000 k02_names w
theorem k02_run_false (w : World) : k02_Run (w.withFollow "special-get-raises" false) := by
  intro os
  kernel_rfl
theorem k02_run_true (w : World) : k02_Run (w.withFollow "special-get-raises" true) := by
  intro os
  kernel_rfl
theorem k02_run (w : World) : k02_Run w := PySem.W.byRow2 "special-get-raises" k02_run_false k02_run_true w
end LP
namespace LP
open PySem L2
open Evl (Ex)
/-- the word that stands in for one that is taken -/
def alt (w : Str) (c e : Nat) : Str := S (w.cps.toList.take 6 ++ [c] ++ [e])
theorem alt_inj {w : Str} {c e c' e' : Nat} (h : alt w c e = alt w c' e') : c = c' ∧ e = e' := by
  have := S_inj h
  simpa using this
theorem alt_word {w : Str} {c e : Nat} (hw : Low w) (hc : 97 ≤ c ∧ c ≤ 122) (he : 97 ≤ e ∧ e ≤ 122) : IsWord (alt w c e) := by
  refine ⟨?_, ?_, fun x hx => ?_⟩
  · unfold alt
    rw [S_len]
    simp
  · unfold alt
    rw [S_len]
    simp
    omega
  · have hx : x ∈ w.cps.toList.take 6 ++ [c] ++ [e] := hx
    simp only [List.mem_append, List.mem_singleton] at hx
    rcases hx with (hx | rfl) | rfl
    · exact hw x (List.mem_of_mem_take hx)
    · exact hc
    · exact he
theorem pairs_nodup {l m : List Nat} (hl : l.Nodup) (hm : m.Nodup) : (l.flatMap fun c => m.map fun e => (c, e)).Nodup := by
  induction l with
  | nil => exact List.nodup_nil
  | cons c r ih =>
    have h := List.nodup_cons.mp hl
    rw [List.flatMap_cons]
    refine List.nodup_append.mpr ⟨?_, ih h.2, ?_⟩
    · exact List.pairwise_map.mpr (List.Pairwise.imp (R := (· ≠ ·)) (fun {x y} hne exy => hne (Prod.mk.inj exy).2) hm)
    · intro x hx y hy e
      obtain ⟨e1, _, rfl⟩ := List.mem_map.mp hx
      obtain ⟨c', hc', hy⟩ := List.mem_flatMap.mp hy
      obtain ⟨e2, _, rfl⟩ := List.mem_map.mp hy
      have := (Prod.mk.inj e).1
      exact h.1 (this ▸ hc')
theorem pairs_len (l m : List Nat) : (l.flatMap fun c => m.map fun e => (c, e)).length = l.length * m.length := by
  induction l with
  | nil => simp
  | cons c r ih =>
    rw [List.flatMap_cons, List.length_append, ih, List.length_map, List.length_cons, Nat.succ_mul]
    omega
theorem alt_all {w : Str} {m : List (Option Str)} (h : ∀ c ∈ lettersS.cps.toList, ∀ e ∈ lettersS.cps.toList, some (alt w c e) ∈ m) : 676 ≤ m.length := by
  have ln : lettersS.cps.toList.Nodup := by rw [letters_tl]; decide
  have nd : ((lettersS.cps.toList.flatMap fun c => lettersS.cps.toList.map fun e => (c, e)).map fun p => some (alt w p.1 p.2)).Nodup := by
    refine List.pairwise_map.mpr (List.Pairwise.imp (R := (· ≠ ·)) (fun {x y} hne exy => ?_) (pairs_nodup ln ln))
    obtain ⟨h1, h2⟩ := alt_inj (Option.some.inj exy)
    exact hne (Prod.ext h1 h2)
  have := pigeon (m := m) nd fun x hx => by
    obtain ⟨p, hp, rfl⟩ := List.mem_map.mp hx
    obtain ⟨c, hc, hp⟩ := List.mem_flatMap.mp hp
    obtain ⟨e, he, rfl⟩ := List.mem_map.mp hp
    exact h c hc e he
  rw [List.length_map, pairs_len, letters_tl] at this
  simpa using this
theorem letters_in {c : Nat} (h : c ∈ lettersS.cps.toList) : 97 ≤ c ∧ c ≤ 122 := by
  rw [letters_tl] at h
  obtain ⟨j, hj, rfl⟩ := List.mem_map.mp h
  have := List.mem_range.mp hj
  omega
section
variable {base : Heap} {mg : Str → Option Value} {K : PySem.W.Frag} {w : World} {P : Program}
theorem ok_new_name {f : Addr} {fd : FuncData} (D : C8.Def K mg "_law_new_name" s__law_new_name f fd) (b : Binds K fd ["bag", "taken"] [])
    (c__law_draw_letters : C8.Cal P w K mg base 2 "_law_draw_letters" spLetters []) (c__law_reserved : C8.Cal P w K mg base 1 "_law_reserved" spReserved []) :
    C8.Cal P w K mg base 3 "_law_new_name" (spNewName K) [] := by
  have sc : FnScope ["bag", "taken", "word", "first", "last", "other"] ["bag", "taken"] (C8.fnScope s__law_new_name) := C8.fnScope_by (by decide +kernel)
  refine C8.cal0 D b .nil sc (fun vs H Q E h => ?_) (fun cdv A outer s H vs Q E hr h => ?_)
  · obtain ⟨_, _, _, _, rfl, _⟩ := h
    rfl
  · obtain ⟨b, t, xs, n, rfl, hB, hn, hx, hl, k⟩ := h
    refine ⟨_, (pss_cons (ps_set (i := 2) sc.nd rfl (Or.inl rfl) (C8.pe_c c__law_draw_letters hr (by decide) rfl (pa_cons (pv 0) (pa_cons pe_int pa_nil))))
        (C8.pss_cut (ps_if (PW.pt (pw_and (pt_cmpR (op_notIn_seqK (K := K) rfl) (pv 2) (pv 1) (by rfl)) (pw_and1 (pt_cmpR (op_notIn_seqK (K := K) rfl) (pv 2) (pe_c0 c__law_reserved hr (by decide) rfl) (by rfl)))))
        (pss_one (ps_ret (pv 2)))
        pss_nil)
        (pss_cons (ps_for PassesOwn.never rfl (pi_str pe_str) (pg_name (i := 3) sc.nd rfl (Or.inl rfl))
        (pss_one (ps_for PassesOwn.never rfl (pi_str pe_str) (pg_name (i := 4) sc.nd rfl (Or.inl rfl))
        (pss_cons (ps_set (i := 5) sc.nd rfl (Or.inl rfl) (pe_op op_add_str' (pe_op op_add_str' (pe_slice sl_str (pv 2) po_none (po_some pe_int)) (pv 3)) (pv 4)))
        (pss_one (ps_if (PW.pt (pw_and (pt_cmpR (op_notIn_seqK (K := K) rfl) (pv 5) (pv 1) (by rfl)) (pw_and1 (pt_cmpR (op_notIn_seqK (K := K) rfl) (pv 5) (pe_c0 c__law_reserved hr (by decide) rfl) (by rfl)))))
        (pss_one (ps_ret (pv 5)))
        pss_nil))))))
        (pss_one (ps_ret (pv 2)))))), ?_⟩
    try dsimp only [cxOf, Cx.wish, Cx.nox]
    walk_at "w"
    refine ⟨b, 8, n, rfl, hB, by omega, by decide, by decide, fun w H1 w1 w2 hw hB1 e1 => ?_⟩
    walk_at "w"
    refine ⟨fun σ' H' => σ' = [some (.ref b), some (.ref t), some (.str w), none, none, none] ∧ Ex H1 H', ?_, ?_⟩
    · walk_at "w"
      refine w_notInOpt (Evl.ex_l e1 hx) ?_
      walk_at "w"
      refine iteND (fun h1 => ?_) (fun h1 => ?_)
      · walk_at "w"
        refine ⟨rfl, fun p hp => ?_⟩
        refine w_notInStr (xs := reservedL) (SqL.of upd_same) ?_
        walk_at "w"
        refine iteND (fun h2 => ?_) (fun h2 => ?_)
        · walk_at "w"
          exact k _ _ ⟨⟨w1, by omega, hw⟩, h2⟩ h1 (hB1.new hp |>.mono (by omega)) (ex_dtrans e1 (ex_new_d hp))
        · walk_at "w"
          exact Ex.new hp
      · walk_at "w"
        exact Ex.refl _
    · rintro _ H2 ⟨rfl, e2⟩
      walk_at "w"
      refine loopS (fun d r σ' H' => (∃ x y z, σ' = [some (.ref b), some (.ref t), some (.str w), x, y, z]) ∧ Ex H1 H' ∧ ∀ c ∈ d, ∀ e ∈ lettersS.cps.toList, some (alt w c e) ∈ xs ++ reservedL.map some)
        ⟨⟨_, _, _, rfl⟩, e2, fun c hc => absurd hc List.not_mem_nil⟩ ?_ ?_
      · rintro d c r _ H3 hd ⟨⟨x, y, z, rfl⟩, e3, h3⟩
        have hc : 97 ≤ c ∧ c ≤ 122 := letters_in (by rw [show lettersS.cps.toList = d ++ c :: r from hd.symm]; simp)
        walk_at "w"
        refine loopS (fun d2 r2 σ' H' => (∃ y z, σ' = [some (.ref b), some (.ref t), some (.str w), some (.str (S [c])), y, z]) ∧ Ex H1 H' ∧ ∀ e ∈ d2, some (alt w c e) ∈ xs ++ reservedL.map some)
          ⟨⟨_, _, rfl⟩, e3, fun c hc => absurd hc List.not_mem_nil⟩ ?_ ?_
        · rintro d2 e r2 _ H4 hd2 ⟨⟨y, z, rfl⟩, e4, h4⟩
          have he : 97 ≤ e ∧ e ≤ 122 := letters_in (by rw [show lettersS.cps.toList = d2 ++ e :: r2 from hd2.symm]; simp)
          walk_at "w"
          have cut : cutS w none (some 6) = S (w.cps.toList.take 6) := cut_to (by decide)
          have ls : (w.cps.toList.take 6).length ≤ 6 := by rw [List.length_take]; omega
          have sz : ∀ m : Nat, m ≤ 100 → m ≤ sizeLine := fun m h => Nat.le_trans h (by decide)
          rw [cut]
          refine w_addS (sz _ (by rw [S_len, S_len]; simp only [List.length_cons, List.length_nil]; omega)) ?_
          rw [S_cat]
          walk_at "w"
          refine w_addS (sz _ (by rw [S_len, S_len, List.length_append]; simp only [List.length_cons, List.length_nil]; omega)) ?_
          rw [S_cat]
          rw [show S (w.cps.toList.take 6 ++ [c] ++ [e]) = alt w c e from rfl]
          have ext : Ex (del b H) H4 := (ex_dtrans e1 (ex_del.trans e4))
          walk_at "w"
          refine w_notInOpt (Evl.ex_l ext hx) ?_
          walk_at "w"
          refine iteND (fun h5 => ?_) (fun h5 => ?_)
          · walk_at "w"
            refine ⟨rfl, fun p hp => ?_⟩
            refine w_notInStr (xs := reservedL) (SqL.of upd_same) ?_
            walk_at "w"
            refine iteND (fun h6 => ?_) (fun h6 => ?_)
            · walk_at "w"
              exact k _ _ ⟨alt_word hw hc he, h6⟩ h5 (((hB1.ext e4).new hp).mono (by omega)) (ext.trans (Ex.new hp))
            · walk_at "w"
              refine ⟨⟨_, _, rfl⟩, e4.trans (Ex.new hp), fun e' he' => ?_⟩
              rcases List.mem_append.mp he' with he' | he'
              · exact h4 e' he'
              · rw [List.mem_singleton.mp he']
                exact List.mem_append.mpr (.inr (List.mem_map.mpr ⟨_, h6, rfl⟩))
          · walk_at "w"
            refine ⟨⟨_, _, rfl⟩, e4, fun e' he' => ?_⟩
            rcases List.mem_append.mp he' with he' | he'
            · exact h4 e' he'
            · rw [List.mem_singleton.mp he']
              exact List.mem_append.mpr (.inl h5)
        · rintro _ H4 ⟨⟨y, z, rfl⟩, e4, h4⟩
          exact ⟨⟨_, _, _, rfl⟩, e4, fun c' hc' e he => by
            rcases List.mem_append.mp hc' with hc' | hc'
            · exact h3 c' hc' e he
            · rw [List.mem_singleton.mp hc']
              exact h4 e he⟩
      · rintro _ H3 ⟨⟨x, y, z, rfl⟩, e3, h3⟩
        have := alt_all h3
        rw [List.length_append, List.length_map, show reservedL.length = 20 by decide] at this
        omega
end
end LP
namespace LP
open PySem L2
open Evl (Ex)
section
variable {base : Heap} {mg : Str → Option Value} {K : PySem.W.Frag} {w : World} {P : Program}
theorem ok_is_name2 {f : Addr} {fd : FuncData} (D : C8.Def K mg "_law_is_name" s__law_is_name f fd) (b : Binds K fd ["value"] []) (B : Blt mg)
    (c__law_reserved : C8.Cal P w K mg base 1 "_law_reserved" spReserved []) : C8.Cal P w K mg base 2 "_law_is_name" (spDue K) [] := by
  have sc : FnScope ["value", "letter"] ["value"] (C8.fnScope s__law_is_name) := C8.fnScope_by (by decide +kernel)
  refine C8.cal0 D b .nil sc (fun vs H Q E h => ?_) (fun cdv A outer s H vs Q E hr h => ?_)
  · obtain ⟨_, _, rfl, _⟩ := h
    rfl
  · obtain ⟨v, d, rfl, hd, hl, k⟩ := h
    refine ⟨_, (pss_cons (ps_if (PW.pt (pw_or (pt_not (pt_val (pe_callB (call_isiK1 (K := K) rfl) (by rfl) B.isinstance_ (by decide +kernel) (pa_cons (pv 0) (pa_cons (pe_bltn (v := .ty "str") (u := .type "str") (by rfl) B.str_ (by decide +kernel) rfl) pa_nil))))) (pw_or (pt_not (pt_chain op_lt op_lt pe_int (pe_callB call_len_str' (by rfl) B.len_ (by decide +kernel) (pa_cons (pv 0) pa_nil)) pe_int)) (pw_or1 (pt_cmpR (op_in_seqK (K := K) rfl) (pv 0) (pe_c0 c__law_reserved hr (by decide) rfl) (by rfl))))))
        (pss_one (ps_ret pe_bl))
        pss_nil)
        (pss_one (ps_ret (pe_callB (cr_allK (K := K) rfl rfl) (by rfl) B.all_ (by decide +kernel) (pa_cons (pe_lc (own := [("letter", 1)]) (g := (gName 1)) (by rfl) sc.nd (pi_str (pv 0)) (blkOk_by (own := [("letter", 1)]) (N := ["value", "letter"]) (sc := C8.fnScope s__law_is_name) (by decide +kernel)) (fun _ _ _ _ _ => (pg_name (i := 1) sc.nd rfl (Or.inl rfl))) (fun _ _ _ _ _ => pts_nil) (fun _ _ _ _ _ => (pe_cmpR op_in_sign' (pv 1) pe_str rfl))) pa_nil))))), ?_⟩
    walk_at "w"
    refine w_isStr hd ?_
    cases hd with
    | str x =>
      have k : ∀ H', Ex H H' → Q (.bl (nameB x)) H' := k
      have hl : x.length ≤ 4000 := hl x rfl
      unfold isStrD
      walk_at "w"
      have no : ¬ (1 ≤ x.length ∧ x.length ≤ 8) → nameB x = false := fun h => by
        by_cases e : nameB x = true
        · exact absurd ⟨((nameB_iff x).mp e).1.1, ((nameB_iff x).mp e).1.2.1⟩ h
        · exact Bool.not_eq_true _ ▸ e
      refine iteD (fun h1 => ?_) (fun h1 => ?_)
      · walk_at "w"
        refine iteND (fun h2 => ?_) (fun h2 => ?_)
        · walk_at "w"
          rw [no (by omega)] at k
          exact k _ (Ex.refl _)
        · walk_at "w"
          refine ⟨rfl, fun p hp => ?_⟩
          refine w_inStr (SqL.of upd_same) ?_
          walk_at "w"
          refine iteD (fun h3 => ?_) (fun h3 => ?_)
          · walk_at "w"
            have : nameB x = false := by
              by_cases e : nameB x = true
              · exact absurd h3 ((nameB_iff x).mp e).2
              · exact Bool.not_eq_true _ ▸ e
            rw [this] at k
            exact k _ (Ex.new hp)
          · walk_at "w"
            intro D hD
            refine compS (fun c => V.bl (decide (97 ≤ c ∧ c ≤ 122))) hD (by omega) (fun c hc H3 e3 kk kn hk => ?_) (fun H3 e3 ha => ?_)
            · walk_at "w"
              have := hk _ (Ex.refl _)
              rw [show decide (c ∈ (Str.ofString "abcdefghijklmnopqrstuvwxyz").cps.toList) = decide (97 ≤ c ∧ c ≤ 122) by rw [decide_eq_decide]; exact mem_letters c]
              exact this
            · have e1 : x.cps.toList.map (fun c => V.bl (decide (97 ≤ c ∧ c ≤ 122))) = (x.cps.toList.map fun c => decide (97 ≤ c ∧ c ≤ 122)).map V.bl := by rw [List.map_map]; rfl
              refine w_all (SqL.of (e1 ▸ ha)) ?_
              have e2 : ((x.cps.toList.map fun c => decide (97 ≤ c ∧ c ≤ 122)).all id) = nameB x := by
                rw [Bool.eq_iff_iff, nameB_iff, List.all_eq_true]
                constructor
                · intro h
                  refine ⟨⟨by omega, by omega, fun c hc => ?_⟩, h3⟩
                  have := h _ (List.mem_map_of_mem hc)
                  simpa using this
                · intro h y hy
                  obtain ⟨c, hc, rfl⟩ := List.mem_map.mp hy
                  have := h.1.2.2 c hc
                  simpa using this
              rw [e2]
              exact k _ ((Ex.new hp).trans e3)
      · walk_at "w"
        rw [no (by omega)] at k
        exact k _ (Ex.refl _)
    | _ =>
      have k : ∀ H', Ex H H' → Q (.bl false) H' := k
      unfold isStrD
      walk_at "w"
      exact k _ (Ex.refl _)
end
end LP
namespace LP
open PySem L2
open Evl (Ex)
/-! ### the lists of a table -/
def lstEnt (t n : Str) (c : Col) : Option (Str × Str × Str) := match c.lst with
  | none => none
  | some l => if c.target = n then some (l, t, c.name) else none
def listsOf (ts : Tabs) (n : Str) : Lists := ts.flatMap fun t => t.2.filterMap (lstEnt t.1 n)
theorem look_map {f : Str → Lists → Lists} {n : Str} : ∀ m : List (Str × Lists), (m.map fun r => (r.1, f r.1 r.2)).lookup n = (m.lookup n).map (f n)
  | [] => rfl
  | r :: m => by
    rw [List.map_cons, List.lookup_cons, List.lookup_cons]
    by_cases e : n = r.1
    · subst e
      rw [show (r.1 == r.1) = true from beq_self_eq_true _]
      rfl
    · rw [show (n == r.1) = false from beq_eq_false_iff_ne.mpr e]
      exact look_map m
theorem addCol_look (t n : Str) (m : List (Str × Lists)) (c : Col) : (addCol t m c).lookup n = (m.lookup n).map fun ls => ls ++ (lstEnt t n c).toList := by
  unfold addCol lstEnt
  cases c.lst with
  | none =>
    show m.lookup n = (m.lookup n).map fun ls => ls ++ []
    cases m.lookup n <;> simp
  | some l =>
    have e : (m.map fun r => if r.1 = c.target then (r.1, r.2 ++ [(l, t, c.name)]) else r) = m.map fun r => (r.1, (fun x ls => if x = c.target then ls ++ [(l, t, c.name)] else ls) r.1 r.2) :=
      List.map_congr_left fun r _ => by
        by_cases h : r.1 = c.target
        · rw [if_pos h]; simp only [h, if_true]
        · rw [if_neg h]; simp only [h, if_false]
    show (m.map fun r => if r.1 = c.target then (r.1, r.2 ++ [(l, t, c.name)]) else r).lookup n = _
    rw [e]
    refine (look_map (f := fun x ls => if x = c.target then ls ++ [(l, t, c.name)] else ls) m).trans ?_
    congr 1
    funext ls
    show (if n = c.target then ls ++ [(l, t, c.name)] else ls) = ls ++ (if c.target = n then some (l, t, c.name) else none).toList
    by_cases h : n = c.target
    · rw [if_pos h, if_pos h.symm]; rfl
    · rw [if_neg h, if_neg (Ne.symm h)]; exact (List.append_nil _).symm
theorem addCols_look (t n : Str) : ∀ (cs : List Col) (m : List (Str × Lists)), (cs.foldl (addCol t) m).lookup n = (m.lookup n).map fun ls => ls ++ cs.filterMap (lstEnt t n)
  | [], m => by
    rw [List.foldl_nil]
    cases m.lookup n <;> simp
  | c :: r, m => by
    rw [List.foldl_cons, addCols_look t n r, addCol_look]
    cases m.lookup n with
    | none => rfl
    | some ls =>
      show some _ = some _
      rw [List.filterMap_cons]
      cases lstEnt t n c <;> simp
theorem look_none {m : List (Str × Lists)} {n : Str} (h : n ∉ m.map (·.1)) : m.lookup n = none := by
  induction m with
  | nil => rfl
  | cons r m ih =>
    rw [List.map_cons, List.mem_cons, not_or] at h
    rw [List.lookup_cons, show (n == r.1) = false from beq_eq_false_iff_ne.mpr h.1]
    exact ih h.2
theorem look_app {m k : List (Str × Lists)} {n : Str} : (m ++ k).lookup n = (m.lookup n).or (k.lookup n) := by
  induction m with
  | nil => rfl
  | cons r m ih =>
    rw [List.cons_append, List.lookup_cons, List.lookup_cons]
    cases (n == r.1) with
    | true => rfl
    | false => exact ih
theorem listsOf_app (ts : Tabs) (t : Str × List Col) (n : Str) : listsOf (ts ++ [t]) n = listsOf ts n ++ t.2.filterMap (lstEnt t.1 n) := by
  unfold listsOf
  rw [List.flatMap_append, List.flatMap_cons, List.flatMap_nil, List.append_nil]
theorem ent_none {t n : Str} {ns : List Str} {cs : List Col} (h : ∀ c ∈ cs, c.isLink = true → c.target ∈ ns) (hn : n ∉ ns) : cs.filterMap (lstEnt t n) = [] := by
  rw [List.filterMap_eq_nil_iff]
  intro c hc
  unfold lstEnt
  cases e : c.lst with
  | none => rfl
  | some l =>
    have := h c hc (lst_link e)
    exact if_neg fun z => hn (by rw [← z]; exact this)
theorem listsOf_new {ts : Tabs} {n : Str} (g : GoodTabs ts) (hn : n ∉ ts.map (·.1)) : listsOf ts n = [] := by
  induction g with
  | nil => rfl
  | @snoc ts m cs g hm hx hc ih =>
    rw [List.map_append, List.mem_append, not_or] at hn
    rw [listsOf_app, ih hn.1, ent_none hc.tg hn.1]
    rfl
theorem mirOf_look {ts : Tabs} {n : Str} (g : GoodTabs ts) (hn : n ∈ ts.map (·.1)) : (mirOf ts).lookup n = some (listsOf ts n) := by
  induction g with
  | nil => cases hn
  | @snoc ts m cs g hm hx hc ih =>
    rw [mirOf_snoc, look_app, addCols_look, listsOf_app]
    by_cases e : n ∈ ts.map (·.1)
    · rw [ih e]
      rfl
    · have en : n = m := by
        rw [List.map_append, List.mem_append] at hn
        exact List.mem_singleton.1 (hn.resolve_left e)
      subst en
      rw [look_none (by rw [mirOf_key g]; exact hx), listsOf_new g hx, ent_none hc.tg hx]
      show Option.or none (List.lookup n [(n, [])]) = some []
      rw [List.lookup_cons, show (n == n) = true from beq_self_eq_true _]
      rfl
/-! ### a table in another spelling -/
def key (cs : List Col) : List (Str × Option Str) := (cs.filter Col.isLink).map fun c => (c.target, c.lst)
theorem key_listed (cs : List Col) : isListed cs = (key cs).any fun k => k.2.isSome := by
  unfold isListed key
  induction cs with
  | nil => rfl
  | cons c r ih =>
    rw [List.any_cons, ih]
    cases c <;> simp [Col.isLink, Col.lst]
theorem key_meet (m : List (Str × Bool)) (cs : List Col) : meetOf m cs = (isListed cs || (key cs).any fun k => m.lookup k.1 == some true) := by
  unfold meetOf
  congr 1
  unfold key
  induction cs with
  | nil => rfl
  | cons c r ih =>
    rw [List.any_cons, ih]
    cases c <;> simp [Col.isLink, Col.target]
theorem key_links (cs : List Col) (tg : Str) : linkLists cs tg = ((key cs).filter fun k => decide (k.1 = tg)).map (·.2) := by
  unfold linkLists key
  induction cs with
  | nil => rfl
  | cons c r ih =>
    cases c with
    | plain f n => exact ih
    | word n o => exact ih
    | link n t o l =>
      by_cases h : t = tg
      · simp only [List.filter_cons, Col.isLink, Col.target, h, decide_true, Bool.and_self, if_true, List.map_cons, Col.lst] at ih ⊢
        rw [ih]
      · simp only [List.filter_cons, Col.isLink, Col.target, h, decide_false, Bool.and_false, Bool.false_eq_true, if_false, if_true, List.map_cons, Col.lst] at ih ⊢
        exact ih
theorem meet_same {cs cs' : List Col} (h : key cs' = key cs) (m : List (Str × Bool)) : meetOf m cs' = meetOf m cs := by rw [key_meet, key_meet, key_listed, key_listed, h]
theorem meetMap_app (ts tr : Tabs) : meetMap (ts ++ tr) = tr.foldl (fun m t => m ++ [(t.1, meetOf m t.2)]) (meetMap ts) := by
  unfold meetMap
  rw [List.foldl_append]
theorem meetMap_same {td tr : Tabs} {t t' : Str × List Col} (hn : t'.1 = t.1) (hk : key t'.2 = key t.2) : meetMap (td ++ t' :: tr) = meetMap (td ++ t :: tr) := by
  rw [meetMap_app, meetMap_app, List.foldl_cons, List.foldl_cons, meet_same hk, hn]
theorem names_same {td tr : Tabs} {t t' : Str × List Col} (hn : t'.1 = t.1) : (td ++ t' :: tr).map (·.1) = (td ++ t :: tr).map (·.1) := by
  rw [List.map_append, List.map_append, List.map_cons, List.map_cons, hn]
theorem good_other {td : Tabs} {t t' : Str × List Col} (hn : t'.1 = t.1) (hk : key t'.2 = key t.2) (hc : GoodCols td t'.2) :
    ∀ (n : Nat) (tr : Tabs), tr.length = n → GoodTabs (td ++ t :: tr) → (∀ z ∈ tr, ∀ c ∈ z.2, ∀ l, c.lst = some l → some l ∉ takenStep c.target t') → GoodTabs (td ++ t' :: tr) := by
  intro n
  induction n with
  | zero =>
    intro tr hl g _
    rw [List.length_eq_zero_iff] at hl
    subst hl
    obtain ⟨g1, g2, g3, _⟩ := g.split td t [] rfl
    have := GoodTabs.snoc g1 (n := t'.1) (cs := t'.2) (by rw [hn]; exact g2) (by rw [hn]; exact g3) hc
    exact this
  | succ n ih =>
    intro tr hl g ho
    rcases List.eq_nil_or_concat tr with rfl | ⟨pre, z, rfl⟩
    · cases hl
    · have e : ∀ x : Str × List Col, td ++ x :: (pre ++ [z]) = (td ++ x :: pre) ++ [z] := fun x => by simp
      rw [List.concat_eq_append, e] at g
      rw [List.concat_eq_append, e]
      rw [List.concat_eq_append] at ho hl
      obtain ⟨g1, g2, g3, g4⟩ := g.split (td ++ t :: pre) z [] rfl
      have g5 := ih pre (by rw [List.length_append] at hl; exact Nat.succ.inj hl) g1 fun y hy => ho y (List.mem_append_left _ hy)
      refine GoodTabs.snoc g5 g2 (by rw [names_same hn]; exact g3) ⟨⟨g4.nm, g4.nd, fun c h1 h2 => by rw [names_same hn]; exact g4.tg c h1 h2, g4.ls, g4.fr, fun c h1 l h2 y hy => ?_⟩, g4.few, fun c h1 h2 h3 h4 => ?_⟩
      · rcases List.mem_append.1 hy with hy | hy
        · exact g4.old c h1 l h2 y (List.mem_append_left _ hy)
        · rcases List.mem_cons.1 hy with rfl | hy
          · exact ho z (List.mem_append_right _ (List.mem_singleton.2 rfl)) c h1 l h2
          · exact g4.old c h1 l h2 y (List.mem_append_right _ (List.mem_cons_of_mem _ hy))
      · refine g4.r6 c h1 h2 ?_ h4
        unfold meets at h3 ⊢
        rw [meetMap_same hn hk] at h3
        exact h3
/-! ### one place changed -/
def Col.turn : Col → Col
  | .plain f n => .plain (!f) n
  | .word n o => .word n (!o)
  | .link n t o l => .link n t (!o) l
theorem turn_stays (c : Col) : c.turn.name = c.name ∧ c.turn.target = c.target ∧ c.turn.isLink = c.isLink ∧ c.turn.lst = c.lst := by cases c <;> exact ⟨rfl, rfl, rfl, rfl⟩
theorem listed_map {f : Col → Col} (hf : ∀ c, (f c).lst = c.lst) (cs : List Col) : listedOf (cs.map f) = (listedOf cs).map f := by
  unfold listedOf
  rw [List.filter_map]
  congr 1
  exact List.filter_congr fun c _ => by simp only [Function.comp, hf]
theorem key_map {f : Col → Col} (hf : ∀ c, (f c).target = c.target ∧ (f c).isLink = c.isLink ∧ (f c).lst = c.lst) (cs : List Col) : key (cs.map f) = key cs := by
  unfold key
  rw [List.filter_map, List.map_map]
  have e : (cs.filter (Col.isLink ∘ f)) = cs.filter Col.isLink := List.filter_congr fun c _ => by simp only [Function.comp, (hf c).2.1]
  rw [e]
  exact List.map_congr_left fun c _ => by simp only [Function.comp, (hf c).1, (hf c).2.2]
theorem good_map {f : Col → Col} {ts : Tabs} {cs : List Col} (hf : ∀ c, (f c).name = c.name ∧ (f c).target = c.target ∧ (f c).isLink = c.isLink ∧ (f c).lst = c.lst) (g : GoodCols ts cs) : GoodCols ts (cs.map f) := by
  have pre : PreCols ts (cs.filterMap fun c => some (f c)) := g.toPreCols.filterMap fun c c' e => by
    cases e
    obtain ⟨a, b, c, d⟩ := hf c
    exact ⟨a, b, c, .inl d⟩
  have e : (cs.filterMap fun c => some (f c)) = cs.map f := by
    have := List.filterMap_eq_map (f := f)
    exact congrFun this cs
  rw [e] at pre
  refine ⟨pre, by rw [List.length_map]; exact g.few, fun y hy h2 h3 h4 => ?_⟩
  obtain ⟨c, hc, rfl⟩ := List.mem_map.mp hy
  rw [listed_map fun c => (hf c).2.2.2] at h4 ⊢
  rw [(hf c).2.2.1] at h2
  rw [(hf c).2.1] at h3
  rw [g.r6 c hc h2 h3 fun z => h4 (by rw [z]; rfl)]
  rfl
def turnAt (n : Str) (c : Col) : Col := if c.name = n then c.turn else c
theorem turnAt_stays (n : Str) (c : Col) : (turnAt n c).name = c.name ∧ (turnAt n c).target = c.target ∧ (turnAt n c).isLink = c.isLink ∧ (turnAt n c).lst = c.lst := by
  unfold turnAt
  split
  · exact turn_stays c
  · exact ⟨rfl, rfl, rfl, rfl⟩
theorem turnAt_at {d r : List Col} {c : Col} (nd : ((d ++ c :: r).map Col.name).Nodup) : (d ++ c :: r).map (turnAt c.name) = d ++ c.turn :: r := by
  rw [List.map_append, List.map_cons, List.nodup_append, List.nodup_cons] at nd
  have hd : d.map (turnAt c.name) = d := (List.map_congr_left fun x hx => if_neg fun z => nd.2.2 _ (List.mem_map.mpr ⟨x, hx, rfl⟩) _ List.mem_cons_self z).trans (List.map_id d)
  have hr : r.map (turnAt c.name) = r := (List.map_congr_left fun x hx => if_neg fun z => nd.2.1.1 (List.mem_map.mpr ⟨x, hx, z⟩)).trans (List.map_id r)
  rw [List.map_append, List.map_cons, hd, hr]
  congr 2
  exact if_pos rfl
inductive Road (ts td : Tabs) (t : Str × List Col) (tr : Tabs) : Str × List Col → Prop where
  | add {x : Str} (hx : IsName x) (hn : x ∉ t.2.map Col.name) (hl : t.2.length < 6) : Road ts td t tr (t.1, t.2 ++ [.plain true x])
  | turn {d r : List Col} {c : Col} (e : t.2 = d ++ c :: r) : Road ts td t tr (t.1, d ++ c.turn :: r)
  | name {m : Str} (e : tr = []) (hm : IsName m) (hn : m ∉ ts.map (·.1)) : Road ts td t tr (m, t.2)
def Changed (ts ts' : Tabs) : Prop := ∃ td t tr t', ts = td ++ t :: tr ∧ ts' = td ++ t' :: tr ∧ Road ts td t tr t'
/-- no column bears the name of a list of its table -/
def FreeL (ts : Tabs) (n : Str) (cs : List Col) : Prop := ∀ c ∈ cs, c.name ∉ (listsOf ts n).map (·.1)
def FreeT (ts ts' : Tabs) : Prop := ∀ (i : Nat) t t', ts[i]? = some t → ts'[i]? = some t' → FreeL ts t.1 t'.2
theorem in_lists {ts : Tabs} {z : Str × List Col} {c : Col} {l : Str} (hz : z ∈ ts) (hc : c ∈ z.2) (e : c.lst = some l) : l ∈ (listsOf ts c.target).map (·.1) := by
  unfold listsOf
  refine List.mem_map.mpr ⟨(l, z.1, c.name), List.mem_flatMap.mpr ⟨z, hz, List.mem_filterMap.mpr ⟨c, hc, ?_⟩⟩, rfl⟩
  unfold lstEnt
  rw [e]
  exact if_pos rfl
theorem taken_eq {tg : Str} {t t' : Str × List Col} (hn : t'.1 = t.1) (hk : key t'.2 = key t.2) (l : Str) (h : some l ∉ takenStep tg t) (ho : t.1 = tg → l ∉ t'.2.map Col.name) : some l ∉ takenStep tg t' := by
  unfold takenStep at h ⊢
  rw [key_links, hk, ← key_links, hn]
  intro z
  rcases List.mem_append.1 z with z | z
  · exact h (List.mem_append_left _ z)
  · by_cases e : t.1 = tg
    · rw [if_pos e] at z
      obtain ⟨c, hc, e2⟩ := List.mem_map.mp z
      exact ho e (List.mem_map.mpr ⟨c, hc, Option.some.inj e2⟩)
    · rw [if_neg e] at z
      cases z
theorem good_add {td : Tabs} {cs : List Col} {x : Str} (g : GoodCols td cs) (hx : IsName x) (hn : x ∉ cs.map Col.name) (hl : cs.length < 6) : GoodCols td (cs ++ [.plain true x]) := by
  have one : ∀ {c : Col}, c ∈ [Col.plain true x] → c = .plain true x := fun h => List.mem_singleton.1 h
  have lo : listedOf (cs ++ [.plain true x]) = listedOf cs := by
    unfold listedOf
    rw [List.filter_append]
    exact List.append_nil _
  refine ⟨⟨fun c hc => ?_, ?_, fun c hc h => ?_, fun c hc l h => ?_, ?_, fun c hc l h => ?_⟩, by rw [List.length_append]; exact hl, fun c hc h1 h2 h3 => ?_⟩
  · rcases List.mem_append.1 hc with hc | hc
    · exact g.nm c hc
    · rw [one hc]; exact hx
  · rw [List.map_append]; rw [List.nodup_append]
    refine ⟨g.nd, by simp, fun a ha b hb => ?_⟩
    rw [List.mem_singleton.1 (show b ∈ [x] from hb)]
    rintro rfl
    exact hn ha
  · rcases List.mem_append.1 hc with hc | hc
    · exact g.tg c hc h
    · rw [one hc] at h; cases h
  · rcases List.mem_append.1 hc with hc | hc
    · exact g.ls c hc l h
    · rw [one hc] at h; cases h
  · rw [List.pairwise_append]
    refine ⟨g.fr, by simp, fun a ha b hb h1 h2 l h3 => ?_⟩
    rw [one hb] at h3
    cases h3
  · rcases List.mem_append.1 hc with hc | hc
    · exact g.old c hc l h
    · rw [one hc] at h; cases h
  · rw [lo] at h3 ⊢
    rcases List.mem_append.1 hc with hc | hc
    · exact g.r6 c hc h1 h2 h3
    · rw [one hc] at h1; cases h1
theorem at_mid (td : Tabs) (t : Str × List Col) (tr : Tabs) : (td ++ t :: tr)[td.length]? = some t := by simp
theorem changed_good {ts ts' : Tabs} (g : GoodTabs ts) (h : Changed ts ts') (hf : FreeT ts ts') : GoodTabs ts' := by
  obtain ⟨td, t, tr, t', rfl, rfl, road⟩ := h
  obtain ⟨g1, g2, g3, g4⟩ := g.split td t tr rfl
  have fr := hf td.length t t' (at_mid ..) (at_mid ..)
  have later : t'.1 = t.1 → key t'.2 = key t.2 → ∀ z ∈ tr, ∀ c ∈ z.2, ∀ l, c.lst = some l → some l ∉ takenStep c.target t' := fun hn hk z hz c hc l hl => by
    obtain ⟨zd, zr, rfl⟩ := List.append_of_mem hz
    obtain ⟨_, _, _, g5⟩ := g.split (td ++ t :: zd) z zr (by simp)
    refine taken_eq hn hk l (g5.old c hc l hl t (by simp)) fun e z2 => ?_
    obtain ⟨x, hx, ex⟩ := List.mem_map.mp z2
    refine fr x hx ?_
    rw [ex, e]
    exact in_lists (z := z) (by simp) hc hl
  cases road with
  | @add x hx hn hl =>
    have hk : key (t.2 ++ [.plain true x]) = key t.2 := by
      unfold key
      rw [List.filter_append]
      exact congrArg _ (List.append_nil _)
    exact good_other (t := t) (t' := (t.1, t.2 ++ [.plain true x])) rfl hk (good_add g4 hx hn hl) _ tr rfl g (later rfl hk)
  | turn e =>
    rename_i d r c
    have nd := g4.nd
    rw [e] at nd
    have em := turnAt_at nd
    have hk : key (d ++ c.turn :: r) = key t.2 := by rw [← em, key_map fun c => (turnAt_stays _ c).2, e]
    refine good_other (t := t) (t' := (t.1, d ++ c.turn :: r)) rfl hk ?_ _ tr rfl g (later rfl hk)
    show GoodCols td (d ++ c.turn :: r)
    rw [← em, ← e]
    exact good_map (turnAt_stays _) g4
  | name e hm hn =>
    subst e
    exact GoodTabs.snoc g1 hm (fun z => hn (by rw [List.map_append]; exact List.mem_append_left _ z)) g4
/-! ### the lines tell them apart -/
theorem cat_inj {a x y : Str} (h : a ++ x = a ++ y) : x = y := by
  have e : (a ++ x).cps.toList = (a ++ y).cps.toList := by rw [h]
  have ex : ∀ z : Str, (a ++ z).cps.toList = a.cps.toList ++ z.cps.toList := fun z => by
    show (a.cps ++ z.cps).toList = _
    rw [Array.toList_append]
  rw [ex, ex] at e
  have e2 := List.append_cancel_left e
  obtain ⟨x⟩ := x
  obtain ⟨y⟩ := y
  have e3 : x = y := Array.toList_inj.mp e2
  rw [e3]
theorem turn_line (c : Col) : colLine c.turn ≠ colLine c := by
  intro h
  have h := congrArg Str.length h
  have e0 : Str.empty.length = 0 := rfl
  have e1 : (sz " ").length = 1 := by decide
  have e2 : (sz "?").length = 1 := by decide
  have e3 : (sz "").length = 0 := by decide
  have e4 : (sz " to ").length = 4 := by decide
  have e5 : (sz " as ").length = 4 := by decide
  have k1 : (Str.ofString "flag").length = 4 := by decide
  have k2 : (Str.ofString "number").length = 6 := by decide
  unfold colLine at h
  cases c with
  | plain f n =>
    cases f <;> simp only [Col.turn, Col.isLink, Col.lst, Col.kind, Col.name, Col.opt, len_cat, e0, e1, e3, k1, k2, Bool.false_eq_true, if_false, Bool.not_true, Bool.not_false] at h <;> omega
  | word n o =>
    cases o <;> simp only [Col.turn, Col.isLink, Col.lst, Col.kind, Col.name, Col.opt, len_cat, e0, e1, e2, e3, Bool.false_eq_true, if_false, if_true, Bool.not_true, Bool.not_false] at h <;> omega
  | link n t o l =>
    cases o <;> cases l <;> simp only [Col.turn, Col.isLink, Col.lst, Col.kind, Col.name, Col.target, Col.opt, len_cat, e0, e1, e2, e3, e4, e5, Bool.false_eq_true, if_false, if_true, Bool.not_true, Bool.not_false] at h <;> omega
theorem changed_lines {ts ts' : Tabs} {u u' : Str} (h : Changed ts ts') : linesOf u ts ≠ linesOf u' ts' := by
  obtain ⟨td, t, tr, t', rfl, rfl, road⟩ := h
  intro e
  unfold linesOf at e
  injection e with _ e
  rw [List.flatMap_append, List.flatMap_append, List.flatMap_cons, List.flatMap_cons] at e
  have e := List.append_cancel_right (List.append_cancel_left e)
  unfold tabLines at e
  injection e with e1 e2
  cases road with
  | add hx hn hl =>
    have := congrArg List.length e2
    simp at this
  | turn et =>
    rename_i d r c
    rw [et] at e2
    rw [List.map_append, List.map_append, List.map_cons, List.map_cons] at e2
    have e2 := List.append_cancel_left e2
    injection e2 with e2 _
    exact turn_line c e2.symm
  | @name m et hm hn =>
    have em : t.1 = m := cat_inj e1
    exact hn (List.mem_map.mpr ⟨t, List.mem_append_right _ List.mem_cons_self, em⟩)
theorem user_lines {u u' : Str} {ts : Tabs} : linesOf u ts = linesOf u' ts ↔ u = u' := by
  refine ⟨fun e => ?_, fun e => by rw [e]⟩
  unfold linesOf at e
  injection e with e _
  exact cat_inj e
end LP
namespace LP
open PySem L2
open Evl (Ex)
def spMeetsX (K : PySem.W.Frag) (CB : Addr) : Sp := fun vs H Q E => ∃ (i : V) (a d : Addr) (xs : List V) (td : Tabs) (cs : List Col), vs = [i, .ref a, .ref d] ∧ H a = some (.tup xs) ∧ ColsV H xs cs ∧ cs.length ≤ 20 ∧ (∀ c ∈ cs, c.Ok) ∧ Meets H d (meetMap td) ∧
  (∀ c ∈ cs, c.isLink = true → ∃ b, (meetMap td).lookup c.target = some b) ∧ (brk td cs = none → ∀ H', Ex H H' → Q (.bl (meetOf (meetMap td) cs)) H') ∧ ∀ j, brk td cs = some j → Bad2 CB "table" "column" i (.int (j : Nat)) H E
theorem brk_mid {td : Tabs} {cs md mr : List Col} {c : Col} (e : cs = md ++ c :: mr) (h1 : ∀ x ∈ md, brkC td cs x = false) (h2 : brkC td cs c = true) : brk td cs = some md.length := by
  unfold brk
  rw [List.findIdx?_eq_some_iff_getElem]
  refine ⟨by rw [e]; simp, ?_, fun j hj => ?_⟩
  · have : cs[md.length]'(by rw [e]; simp) = c := by simp [e]
    rw [this]
    exact h2
  · have : cs[j]'(by rw [e]; simp; omega) = md[j] := by
      simp only [e]
      exact List.getElem_append_left hj
    rw [this, h1 _ (List.getElem_mem hj)]
    exact Bool.false_ne_true
theorem brk_all {td : Tabs} {cs : List Col} (h : ∀ x ∈ cs, brkC td cs x = false) : brk td cs = none := by
  unfold brk
  rw [List.findIdx?_eq_none_iff]
  exact h
theorem colsL_eqv : ∀ cs ds : List Col, PyData.eqvAll (cs.map Col.data) (ds.map Col.data) = decide (cs = ds)
  | [], [] => rfl
  | [], _ :: _ => rfl
  | _ :: _, [] => rfl
  | c :: r, d :: s => by
    rw [List.map_cons,
            List.map_cons]
    simp only [PyData.eqvAll, Col.eqv, colsL_eqv r s, List.cons.injEq]
    by_cases h1 : c = d <;> by_cases h2 : r = s <;> simp [h1, h2]
section
variable {base : Heap} {mg : Str → Option Value} {K : PySem.W.Frag} {w : World} {P : Program} {CB fI : Addr} {fdI : FuncData}
theorem ok_badschema {f : Addr} {fd : FuncData} (T : OexC K CB) (n1 : PySem.W.findIn K (.ref CB) "table" = some none) (n2 : PySem.W.findIn K (.ref CB) "column" = some none) (F : C8.Fun K "__init__" "BadSchema.__init__" s_BadSchema___init__ f fd) :
    FnOk P w K mg base C8.CX0 1 f fd ["self", "table", "column"] (spEx2 CB "table" "column") := by
  have sc : FnScope ["self", "table", "column"] ["self", "table", "column"] (C8.fnScope s_BadSchema___init__) := C8.fnScope_by (by decide +kernel)
  refine C8.fn0 F sc (fun vs H Q E h => ?_) (fun cdv A outer s H vs Q E hr h => ?_)
  · obtain ⟨_, _, _, rfl, _⟩ := h
    rfl
  · obtain ⟨a, v, u, rfl, ha, k⟩ := h
    refine ⟨_, (pss_cons (ps_os2 (K := K) rfl (pv 0) (pv 1) rfl)
        (pss_one (ps_os2 (K := K) rfl (pv 0) (pv 2) rfl))), ?_⟩
    walk_at "w"
    refine ⟨a, CB, rfl, T, n1, .inl ⟨ha, fun dx hdx ne => ?_⟩⟩
    walk_at "w"
    exact ⟨a, CB, rfl, T, n2, .inr ⟨dx, _, upd_same, by rw [upd_ne ne]; exact upd_same, by show 1 ≤ 900; omega, k dx hdx ne⟩⟩
theorem ok_meetsX {f : Addr} {fd : FuncData} (D : C8.Def K mg "_meets" s__meets f fd) (b : Binds K fd ["index", "columns", "meeting"] []) (B : Blt mg) (NX : ExV P w K mg base "BadSchema" CB fI fdI ["self", "table", "column"] 1 (spEx2 CB "table" "column"))
    (c_is_link : C8.Cal P w K mg base 1 "is_link" spIsLink []) (c_has_list : C8.Cal P w K mg base 2 "has_list" spHasList []) : FnOk P w K mg base (L2.CX P w) 3 f fd ["index", "columns", "meeting"] (spMeetsX K CB) := by
  have sc : FnScope ["index", "columns", "meeting", "makers", "column", "leading", "at"] ["index", "columns", "meeting"] (C8.fnScope s__meets) := C8.fnScope_by (by decide +kernel)
  refine fnX D.fn sc (fun vs H Q E h => ?_) (fun cdv A outer s H vs Q E hr h => ?_)
  · obtain ⟨_, _, _, _, _, _, rfl, _⟩ := h
    rfl
  · obtain ⟨i, a, d, xs, td, cs, rfl, ha, hc, hn, hok, hm, htg, kN, kS⟩ := h
    obtain ⟨m, em⟩ : ∃ m, m = meetMap td := ⟨_, rfl⟩
    rw [← em] at hm htg kN
    have el0 : ∀ c, leads m c = leads' td c := fun c => by rw [em]; rfl
    have hat : SqT K H a xs := SqT.of ha
    have lx := paired_len hc
    refine ⟨_, (pss_cons (ps_setLc (i := 3) (own := [("column", 4)]) (g := (gName 4)) (by rfl) sc.nd rfl rfl (sw_true rfl rfl rfl (by decide +kernel)) (pi_tupK (K := K) rfl (pv 1)) (blkOk_by (own := [("column", 4)]) (N := ["index", "columns", "meeting", "makers", "column", "leading", "at"]) (sc := C8.fnScope s__meets) (by decide +kernel)) (fun _ _ _ _ _ => (pg_name (i := 4) sc.nd rfl (Or.inl rfl))) (fun _ _ _ _ _ => pts_one (pt_val (C8.pe_c c_has_list hr (by decide) rfl (pa_cons (pv 4) pa_nil)))) (fun _ _ _ _ _ => (pv 4)))
        (pss_cons (ps_setLc (i := 5) (own := [("column", 4)]) (g := (gName 4)) (by rfl) sc.nd rfl rfl (sw_true rfl rfl rfl (by decide +kernel)) (pi_tupK (K := K) rfl (pv 1)) (blkOk_by (own := [("column", 4)]) (N := ["index", "columns", "meeting", "makers", "column", "leading", "at"]) (sc := C8.fnScope s__meets) (by decide +kernel)) (fun _ _ _ _ _ => (pg_name (i := 4) sc.nd rfl (Or.inl rfl))) (fun _ _ _ _ _ => pts_one (PW.pt (pw_and (pt_val (C8.pe_c c_is_link hr (by decide) rfl (pa_cons (pv 4) pa_nil))) (pw_and1 (pt_val (pe_dget (hu_of hr) (pv 2) (pe_ix (ix_tupK (K := K) rfl) (pv 4) pe_int (fun _ _ => rfl)) (fun _ _ => rfl))))))) (fun _ _ _ _ _ => (pv 4)))
        (pss_cons (ps_for (passes_of rfl) rfl (pi_enumTK (K := K) rfl (by rfl) B.enumerate_ (pa_cons (pv 1) pa_nil)) (pg_tupK (K := K) (n := 2) rfl rfl (pgs_cons (pg_name (i := 6) sc.nd rfl (Or.inl rfl)) (pgs_cons (pg_name (i := 4) sc.nd rfl (Or.inl rfl)) pgs_nil)))
        (pss_one (ps_if (PW.pt (pw_and (pt_truthK (K := K) rfl (pv 3)) (pw_and (pt_cmpR (op_inDK (K := K) rfl (hu65 hr)) (pv 4) (pv 5) (by rfl)) (pw_and1 (pt_cmpR (op_neDK (K := K) rfl (hu64 hr)) (pv 3) (pe_lst (pa_cons (pv 4) pa_nil)) (nomark _))))))
        (pss_one (ps_raiseV rfl (takes_of rfl rfl rfl rfl) (pmk_V NX hr (by decide) rfl (pa_cons (pv 0) (pa_cons (pv 6) pa_nil)))))
        pss_nil)))
        (pss_one (ps_ret (pe_or (pe_callTy (call_boolLK (K := K) rfl) (by rfl) B.bool_ (by decide +kernel) (pa_cons (pv 3) pa_nil)) (pe_one (pe_callTy (call_boolLK (K := K) rfl) (by rfl) B.bool_ (by decide +kernel) (pa_cons (pv 5) pa_nil))))))))), ?_⟩
    walk_at "w"
    intro D1 hD1
    refine compQT cs (ColAt H) (fun c => if c.lst.isSome = true then some c else none) (ColAt H) hD1 hat (by omega) hc (fun y c hy hmc H3 e3 kk kn hk hkn => ?_) (fun acc1 H1 e1 hacc1 hp1 => ?_)
    · have hy3 := hy.ext e3
      walk_at "w"
      refine ⟨y, c, rfl, hy3, ?_⟩
      walk_at "w"
      refine iteB (fun hL => ?_) (fun hL => ?_)
      · walk_at "w"
        exact hk _ _ _ (Ex.refl _) (by rw [if_pos hL]) hy
      · exact hkn _ (Ex.refl _) (by rw [if_neg (by rw [hL]; exact Bool.false_ne_true)])
    · rw [filterMap_if] at hp1
      have hat1 : SqT K H1 a xs := Evl.ex_t e1 hat
      have hp1 : ColsV H acc1 (listedOf cs) := hp1
      walk_at "w"
      intro D2 hD2
      refine compQT cs (ColAt H1) (fun c => if leads m c = true then some c else none) (ColAt H1) hD2 hat1 (by omega) (hc.ext e1) (fun y c hy hmc H3 e3 kk kn hk hkn => ?_) (fun acc2 H2 e2 hacc2 hp2 => ?_)
      · have hy3 := hy.ext e3
        walk_at "w"
        refine ⟨y, c, rfl, hy3, ?_⟩
        walk_at "w"
        refine iteB (fun hL => ?_) (fun hL => ?_)
        · obtain ⟨ca, rfl, hca⟩ := hy3
          obtain ⟨b', hb'⟩ := htg c hmc hL
          walk_at "w"
          refine w_ixT (SqT.of hca) (Col.at2 hL) ?_
          refine w_kG ((e1.trans e3) _ _ hm) (meets_get hb') ?_
          have el : leads m c = b' := by
            unfold leads
            rw [hL, hb']
            cases b' <;> rfl
          walk_at "w"
          refine iteB (fun hb => ?_) (fun hb => ?_)
          · walk_at "w"
            exact hk _ _ _ (Ex.refl _) (by rw [if_pos (el.trans hb)]) hy
          · exact hkn _ (Ex.refl _) (by rw [if_neg (by rw [el, hb]; exact Bool.false_ne_true)])
        · exact hkn _ (Ex.refl _) (by rw [if_neg (by unfold leads; rw [hL]; exact Bool.false_ne_true)])
      · rw [filterMap_if] at hp2
        have hat2 : SqT K H2 a xs := Evl.ex_t e2 hat1
        have hp2 : ColsV H1 acc2 (cs.filter (leads m)) := hp2
        have mk2 : SqL K H2 D1 acc1 := SqL.of (e2 _ _ hacc1)
        have ld2 : SqL K H2 D2 acc2 := SqL.of hacc2
        have v1 : ColsV H2 acc1 (listedOf cs) := (hp1.ext e1).ext e2
        have v2 : ColsV H2 acc2 (cs.filter (leads m)) := hp2.ext e2
        walk_at "w"
        refine loopET (xs := xs) (fun d' r σ' H' => (∃ x4 x6, σ' = [some i, some (.ref a), some (.ref d), some (.ref D1), x4, some (.ref D2), x6]) ∧ Ex H2 H' ∧ ∀ md mr, cs = md ++ mr → md.length = d'.length → ∀ x ∈ md, brkC td cs x = false) ⟨⟨_, _, rfl⟩, Ex.refl _, fun md mr _ e x hx => by rw [List.eq_nil_of_length_eq_zero e] at hx; cases hx⟩ (fun d' r σ' H' e h => ?_) (fun d' y r σ' H' Tp e hTp h => ?_) (fun σ' H' h => ?_)
        · exact Evl.ex_t h.2.1 hat2
        · obtain ⟨⟨x4, x6, rfl⟩, ex, old⟩ := h
          obtain ⟨md, mr0, ecs, pd, pr⟩ := paired_cut (d := d') (r := y :: r) (m := cs) (by rw [e]; exact hc)
          obtain ⟨c, mr, rfl, hy, _⟩ := paired_cons pr
          have lmd := (paired_len pd).symm
          have hmc : c ∈ cs := by rw [ecs]; simp
          have oldd := old md (c :: mr) ecs lmd
          have next : brkC td cs c = false → ∀ md' mr', cs = md' ++ mr' → md'.length = (d' ++ [y]).length → ∀ x ∈ md', brkC td cs x = false := fun hb md' mr' e' l' x hx => by
            have e2 : md' = md ++ [c] := by
              have q : md' ++ mr' = (md ++ [c]) ++ mr := by rw [← e', ecs]; simp
              exact (List.append_inj q (by rw [l', List.length_append, List.length_append, lmd]; rfl)).1
            rw [e2] at hx
            rcases List.mem_append.1 hx with hx | hx
            · exact oldd x hx
            · rw [List.mem_singleton.1 hx]; exact hb
          have exT : Ex H2 (L2.upd H' Tp (.tup [.int (d'.length : Nat), y])) := ex.trans (Ex.new hTp)
          have hTt : (L2.upd H' Tp (.tup [.int (d'.length : Nat), y])) Tp = some (.tup [.int (d'.length : Nat), y]) := upd_same
          generalize (L2.upd H' Tp (.tup [.int (d'.length : Nat), y])) = H3 at exT hTt ⊢
          have mk3 := Evl.ex_l exT mk2
          have ld3 := Evl.ex_l exT ld2
          have hy3 : ColAt H3 y c := ((hy.ext e1).ext e2).ext exT
          have ex03 : Ex H H3 := (e1.trans e2).trans exT
          walk_at "w"
          rw [paired_empty v1, listedOf_ne]
          have bq : brkC td cs c = (isListed cs && (leads' td c && decide (listedOf cs ≠ [c]))) := by unfold brkC; rw [listedOf_ne]
          refine iteB (fun hL => ?_) (fun hL => ?_)
          · walk_at "w"
            have sh : ∀ l : List Col, (∀ x ∈ l, x ∈ cs) → SeqAt.shaped (.list (l.map Col.data)) = true := fun l hl => shapedL_cols fun x hx => hok x (hl x hx)
            refine ⟨c.data, (cs.filter (leads m)).map Col.data, hy3.dp, .lst ld3 (v2.ext exT).dp, Col.shaped (hok c hmc), sh _ (fun x hx => (List.mem_filter.mp hx).1), ?_⟩
            rw [any_eqv]
            walk_at "w"
            refine iteD (fun hM => ?_) (fun hM => ?_)
            · have lc : leads' td c = true := by rw [← el0]; exact (List.mem_filter.mp hM).2
              walk_at "w"
              intro L hL'
              have exL : Ex H3 (L2.upd H3 L (.lst [y])) := Ex.new hL'
              have hLL : (L2.upd H3 L (.lst [y])) L = some (.lst [y]) := upd_same
              generalize (L2.upd H3 L (.lst [y])) = H4 at exL hLL ⊢
              refine ⟨.list ((listedOf cs).map Col.data), .list [c.data], .lst (Evl.ex_l exL mk3) ((v1.ext exT).ext exL).dp, .lst (SqL.of hLL) (.cons (hy3.ext exL).dp .nil), sh _ (fun x hx => (List.mem_filter.mp hx).1), sh [c] (fun x hx => by rw [List.mem_singleton.1 hx]; exact hmc), ?_⟩
              rw [show PyData.eqv (.list ((listedOf cs).map Col.data)) (.list [c.data]) = decide (listedOf cs = [c]) from by
                have := colsL_eqv (listedOf cs) [c]
                simp only [PyData.eqv]
                exact this]
              by_cases one : listedOf cs = [c]
              · rw [decide_eq_true one]
                walk_at "w"
                exact ⟨⟨_, _, rfl⟩, exT.trans exL, next (by rw [bq, hL, lc, decide_eq_false (fun z => z one)]; rfl)⟩
              · rw [decide_eq_false one]
                have hb : brk td cs = some d'.length := by
                  rw [← lmd]
                  exact brk_mid ecs oldd (by rw [bq, hL, lc, decide_eq_true one]; rfl)
                walk_at "w"
                refine ⟨by simp, fun a ha => ?_⟩
                have bad : Bad2 CB "table" "column" i (.int (d'.length : Nat)) H4 E := fun dd H5 e5 h5 => kS _ hb dd H5 (fun b o h => e5 b o (exL _ _ (ex03 _ _ h))) h5
                exact raised2 bad a ha
            · have lc : leads' td c = false := by
                cases q : leads' td c with
                | false => rfl
                | true => exact absurd (List.mem_filter.mpr ⟨hmc, (el0 c).trans q⟩) hM
              walk_at "w"
              exact ⟨⟨_, _, rfl⟩, exT, next (by rw [bq, lc]; simp)⟩
          · walk_at "w"
            exact ⟨⟨_, _, rfl⟩, exT, next (by rw [bq, hL]; rfl)⟩
        · obtain ⟨⟨x4, x6, rfl⟩, ex, old⟩ := h
          have none_ : brk td cs = none := brk_all (old cs [] (by simp) lx.symm)
          have mk3 := Evl.ex_l ex mk2
          have ld3 := Evl.ex_l ex ld2
          walk_at "w"
          refine w_boolL mk3 ?_
          walk_at "w"
          rw [paired_empty v1, listedOf_ne]
          have k2 := kN none_ H' ((e1.trans e2).trans ex)
          unfold meetOf at k2
          refine iteB (fun hL => ?_) (fun hL => ?_)
          · rw [hL] at k2
            exact k2
          · rw [hL] at k2
            walk_at "w"
            refine w_boolL ld3 ?_
            rw [paired_empty v2, filter_ne]
            exact k2
end
end LP
namespace LP
open PySem L2
open Evl (Ex)
section
variable {base : Heap} {mg : Str → Option Value} {K : PySem.W.Frag} {w : World} {P : Program}
theorem ok_all_links {f : Addr} {fd : FuncData} (D : C8.Def K mg "_law_all_links" s__law_all_links f fd) (b : Binds K fd ["columns"] []) :
    C8.Cal P w K mg base 1 "_law_all_links" (spAllLinks K) [] := by
  have sc : FnScope ["columns", "column"] ["columns"] (C8.fnScope s__law_all_links) := C8.fnScope_by (by decide +kernel)
  refine C8.cal0 D b .nil sc (fun vs H Q E h => ?_) (fun cdv A outer s H vs Q E hr h => ?_)
  · obtain ⟨_, _, rfl, _⟩ := h
    rfl
  · obtain ⟨p, cs, rfl, ⟨cvs, hx, hc⟩, hl, k⟩ := h
    refine ⟨_, (pss_one (ps_ret (pe_lc (own := [("column", 1)]) (g := (gName 1)) (by rfl) sc.nd (pi_listK (K := K) rfl (pv 0)) (blkOk_by (own := [("column", 1)]) (N := ["columns", "column"]) (sc := C8.fnScope s__law_all_links) (by decide +kernel)) (fun _ _ _ _ _ => (pg_name (i := 1) sc.nd rfl (Or.inl rfl))) (fun _ _ _ _ _ => pts_one (pt_cmpR op_eq (pe_ix (ix_tupK (K := K) rfl) (pv 1) pe_int (fun _ _ => rfl)) pe_str (nomark _))) (fun _ _ _ _ _ => (pv 1))))), ?_⟩
    have ll := paired_len hc
    walk_at "w"
    intro D hD
    refine compQ cs (ColAt H) (fun c => if c.isLink = true then some c else none) (ColAt H) hD hx (by omega) hc (fun y c hy _ H2 e2 kk kn hk hn => ?_) (fun acc H2 e2 ha hp => ?_)
    · obtain ⟨a, rfl, ha⟩ := hy
      have ha2 : H2 a = some (.tup c.vals) := e2 _ _ ha
      walk_at "w"
      refine w_ixT (SqT.of ha2) c.at0 ?_
      walk_at "w"
      rw [c.kind_link]
      refine iteB (fun h => ?_) (fun h => ?_)
      · walk_at "w"
        exact hk _ c _ (Ex.refl _) (by rw [if_pos h]) ⟨a, rfl, ha⟩
      · exact hn _ (Ex.refl _) (by rw [h]; rfl)
    · rw [filterMap_if] at hp
      exact k D H2 hD e2 ⟨acc, ha, ColsV.ext e2 hp⟩
theorem ok_is_listed {f : Addr} {fd : FuncData} (D : C8.Def K mg "_law_is_listed" s__law_is_listed f fd) (b : Binds K fd ["columns"] []) (B : Blt mg)
    (c__law_all_links : C8.Cal P w K mg base 1 "_law_all_links" (spAllLinks K) []) : C8.Cal P w K mg base 2 "_law_is_listed" (spIsListed K) [] := by
  have sc : FnScope ["columns", "column"] ["columns"] (C8.fnScope s__law_is_listed) := C8.fnScope_by (by decide +kernel)
  refine C8.cal0 D b .nil sc (fun vs H Q E h => ?_) (fun cdv A outer s H vs Q E hr h => ?_)
  · obtain ⟨_, _, rfl, _⟩ := h
    rfl
  · obtain ⟨p, cs, rfl, hc, hl, k⟩ := h
    refine ⟨_, (pss_one (ps_ret (pe_callB (cr_anyK (K := K) rfl rfl) (by rfl) B.any_ (by decide +kernel) (pa_cons (pe_lc (own := [("column", 1)]) (g := (gName 1)) (by rfl) sc.nd (pi_listK (K := K) rfl (C8.pe_c c__law_all_links hr (by decide) rfl (pa_cons (pv 0) pa_nil))) (blkOk_by (own := [("column", 1)]) (N := ["columns", "column"]) (sc := C8.fnScope s__law_is_listed) (by decide +kernel)) (fun _ _ _ _ _ => (pg_name (i := 1) sc.nd rfl (Or.inl rfl))) (fun _ _ _ _ _ => pts_nil) (fun _ _ _ _ _ => (pe_cmpR op_notN' (pe_ix (ix_tupK (K := K) rfl) (pv 1) pe_int (fun _ _ => rfl)) pe_non (nomark _)))) pa_nil)))), ?_⟩
    walk_at "w"
    refine ⟨p, cs, rfl, hc, hl, fun q H1 hq e1 ⟨lvs, hlv, hcl⟩ => ?_⟩
    walk_at "w"
    intro D hD
    have ll := paired_len hcl
    have lf := List.length_filter_le Col.isLink cs
    refine compQ (cs.filter Col.isLink) (ColAt H1) (fun c => some c.lst.isSome) (fun v x => v = V.bl x) hD (SqL.of hlv) (by omega) hcl (fun y c hy hm H2 e2 kk kn hk hn => ?_) (fun acc H2 e2 ha hp => ?_)
    · obtain ⟨a, rfl, ha⟩ := hy
      have ha2 : H2 a = some (.tup c.vals) := e2 _ _ ha
      have hL : c.isLink = true := (List.mem_filter.mp hm).2
      walk_at "w"
      refine w_ixT (SqT.of ha2) (Col.at4 hL) ?_
      walk_at "w"
      exact hk _ _ _ (Ex.refl _) rfl (congrArg V.bl (vOpt_non c.lst))
    · rw [filterMap_some] at hp
      refine w_any (bs := (cs.filter Col.isLink).map fun c => c.lst.isSome) (SqL.of (vals_bls hp ▸ ha)) ?_
      have e3 : (((cs.filter Col.isLink).map fun c => c.lst.isSome).any id) = isListed cs := by
        unfold isListed
        rw [List.any_map, List.any_filter]
        congr 1
        funext c
        cases c <;> rfl
      rw [e3]
      exact k _ (e1.trans e2)
theorem ok_reach {f : Addr} {fd : FuncData} (D : C8.Def K mg "_law_reach" s__law_reach f fd) (b : Binds K fd ["tables", "name"] []) (B : Blt mg)
    (c__law_all_links : C8.Cal P w K mg base 1 "_law_all_links" (spAllLinks K) []) : C8.Cal P w K mg base 2 "_law_reach" (spReach K) [] := by
  have sc : FnScope ["tables", "name", "found", "other", "columns", "column"] ["tables", "name"] (C8.fnScope s__law_reach) := C8.fnScope_by (by decide +kernel)
  refine C8.cal0 D b .nil sc (fun vs H Q E h => ?_) (fun cdv A outer s H vs Q E hr h => ?_)
  · obtain ⟨_, _, _, rfl, _⟩ := h
    rfl
  · obtain ⟨p, ts, n, rfl, ⟨tvs, hx, ht⟩, hf, k⟩ := h
    refine ⟨_, (pss_cons (ps_set (i := 2) sc.nd rfl (Or.inl rfl) (pe_lst (pa_cons (pv 1) pa_nil)))
        (pss_cons (ps_for PassesOwn.never rfl (pi_reversedK (K := K) rfl (by rfl) B.reversed_ (pa_cons (pe_callTy (call_list_ofK (K := K) rfl) (by rfl) B.list_ (by decide +kernel) (pa_cons (pv 0) pa_nil)) pa_nil)) (pg_tupK (K := K) (n := 2) rfl rfl (pgs_cons (pg_name (i := 3) sc.nd rfl (Or.inl rfl)) (pgs_cons (pg_name (i := 4) sc.nd rfl (Or.inl rfl)) pgs_nil)))
        (pss_one (ps_if (pt_cmpR (op_in_seqK (K := K) rfl) (pv 3) (pv 2) (by rfl))
        (pss_one (ps_set (i := 2) sc.nd rfl (Or.inl rfl) (pe_op op_cat (pv 2) (pe_lc (own := [("column", 5)]) (g := (gName 5)) (by rfl) sc.nd (pi_listK (K := K) rfl (C8.pe_c c__law_all_links hr (by decide) rfl (pa_cons (pv 4) pa_nil))) (blkOk_by (own := [("column", 5)]) (N := ["tables", "name", "found", "other", "columns", "column"]) (sc := C8.fnScope s__law_reach) (by decide +kernel)) (fun _ _ _ _ _ => (pg_name (i := 5) sc.nd rfl (Or.inl rfl))) (fun _ _ _ _ _ => pts_nil) (fun _ _ _ _ _ => (pe_ix (ix_tupK (K := K) rfl) (pv 5) pe_int (fun _ _ => rfl)))))))
        pss_nil)))
        (pss_one (ps_ret (pv 2))))), ?_⟩
    have ll := paired_len ht
    walk_at "w"
    intro q0 hq0
    walk_at "w"
    refine w_listL (Evl.ex_l (Ex.new hq0) hx) fun l hl => ?_
    have q0l : q0 ≠ l := ne_of_none upd_same hl
    have hl0 : H l = none := Evl.fresh_back (Ex.new hq0) hl
    walk_at "w"
    refine loopV (xs := tvs) (fun d r σ' H' => Ex H H' ∧ H' l = some (.lst tvs) ∧ ∃ md mr, ts = md ++ mr ∧ TabsV H d md ∧ TabsV H r mr ∧ ∃ x y q, σ' = [some (.ref p), some (.str n), some (.ref q), x, y, none] ∧ H q = none ∧ H' q = some (.lst ((mr.foldr reachStep [n]).map V.str)))
      ⟨(Ex.new hq0).trans (Ex.new hl), upd_same, ts, [], by rw [List.append_nil], ht, .nil, _, _, q0, rfl, hq0, ?_⟩ (fun d r σ' H' _ h => SqL.of h.2.1) (fun d y r σ' H' hd h => ?_) (fun σ' H' h => ?_)
    · rw [upd_ne q0l]
      exact upd_same
    · obtain ⟨e', hl', md, mr, ets, pd, pr, x, y0, q, rfl, hq, hq'⟩ := h
      obtain ⟨md1, mt, emd, pd1, pt⟩ := paired_cut pd
      obtain ⟨t, mt1, emt, ⟨a, pc, rfl, ha, hc⟩, pt1⟩ := paired_cons pt
      cases pt1
      subst emt
      subst emd
      have tin : t ∈ ts := by rw [ets]; simp
      have lt := hf.2 t tin
      have lr : mr.length ≤ 20 := by
        have := hf.1
        rw [ets, List.length_append] at this
        omega
      have ha' := e' _ _ ha
      have fl : (mr.foldr reachStep [n]).length ≤ 1 + 20 * mr.length := reach_len (fun t' ht' => hf.2 t' (by rw [ets]; simp [ht'])) n
      walk_at "w"
      refine w_inStr (SqL.of hq') ?_
      walk_at "w"
      have fin : ∀ {H'' : Hp} {q'' : Addr} {z : List Str}, z = reachStep t (mr.foldr reachStep [n]) → Ex H H'' → H'' l = some (.lst tvs) → H q'' = none → H'' q'' = some (.lst (z.map V.str)) →
          (Ex H H'' ∧ H'' l = some (.lst tvs) ∧ ∃ md' mr', ts = md' ++ mr' ∧ TabsV H d md' ∧ TabsV H (.ref a :: r) mr' ∧ ∃ x y q, [some (V.ref p), some (.str n), some (.ref q''), some (.str t.1), some (.ref pc), none] = [some (.ref p), some (.str n), some (.ref q), x, y, none] ∧ H q = none ∧ H'' q = some (.lst ((mr'.foldr reachStep [n]).map V.str))) := fun {H'' q'' z} ez e hl2 hq2 hz =>
        ⟨e, hl2, md1, t :: mr, by rw [ets, List.append_assoc]; rfl, pd1, .cons ⟨a, pc, rfl, ha, hc⟩ pr, _, _, q'', rfl, hq2, by rw [hz, ez]; rfl⟩
      refine iteD (fun h1 => ?_) (fun h1 => ?_)
      · walk_at "w"
        refine ⟨pc, t.2, rfl, (hc.ext e').read, by omega, fun q1 H1 hq1 e1 ⟨lvs, hlv, hcl⟩ => ?_⟩
        walk_at "w"
        intro D hD
        have l1 := paired_len hcl
        have l2 := List.length_filter_le Col.isLink t.2
        have eD : Ex H H1 := e'.trans e1
        refine compQ (t.2.filter Col.isLink) (ColAt H1) (fun c => some c.target) (fun v x => v = V.str x) hD (SqL.of hlv) (by omega) hcl (fun y c hy hm H2 e2 kk kn hk hn => ?_) (fun acc H2 e2 ha2 hp => ?_)
        · obtain ⟨a2, rfl, ha2⟩ := hy
          have ha3 : H2 a2 = some (.tup c.vals) := e2 _ _ ha2
          have hL : c.isLink = true := (List.mem_filter.mp hm).2
          walk_at "w"
          refine w_ixT (SqT.of ha3) (Col.at2 hL) ?_
          exact hk _ _ _ (Ex.refl _) rfl rfl
        · rw [filterMap_some] at hp
          have ev := vals_strs hp
          refine w_cat ((e1.trans e2) _ _ hq') ha2 (Nat.le_trans ?_ (show 100000 ≤ sizeLine by decide)) fun q2 hq2 => ?_
          · rw [ev, List.length_map, List.length_map, List.length_map]
            omega
          · walk_at "w"
            refine fin (z := (mr.foldr reachStep [n]) ++ (t.2.filter Col.isLink).map Col.target) (reachStep_in h1).symm ((eD.trans e2).trans (Ex.new hq2)) ((e1.trans e2).trans (Ex.new hq2) _ _ hl') (Evl.fresh_back (eD.trans e2) hq2) ?_
            rw [upd_same, ev, List.map_append]
      · walk_at "w"
        exact fin (z := mr.foldr reachStep [n]) (reachStep_out h1).symm e' hl' hq hq'
    · obtain ⟨e', hl', md, mr, ets, pd, pr, x, y0, q, rfl, hq, hq'⟩ := h
      cases pd
      have ets : ts = mr := ets
      walk_at "w"
      exact k q H' hq e' (by rw [hq', ets]; rfl)
end
end LP
namespace LP
open PySem L2
open Evl (Ex)
section
variable {base : Heap} {mg : Str → Option Value} {K : PySem.W.Frag} {w : World} {P : Program}
theorem ok_is_heavy {f : Addr} {fd : FuncData} (D : C8.Def K mg "_law_is_heavy" s__law_is_heavy f fd) (b : Binds K fd ["tables", "column"] []) (B : Blt mg)
    (c__law_reach : C8.Cal P w K mg base 2 "_law_reach" (spReach K) []) (c__law_is_listed : C8.Cal P w K mg base 2 "_law_is_listed" (spIsListed K) []) : C8.Cal P w K mg base 3 "_law_is_heavy" (spIsHeavy K) [] := by
  have sc : FnScope ["tables", "column", "leads", "name", "columns"] ["tables", "column"] (C8.fnScope s__law_is_heavy) := C8.fnScope_by (by decide +kernel)
  refine C8.cal0 D b .nil sc (fun vs H Q E h => ?_) (fun cdv A outer s H vs Q E hr h => ?_)
  · obtain ⟨_, _, _, _, rfl, _⟩ := h
    rfl
  · obtain ⟨p, ts, v, c, rfl, hT, hf, ⟨a, rfl, ha⟩, k⟩ := h
    refine ⟨_, (pss_cons (ps_if (pt_cmpR op_ne (pe_ix (ix_tupK (K := K) rfl) (pv 1) pe_int (fun _ _ => rfl)) pe_str (nomark _))
        (pss_one (ps_ret pe_bl))
        pss_nil)
        (pss_cons (ps_set (i := 2) sc.nd rfl (Or.inr rfl) (C8.pe_c c__law_reach hr (by decide) rfl (pa_cons (pv 0) (pa_cons (pe_ix (ix_tupK (K := K) rfl) (pv 1) pe_int (fun _ _ => rfl)) pa_nil))))
        (pss_one (ps_ret (pe_callB (cr_anyK (K := K) rfl rfl) (by rfl) B.any_ (by decide +kernel) (pa_cons (pe_lc (own := [("name", 3), ("columns", 4)]) (by rfl) sc.nd (pi_listK (K := K) rfl (pv 0)) (blkOk_by (own := [("name", 3), ("columns", 4)]) (N := ["tables", "column", "leads", "name", "columns"]) (sc := C8.fnScope s__law_is_heavy) (by decide +kernel)) (fun _ _ _ _ _ => (pg_tupK (K := K) (n := 2) rfl rfl (pgs_cons (pg_name (i := 3) sc.nd rfl (Or.inl rfl)) (pgs_cons (pg_name (i := 4) sc.nd rfl (Or.inl rfl)) pgs_nil)))) (fun _ _ _ _ _ => pts_nil) (fun _ _ _ _ _ => (pe_and (pe_cmpR (op_in_seqK (K := K) rfl) (pv 3) (pv 2) (by rfl)) (pe_one (C8.pe_c c__law_is_listed hr (by decide) rfl (pa_cons (pv 4) pa_nil)))))) pa_nil)))))), ?_⟩
    walk_at "w"
    refine w_ixT (SqT.of ha) c.at0 ?_
    walk_at "w"
    rw [c.kind_link]
    cases hL : c.isLink with
    | false =>
      walk_at "w"
      have e : isHeavy ts c = false := by unfold isHeavy; rw [hL]; rfl
      have z := k _ (Ex.refl _)
      rw [e] at z
      exact z
    | true =>
      walk_at "w"
      refine w_ixT (SqT.of ha) (Col.at2 hL) ?_
      walk_at "w"
      refine ⟨p, ts, c.target, rfl, hT, hf, fun q H1 hq e1 hq1 => ?_⟩
      obtain ⟨tvs, hx, ht⟩ := hT.ext e1
      have ll := paired_len ht
      walk_at "w"
      intro D hD
      have l1 := hf.1
      refine compQ ts (TabAt H1) (fun t => some (decide (t.1 ∈ reach ts c.target) && isListed t.2)) (fun v x => v = V.bl x) hD hx (by omega) ht (fun y t hy hm H2 e2 kk kn hk hn => ?_) (fun acc H2 e2 ha hp => ?_)
      · obtain ⟨a2, pc, rfl, ha2, hc2⟩ := hy
        have ha3 := e2 _ _ ha2
        walk_at "w"
        refine w_inStr (SqL.of (e2 _ _ hq1)) ?_
        walk_at "w"
        refine iteD (fun h => ?_) (fun h => ?_)
        · walk_at "w"
          refine ⟨pc, t.2, rfl, (hc2.ext e2).read, hf.2 t hm, fun H3 e3 => ?_⟩
          refine hk _ _ _ e3 rfl ?_
          rw [decide_eq_true h]
          rfl
        · refine hk _ _ _ (Ex.refl _) rfl ?_
          rw [decide_eq_false h]
          rfl
      · rw [filterMap_some] at hp
        refine w_any (bs := ts.map fun t => decide (t.1 ∈ reach ts c.target) && isListed t.2) (SqL.of (vals_bls hp ▸ ha)) ?_
        have e3 : ((ts.map fun t => decide (t.1 ∈ reach ts c.target) && isListed t.2).any id) = isHeavy ts c := by
          unfold isHeavy
          rw [hL, List.any_map]
          rfl
        rw [e3]
        exact k _ (e1.trans e2)
theorem links_comp {K : PySem.W.Frag} {a0 a1 a3 a4 a5 a6 : Option V} {tg : Str} {cs : List Col} {te : TE} {H : Hp} {Q : VK} (hl : cs.length ≤ 20)
    (hte : ∀ R : VK, (∀ q1 H1, H q1 = none → Ex H H1 → ColsAt H1 q1 (cs.filter Col.isLink) → R (.ref q1) H1) → te [a0, a1, some (.str tg), a3, a4, a5, a6] H R)
    (hQ : ∀ D H2, H D = none → Ex H H2 → H2 D = some (.lst ((linkLists cs tg).map vOpt)) → Q (.ref D) H2) :
    tLc (iList K te) (gName 6) (tTest (tOp rEq (tOp (rIxT K) (tVar 6) (tC (.int 2))) (tVar 2))) (tOp (rIxT K) (tVar 6) (tC (.int 4))) [6] [a0, a1, some (.str tg), a3, a4, a5, a6] H Q := by
  walk_at "w"
  refine hte _ fun q1 H1 hq1 e1 ⟨lvs, hlv, hcl⟩ => ?_
  walk_at "w"
  intro D hD
  have l1 := paired_len hcl
  have l2 := List.length_filter_le Col.isLink cs
  refine compQ (cs.filter Col.isLink) (ColAt H1) (fun c => if decide (c.target = tg) = true then some c.lst else none) (fun v x => v = vOpt x) hD (SqL.of hlv) (by omega) hcl (fun y c hy hm H2 e2 kk kn hk hn => ?_) (fun acc H2 e2 ha2 hp => ?_)
  · obtain ⟨a2, rfl, ha2⟩ := hy
    have ha3 : H2 a2 = some (.tup c.vals) := e2 _ _ ha2
    have hL : c.isLink = true := (List.mem_filter.mp hm).2
    walk_at "w"
    refine w_ixT (SqT.of ha3) (Col.at2 hL) ?_
    walk_at "w"
    rw [show decide (V.str c.target = V.str tg) = decide (c.target = tg) by simp]
    refine iteD (fun h => ?_) (fun h => ?_)
    · walk_at "w"
      refine w_ixT (SqT.of ha3) (Col.at4 hL) ?_
      exact hk _ _ _ (Ex.refl _) (by rw [decide_eq_true h]; rfl) rfl
    · exact hn _ (Ex.refl _) (by rw [decide_eq_false h]; rfl)
  · rw [filterMap_ifm] at hp
    refine hQ D H2 (Evl.fresh_back e1 hD) (e1.trans e2) ?_
    rw [ha2, vals_opts hp]
    unfold linkLists
    rw [List.filter_filter]
    congr 4
    exact List.filter_congr fun c _ => Bool.and_comm _ _
theorem ll_len (cs : List Col) (tg : Str) : (linkLists cs tg).length ≤ cs.length := by
  unfold linkLists
  rw [List.length_map]
  exact List.length_filter_le _ _
theorem ok_names_taken {f : Addr} {fd : FuncData} (D : C8.Def K mg "_law_names_taken" s__law_names_taken f fd) (b : Binds K fd ["tables", "columns", "target"] [])
    (c__law_all_links : C8.Cal P w K mg base 1 "_law_all_links" (spAllLinks K) []) : C8.Cal P w K mg base 2 "_law_names_taken" (spNamesTaken K) [] := by
  have sc : FnScope ["tables", "columns", "target", "found", "name", "others", "column"] ["tables", "columns", "target"] (C8.fnScope s__law_names_taken) := C8.fnScope_by (by decide +kernel)
  refine C8.cal0 D b .nil sc (fun vs H Q E h => ?_) (fun cdv A outer s H vs Q E hr h => ?_)
  · obtain ⟨_, _, _, _, _, rfl, _⟩ := h
    rfl
  · obtain ⟨p, r, ts, cs, tg, rfl, hT, hf, hC, hl, k⟩ := h
    refine ⟨_, (pss_cons (ps_set (i := 3) sc.nd rfl (Or.inl rfl) (pe_lst pa_nil))
        (pss_cons (ps_for PassesOwn.never rfl (pi_listK (K := K) rfl (pv 0)) (pg_tupK (K := K) (n := 2) rfl rfl (pgs_cons (pg_name (i := 4) sc.nd rfl (Or.inl rfl)) (pgs_cons (pg_name (i := 5) sc.nd rfl (Or.inl rfl)) pgs_nil)))
        (pss_cons (ps_set (i := 3) sc.nd rfl (Or.inl rfl) (pe_op op_cat (pv 3) (pe_lc (own := [("column", 6)]) (g := (gName 6)) (by rfl) sc.nd (pi_listK (K := K) rfl (C8.pe_c c__law_all_links hr (by decide) rfl (pa_cons (pv 5) pa_nil))) (blkOk_by (own := [("column", 6)]) (N := ["tables", "columns", "target", "found", "name", "others", "column"]) (sc := C8.fnScope s__law_names_taken) (by decide +kernel)) (fun _ _ _ _ _ => (pg_name (i := 6) sc.nd rfl (Or.inl rfl))) (fun _ _ _ _ _ => pts_one (pt_cmpR op_eq (pe_ix (ix_tupK (K := K) rfl) (pv 6) pe_int (fun _ _ => rfl)) (pv 2) (nomark _))) (fun _ _ _ _ _ => (pe_ix (ix_tupK (K := K) rfl) (pv 6) pe_int (fun _ _ => rfl))))))
        (pss_one (ps_if (pt_cmpR op_eq (pv 4) (pv 2) (nomark _))
        (pss_one (ps_set (i := 3) sc.nd rfl (Or.inl rfl) (pe_op op_cat (pv 3) (pe_lc (own := [("column", 6)]) (g := (gName 6)) (by rfl) sc.nd (pi_listK (K := K) rfl (pv 5)) (blkOk_by (own := [("column", 6)]) (N := ["tables", "columns", "target", "found", "name", "others", "column"]) (sc := C8.fnScope s__law_names_taken) (by decide +kernel)) (fun _ _ _ _ _ => (pg_name (i := 6) sc.nd rfl (Or.inl rfl))) (fun _ _ _ _ _ => pts_nil) (fun _ _ _ _ _ => (pe_ix (ix_tupK (K := K) rfl) (pv 6) pe_int (fun _ _ => rfl)))))))
        pss_nil))))
        (pss_one (ps_ret (pe_op op_cat (pv 3) (pe_lc (own := [("column", 6)]) (g := (gName 6)) (by rfl) sc.nd (pi_listK (K := K) rfl (C8.pe_c c__law_all_links hr (by decide) rfl (pa_cons (pv 1) pa_nil))) (blkOk_by (own := [("column", 6)]) (N := ["tables", "columns", "target", "found", "name", "others", "column"]) (sc := C8.fnScope s__law_names_taken) (by decide +kernel)) (fun _ _ _ _ _ => (pg_name (i := 6) sc.nd rfl (Or.inl rfl))) (fun _ _ _ _ _ => pts_one (pt_cmpR op_eq (pe_ix (ix_tupK (K := K) rfl) (pv 6) pe_int (fun _ _ => rfl)) (pv 2) (nomark _))) (fun _ _ _ _ _ => (pe_ix (ix_tupK (K := K) rfl) (pv 6) pe_int (fun _ _ => rfl))))))))), ?_⟩
    obtain ⟨tvs, hx, ht⟩ := hT
    walk_at "w"
    intro q0 hq0
    have hx0 : SqL K (upd H q0 (.lst [])) p tvs := Evl.ex_l (Ex.new hq0) hx
    walk_at "w"
    have ll := paired_len ht
    have l1 := hf.1
    refine loopL (xs := tvs) (fun d r' σ' H' => Ex H H' ∧ ∃ md mr, ts = md ++ mr ∧ TabsV H d md ∧ TabsV H r' mr ∧ ∃ x y q, σ' = [some (.ref p), some (.ref r), some (.str tg), some (.ref q), x, y, none] ∧ H q = none ∧ H' q = some (.lst ((md.flatMap (takenStep tg)).map vOpt)))
      ⟨Ex.new hq0, [], ts, rfl, .nil, ht, _, _, q0, rfl, hq0, (by exact upd_same)⟩ (fun d r σ' H' _ h => Evl.ex_l h.1 hx) (fun d y r' σ' H' hd h => ?_) (fun σ' H' h => ?_)
    · obtain ⟨e', md, mr, ets, pd, pr, x, y0, q, rfl, hq, hq'⟩ := h
      obtain ⟨t, mr1, emr, ⟨a, pc, rfl, ha, hc⟩, pr1⟩ := paired_cons pr
      subst emr
      have tin : t ∈ ts := by rw [ets]; simp
      have lt := hf.2 t tin
      have ha' := e' _ _ ha
      have lm : md.length ≤ 20 := by
        rw [ets, List.length_append] at l1
        omega
      have fl := taken_len tg (ts := md) (fun t' ht' => hf.2 t' (by rw [ets]; simp [ht']))
      have lk := ll_len t.2 tg
      have sz : ∀ m : Nat, m ≤ 100000 → m ≤ sizeLine := fun m h => Nat.le_trans h (by decide)
      walk_at "ws"
      refine links_comp (cs := t.2) lt (fun R hR => ?_) (fun D H2 hD e2 ha2 => ?_)
      · walk_at "w"
        exact ⟨pc, t.2, rfl, (hc.ext e').read, lt, hR⟩
      · refine w_cat (e2 _ _ hq') ha2 (sz _ (by rw [List.length_map, List.length_map]; omega)) fun q2 hq2 => ?_
        rw [← List.map_append]
        have e3 : Ex H (upd H2 q2 (.lst (((md.flatMap (takenStep tg)) ++ linkLists t.2 tg).map vOpt))) := (e'.trans e2).trans (Ex.new hq2)
        have hq2' : H q2 = none := Evl.fresh_back (e'.trans e2) hq2
        walk_at "w"
        rw [show decide (V.str t.1 = V.str tg) = decide (t.1 = tg) by simp]
        refine iteD (fun h1 => ?_) (fun h1 => ?_)
        · obtain ⟨cvs, hcv, hcl⟩ := hc
          have hcv' := e3 _ _ hcv
          have l3 := paired_len hcl
          walk_at "w"
          intro D2 hD2
          refine compQ t.2 (ColAt H) (fun c => some (some c.name)) (fun v x => v = vOpt x) hD2 (SqL.of hcv') (by omega) hcl (fun y c hy hm H4 e4 kk kn hk hn => ?_) (fun acc H4 e4 ha4 hp4 => ?_)
          · obtain ⟨a4, rfl, ha4⟩ := hy
            have ha5 : H4 a4 = some (.tup c.vals) := (e3.trans e4) _ _ ha4
            walk_at "w"
            refine w_ixT (SqT.of ha5) c.at1 ?_
            exact hk _ _ _ (Ex.refl _) rfl rfl
          · rw [filterMap_some] at hp4
            have ev := vals_opts hp4
            refine w_cat (e4 _ _ upd_same) ha4 (sz _ (by rw [ev, List.length_map, List.length_map, List.length_map, List.length_append]; omega)) fun q3 hq3 => ?_
            walk_at "w"
            refine ⟨(e3.trans e4).trans (Ex.new hq3), md ++ [t], mr1, by rw [ets, List.append_assoc]; rfl, paired_app pd (.cons ⟨a, pc, rfl, ha, ⟨cvs, hcv, hcl⟩⟩ .nil), pr1, _, _, q3, rfl, Evl.fresh_back (e3.trans e4) hq3, ?_⟩
            rw [upd_same, ev, ← List.map_append, List.flatMap_append, List.append_assoc]
            congr 4
            rw [List.flatMap_cons, List.flatMap_nil, List.append_nil]
            unfold takenStep
            rw [if_pos h1]
        · walk_at "w"
          refine ⟨e3, md ++ [t], mr1, by rw [ets, List.append_assoc]; rfl, paired_app pd (.cons ⟨a, pc, rfl, ha, hc⟩ .nil), pr1, _, _, q2, rfl, hq2', ?_⟩
          rw [upd_same, List.flatMap_append, List.flatMap_cons, List.flatMap_nil, List.append_nil]
          unfold takenStep
          rw [if_neg h1, List.append_nil]
    · obtain ⟨e', md, mr, ets, pd, pr, x, y0, q, rfl, hq, hq'⟩ := h
      cases pr
      rw [List.append_nil] at ets
      subst ets
      have fl := taken_len tg (ts := ts) hf.2
      have lk := ll_len cs tg
      walk_at "ws"
      refine links_comp (cs := cs) hl (fun R hR => ?_) (fun D H2 hD e2 ha2 => ?_)
      · walk_at "w"
        exact ⟨r, cs, rfl, hC.ext e', hl, hR⟩
      · refine w_cat (e2 _ _ hq') ha2 (Nat.le_trans (m := 100000) (by rw [List.length_map, List.length_map]; omega) (by decide)) fun q2 hq2 => ?_
        refine k q2 _ (Evl.fresh_back (e'.trans e2) hq2) ((e'.trans e2).trans (Ex.new hq2)) ?_
        rw [upd_same, ← List.map_append]
        rfl
end
end LP
namespace LP
open PySem L2
open Evl (Ex)
section
variable {base : Heap} {mg : Str → Option Value} {K : PySem.W.Frag} {w : World} {P : Program}
theorem ok_allowed {f : Addr} {fd : FuncData} (D : C8.Def K mg "_law_allowed" s__law_allowed f fd) (b : Binds K fd ["tables", "columns"] []) (B : Blt mg)
    (c__law_all_links : C8.Cal P w K mg base 1 "_law_all_links" (spAllLinks K) []) (c__law_is_heavy : C8.Cal P w K mg base 3 "_law_is_heavy" (spIsHeavy K) []) : C8.Cal P w K mg base 4 "_law_allowed" (spAllowed K) [] := by
  have sc : FnScope ["tables", "columns", "listed", "column", "found"] ["tables", "columns"] (C8.fnScope s__law_allowed) := C8.fnScope_by (by decide +kernel)
  refine C8.cal0 D b .nil sc (fun vs H Q E h => ?_) (fun cdv A outer s H vs Q E hr h => ?_)
  · obtain ⟨_, _, _, _, rfl, _⟩ := h
    rfl
  · obtain ⟨p, r, ts, cs, rfl, hT, hf, ⟨cvs, hcv, hcc⟩, hl, hok, k⟩ := h
    refine ⟨_, (pss_cons (ps_setLc (i := 2) (own := [("column", 3)]) (g := (gName 3)) (by rfl) sc.nd rfl rfl (sw_true rfl rfl rfl (by decide +kernel)) (pi_listK (K := K) rfl (C8.pe_c c__law_all_links hr (by decide) rfl (pa_cons (pv 1) pa_nil))) (blkOk_by (own := [("column", 3)]) (N := ["tables", "columns", "listed", "column", "found"]) (sc := C8.fnScope s__law_allowed) (by decide +kernel)) (fun _ _ _ _ _ => (pg_name (i := 3) sc.nd rfl (Or.inl rfl))) (fun _ _ _ _ _ => pts_one (pt_cmpR op_notN' (pe_ix (ix_tupK (K := K) rfl) (pv 3) pe_int (fun _ _ => rfl)) pe_non (nomark _))) (fun _ _ _ _ _ => (pv 3)))
        (pss_cons (ps_if (PW.pt (pw_or (pt_cmpR (op_eqDK (K := K) rfl (hu64 hr)) (pv 2) (pe_lst pa_nil) (nomark _)) (pw_or1 (pt_not (pt_val (pe_callB (cr_anyK (K := K) rfl rfl) (by rfl) B.any_ (by decide +kernel) (pa_cons (pe_lc (own := [("column", 3)]) (g := (gName 3)) (by rfl) sc.nd (pi_listK (K := K) rfl (pv 1)) (blkOk_by (own := [("column", 3)]) (N := ["tables", "columns", "listed", "column", "found"]) (sc := C8.fnScope s__law_allowed) (by decide +kernel)) (fun _ _ _ _ _ => (pg_name (i := 3) sc.nd rfl (Or.inl rfl))) (fun _ _ _ _ _ => pts_nil) (fun _ _ _ _ _ => (C8.pe_c c__law_is_heavy hr (by decide) rfl (pa_cons (pv 0) (pa_cons (pv 3) pa_nil))))) pa_nil)))))))
        (pss_one (ps_ret (pv 1)))
        pss_nil)
        (pss_cons (ps_set (i := 4) sc.nd rfl (Or.inl rfl) (pe_lst pa_nil))
        (pss_cons (ps_for PassesOwn.never rfl (pi_listK (K := K) rfl (pv 1)) (pg_name (i := 3) sc.nd rfl (Or.inl rfl))
        (pss_one (ps_if (PW.pt (pw_or (pt_cmpR op_ne (pe_ix (ix_tupK (K := K) rfl) (pv 3) pe_int (fun _ _ => rfl)) pe_str (nomark _)) (pw_or1 (pt_cmpR (op_eqDK (K := K) rfl (hu64 hr)) (pv 3) (pe_ix (ix_listK (K := K) rfl) (pv 2) pe_int (fun _ _ => rfl)) (nomark _)))))
        (pss_one (ps_expr (pe_bmK (K := K) rfl PySem.F.plainAttrs_list PySem.F.slot_list_append PySem.F.type_list_append mt_append (pv 4) (pa_cons (pv 3) pa_nil))))
        (pss_one (ps_if (pt_not (pt_val (C8.pe_c c__law_is_heavy hr (by decide) rfl (pa_cons (pv 0) (pa_cons (pv 3) pa_nil)))))
        (pss_one (ps_expr (pe_bmK (K := K) rfl PySem.F.plainAttrs_list PySem.F.slot_list_append PySem.F.type_list_append mt_append (pv 4) (pa_cons (pe_tup (pa_cons pe_str (pa_cons (pe_ix (ix_tupK (K := K) rfl) (pv 3) pe_int (fun _ _ => rfl)) (pa_cons (pe_ix (ix_tupK (K := K) rfl) (pv 3) pe_int (fun _ _ => rfl)) (pa_cons (pe_ix (ix_tupK (K := K) rfl) (pv 3) pe_int (fun _ _ => rfl)) (pa_cons pe_non pa_nil)))))) pa_nil))))
        pss_nil)))))
        (pss_one (ps_ret (pv 4))))))), ?_⟩
    walk_at "w"
    refine ⟨r, cs, rfl, ⟨cvs, SqL.of hcv, hcc⟩, hl, fun q1 H1 hq1 e1 ⟨lvs, hlv, hcl⟩ => ?_⟩
    have l1 := paired_len hcl
    have l2 := List.length_filter_le Col.isLink cs
    walk_at "w"
    intro D hD
    refine compQ (cs.filter Col.isLink) (ColAt H1) (fun c => if c.lst.isSome = true then some c else none) (ColAt H1) hD (SqL.of hlv) (by omega) hcl (fun y c hy hm H2 e2 kk kn hk hn => ?_) (fun acc H2 e2 hacc hp => ?_)
    · obtain ⟨a2, rfl, ha2⟩ := hy
      have ha3 : H2 a2 = some (.tup c.vals) := e2 _ _ ha2
      have hL : c.isLink = true := (List.mem_filter.mp hm).2
      walk_at "w"
      refine w_ixT (SqT.of ha3) (Col.at4 hL) ?_
      walk_at "w"
      rw [vOpt_non]
      refine iteB (fun h => ?_) (fun h => ?_)
      · walk_at "w"
        exact hk _ c _ (Ex.refl _) (by rw [if_pos h]) ⟨a2, rfl, ha2⟩
      · exact hn _ (Ex.refl _) (by rw [h]; rfl)
    · rw [filterMap_if, listed_link] at hp
      have e02 := e1.trans e2
      have okL : ∀ c ∈ listedOf cs, c.Ok := fun c hc => hok c (List.mem_filter.mp hc).1
      have hp2 : ColsV H2 acc (listedOf cs) := ColsV.ext e2 hp
      have hcv2 : H2 r = some (.lst cvs) := e02 _ _ hcv
      walk_at "w"
      intro q3 hq3
      have e23 : Ex H2 (upd H2 q3 (.lst [])) := Ex.new hq3
      refine ⟨.list ((listedOf cs).map Col.data), .list [], .lst (SqL.of (e23 _ _ hacc)) (ColsV.dp (ColsV.ext e23 hp2)), .lst (SqL.of upd_same) .nil, shapedL_cols okL, shaped_nil, ?_⟩
      rw [eqv_nil]
      have e03 : Ex H (upd H2 q3 (.lst [])) := e02.trans e23
      generalize (upd H2 q3 (.lst [])) = H3 at e23 e03 ⊢
      have back : ∀ {H' : Hp}, Ex H H' → allowed ts cs = cs → ColsAt H' r (allowed ts cs) := fun e ea => by
        rw [ea]
        exact ⟨cvs, e _ _ hcv, ColsV.ext e hcc⟩
      cases eL : listedOf cs with
      | nil =>
        rw [List.isEmpty_nil]
        walk_at "w"
        exact k r H3 e03 (back e03 (by unfold allowed; rw [eL]))
      | cons first rest =>
        rw [List.isEmpty_cons]
        rw [eL] at hp2
        have hok1 : first.Ok := okL first (by rw [eL]; exact List.mem_cons_self)
        have hcv3 : H3 r = some (.lst cvs) := e23 _ _ hcv2
        have hx3 : SqL K H3 r cvs := SqL.of hcv3
        have lc := paired_len hcc
        walk_at "w"
        intro D2 hD2
        refine compQ cs (ColAt H) (fun c => some (isHeavy ts c)) (fun v x => v = V.bl x) hD2 hx3 (by omega) hcc (fun y c hy hm H4 e4 kk kn hk hn => ?_) (fun acc2 H4 e4 hacc2 hp4 => ?_)
        · walk_at "w"
          exact ⟨p, ts, y, c, rfl, hT.ext (e03.trans e4), hf, hy.ext (e03.trans e4), fun H5 e5 => hk _ _ _ e5 rfl rfl⟩
        · rw [filterMap_some] at hp4
          walk_at "w"
          refine w_any (bs := cs.map (isHeavy ts)) (SqL.of (vals_bls hp4 ▸ hacc2)) ?_
          rw [show (cs.map (isHeavy ts)).any id = cs.any (isHeavy ts) by rw [List.any_map]; rfl]
          have e04 := e03.trans e4
          cases eA : cs.any (isHeavy ts) with
          | false =>
            walk_at "w"
            exact k r H4 e04 (back e04 (by unfold allowed; rw [eL]; show (if cs.any (isHeavy ts) = true then _ else cs) = cs; rw [eA]; rfl))
          | true =>
            walk_at "w"
            intro qf hqf
            have e45 : Ex H4 (upd H4 qf (.lst [])) := Ex.new hqf
            have hcv5 : SqL K (upd H4 qf (.lst [])) r cvs := SqL.of ((e04.trans e45) _ _ hcv)
            have hqH : H qf = none := Evl.fresh_back e04 hqf
            have e2f : Ex H2 H4 := e23.trans e4
            have hq2 : H2 qf = none := Evl.fresh_back e2f hqf
            walk_at "w"
            refine loopL (xs := cvs) (fun d r' σ' H' => Ex H2 H' ∧ ∃ md mr fvs x, cs = md ++ mr ∧ ColsV H d md ∧ ColsV H r' mr ∧ σ' = [some (.ref p), some (.ref r), some (.ref D), x, some (.ref qf)] ∧ H' qf = some (.lst fvs) ∧ ColsV H' fvs (md.filterMap (allowStep ts first)))
              ⟨e2f.trans e45, [], cs, [], _, rfl, .nil, hcc, rfl, (by exact upd_same), .nil⟩ (fun d r' σ' H' _ h => SqL.of (h.1 _ _ hcv2)) (fun d y r' σ' H' hd h => ?_) (fun σ' H' h => ?_)
            · obtain ⟨e', md, mr, fvs, x, ecs, pd, pr, rfl, hqf', hff⟩ := h
              obtain ⟨c, mr1, emr, hy, pr1⟩ := paired_cons pr
              subst emr
              have cin : c ∈ cs := by rw [ecs]; simp
              have e0' : Ex H H' := e02.trans e'
              obtain ⟨a, rfl, ha⟩ := id hy
              have ha' := e0' _ _ ha
              have lf : fvs.length ≤ 20 := by
                have h1 := paired_len hff
                have h2 := List.length_filterMap_le (allowStep ts first) md
                have h3 : cs.length = md.length + (mr1.length + 1) := by rw [ecs, List.length_append, List.length_cons]
                omega
              have fin : ∀ {H'' : Hp} {fvs' : List V}, Ex H2 H'' → H'' qf = some (.lst fvs') → ColsV H'' fvs' (md.filterMap (allowStep ts first) ++ (allowStep ts first c).toList) →
                  (Ex H2 H'' ∧ ∃ md' mr' fvs x, cs = md' ++ mr' ∧ ColsV H (d ++ [V.ref a]) md' ∧ ColsV H r' mr' ∧ [some (.ref p), some (.ref r), some (.ref D), some (.ref a), some (.ref qf)] = [some (V.ref p), some (.ref r), some (.ref D), x, some (.ref qf)] ∧ H'' qf = some (.lst fvs) ∧ ColsV H'' fvs (md'.filterMap (allowStep ts first))) := fun {H'' fvs'} e hq hc =>
                ⟨e, md ++ [c], mr1, fvs', _, by rw [ecs, List.append_assoc]; rfl, paired_app pd (.cons hy .nil), pr1, rfl, hq, by
                  rw [List.filterMap_append]
                  cases ea : allowStep ts first c with
                  | none =>
                    rw [List.filterMap_cons_none ea, List.filterMap_nil]
                    rw [ea] at hc
                    exact hc
                  | some c' =>
                    rw [List.filterMap_cons_some ea, List.filterMap_nil]
                    rw [ea] at hc
                    exact hc⟩
              have keep : allowStep ts first c = some c → (Ex H2 (upd H' qf (.lst (fvs ++ [.ref a]))) ∧ ∃ md' mr' fvz x, cs = md' ++ mr' ∧ ColsV H (d ++ [V.ref a]) md' ∧ ColsV H r' mr' ∧ [some (.ref p), some (.ref r), some (.ref D), some (.ref a), some (.ref qf)] = [some (V.ref p), some (.ref r), some (.ref D), x, some (.ref qf)] ∧ (upd H' qf (.lst (fvs ++ [.ref a]))) qf = some (.lst fvz) ∧ ColsV (upd H' qf (.lst (fvs ++ [.ref a]))) fvz (md'.filterMap (allowStep ts first))) := fun ea =>
                fin (e'.mut hq2) upd_same (by rw [ea]; exact paired_app (ColsV.upd hqf' hff) (.cons (ColAt.upd hqf' ⟨a, rfl, ha'⟩) .nil))
              walk_at "w"
              refine w_ixT (SqT.of ha') c.at0 ?_
              walk_at "w"
              rw [c.kind_link]
              cases hL : c.isLink with
              | false =>
                walk_at "w"
                exact keep (by unfold allowStep; rw [if_pos (.inl hL)])
              | true =>
                obtain ⟨v1, accr, rfl⟩ : ∃ v1 accr, acc = v1 :: accr := by
                  cases hp2 with
                  | cons => exact ⟨_, _, rfl⟩
                obtain ⟨_, _, ef, hv1, _⟩ := paired_cons hp2
                cases ef
                have hacc' : H' D = some (.lst (v1 :: accr)) := e' _ _ hacc
                walk_at "w"
                refine w_ixL (SqL.of hacc') (atI_nat (j := 0) rfl) ?_
                refine ⟨c.data, first.data, ColAt.dp ⟨a, rfl, ha'⟩, ColAt.dp (ColAt.ext e' hv1), Col.shaped (hok c cin), Col.shaped hok1, ?_⟩
                rw [Col.eqv]
                walk_at "w"
                refine iteD (fun h1 => ?_) (fun h1 => ?_)
                · walk_at "w"
                  exact keep (by unfold allowStep; rw [if_pos (.inr h1)])
                · walk_at "w"
                  refine ⟨p, ts, .ref a, c, rfl, hT.ext e0', hf, ⟨a, rfl, ha'⟩, fun H5 e5 => ?_⟩
                  have hqf5 := e5 _ _ hqf'
                  have no : ¬ (c.isLink = false ∨ c = first) := fun z => z.elim (fun z => by rw [hL] at z; cases z) h1
                  cases eh : isHeavy ts c with
                  | true =>
                    walk_at "w"
                    exact fin (e'.trans e5) hqf5 (by unfold allowStep; rw [if_neg no, if_pos eh]; show ColsV H5 fvs (_ ++ []); rw [List.append_nil]; exact hff.ext e5)
                  | false =>
                    have ha5 := e5 _ _ ha'
                    walk_at "w"
                    refine w_ixT (SqT.of ha5) c.at1 ?_
                    walk_at "w"
                    refine w_ixT (SqT.of ha5) (Col.at2 hL) ?_
                    walk_at "w"
                    refine w_ixT (SqT.of ha5) (Col.at3 hL) ?_
                    walk_at "w"
                    intro pt hpt
                    have hqf6 : (upd H5 pt (.tup [.str "link", .str c.name, .str c.target, .bl c.opt, .non])) qf = some (.lst fvs) := (Ex.new hpt) _ _ hqf5
                    walk_at "w"
                    refine fin ((e'.trans (e5.trans (Ex.new hpt))).mut hq2) upd_same ?_
                    unfold allowStep
                    rw [if_neg no, if_neg (by rw [eh]; exact Bool.false_ne_true)]
                    refine paired_app (ColsV.upd hqf6 (hff.ext (e5.trans (Ex.new hpt)))) (.cons (ColAt.upd hqf6 ⟨pt, rfl, ?_⟩) .nil)
                    rw [upd_same]
                    cases c with
                    | link n t o l => rfl
                    | plain f n => cases hL
                    | word n o => cases hL
            · obtain ⟨e', md, mr, fvs, x, ecs, pd, pr, rfl, hqf', hff⟩ := h
              cases pr
              rw [List.append_nil] at ecs
              subst ecs
              walk_at "w"
              refine k qf H' (e02.trans e') ⟨fvs, hqf', ?_⟩
              rw [show allowed ts cs = cs.filterMap (allowStep ts first) by unfold allowed; rw [eL]; show (if cs.any (isHeavy ts) = true then _ else cs) = _; rw [eA]; rfl]
              exact hff
end
end LP
namespace LP
open PySem L2
open Evl (Ex)
def vIdx : Option Nat → V
  | none => .non
  | some i => .int (i : Nat)
def spBroken (K : PySem.W.Frag) : Sp := fun vs H Q _ => ∃ (p r : Addr) (td : Tabs) (cs : List Col), vs = [.ref p, .ref r] ∧ TabsR K H p td ∧ Few td ∧ GoodTabs td ∧ ColsR K H r cs ∧ cs.length ≤ 20 ∧ (∀ c ∈ cs, c.Ok) ∧ ∀ H', Ex H H' → Q (vIdx (brk td cs)) H'
theorem brk_law {td : Tabs} {cs : List Col} (g : GoodTabs td) : brk td cs = cs.findIdx? (lawC td cs) := by
  unfold brk
  have key : ∀ (l : List Col), (∀ c ∈ l, lawC td cs c = brkC td cs c) → l.findIdx? (brkC td cs) = l.findIdx? (lawC td cs) := fun l => by
    induction l with
    | nil => exact fun _ => rfl
    | cons c r ih =>
      intro h
      rw [List.findIdx?_cons, List.findIdx?_cons, h c List.mem_cons_self, ih fun x hx => h x (List.mem_cons_of_mem _ hx)]
  exact key cs (law_brk g)
theorem law_mid {td : Tabs} {cs md mr : List Col} {c : Col} (e : cs = md ++ c :: mr) (h1 : ∀ x ∈ md, lawC td cs x = false) (h2 : lawC td cs c = true) : cs.findIdx? (lawC td cs) = some md.length := by
  rw [List.findIdx?_eq_some_iff_getElem]
  refine ⟨by rw [e]; simp, ?_, fun j hj => ?_⟩
  · have : cs[md.length]'(by rw [e]; simp) = c := by simp [e]
    rw [this]
    exact h2
  · have : cs[j]'(by rw [e]; simp; omega) = md[j] := by
      simp only [e]
      exact List.getElem_append_left hj
    rw [this, h1 _ (List.getElem_mem hj)]
    exact Bool.false_ne_true
section
variable {base : Heap} {mg : Str → Option Value} {K : PySem.W.Frag} {w : World} {P : Program}
theorem ok_broken {f : Addr} {fd : FuncData} (D : C8.Def K mg "_law_broken" s__law_broken f fd) (b : Binds K fd ["tables", "columns"] []) (B : Blt mg)
    (c__law_all_links : C8.Cal P w K mg base 1 "_law_all_links" (spAllLinks K) []) (c__law_is_heavy : C8.Cal P w K mg base 3 "_law_is_heavy" (spIsHeavy K) []) : C8.Cal P w K mg base 4 "_law_broken" (spBroken K) [] := by
  have sc : FnScope ["tables", "columns", "listed", "column", "at"] ["tables", "columns"] (C8.fnScope s__law_broken) := C8.fnScope_by (by decide +kernel)
  refine C8.cal0 D b .nil sc (fun vs H Q E h => ?_) (fun cdv A outer s H vs Q E hr h => ?_)
  · obtain ⟨_, _, _, _, rfl, _⟩ := h
    rfl
  · obtain ⟨p, r, td, cs, rfl, hT, hf, hg, ⟨cvs, hcv, hcc⟩, hl, hok, k⟩ := h
    rw [brk_law hg] at k
    refine ⟨_, (pss_cons (ps_setLc (i := 2) (own := [("column", 3)]) (g := (gName 3)) (by rfl) sc.nd rfl rfl (sw_true rfl rfl rfl (by decide +kernel)) (pi_listK (K := K) rfl (C8.pe_c c__law_all_links hr (by decide) rfl (pa_cons (pv 1) pa_nil))) (blkOk_by (own := [("column", 3)]) (N := ["tables", "columns", "listed", "column", "at"]) (sc := C8.fnScope s__law_broken) (by decide +kernel)) (fun _ _ _ _ _ => (pg_name (i := 3) sc.nd rfl (Or.inl rfl))) (fun _ _ _ _ _ => pts_one (pt_cmpR op_notN' (pe_ix (ix_tupK (K := K) rfl) (pv 3) pe_int (fun _ _ => rfl)) pe_non (nomark _))) (fun _ _ _ _ _ => (pv 3)))
        (pss_cons (ps_for PassesOwn.never rfl (pi_enumK (K := K) rfl (by rfl) B.enumerate_ (pa_cons (pv 1) pa_nil)) (pg_tupK (K := K) (n := 2) rfl rfl (pgs_cons (pg_name (i := 4) sc.nd rfl (Or.inl rfl)) (pgs_cons (pg_name (i := 3) sc.nd rfl (Or.inl rfl)) pgs_nil)))
        (pss_one (ps_if (PW.pt (pw_and (pt_cmpR (op_neDK (K := K) rfl (hu64 hr)) (pv 2) (pe_lst pa_nil) (nomark _)) (pw_and (pt_val (C8.pe_c c__law_is_heavy hr (by decide) rfl (pa_cons (pv 0) (pa_cons (pv 3) pa_nil)))) (pw_and1 (PW.pt (pw_or (pt_cmpR op_isN' (pe_ix (ix_tupK (K := K) rfl) (pv 3) pe_int (fun _ _ => rfl)) pe_non (nomark _)) (pw_or1 (pt_cmpR op_gt (pe_callB (call_len_seqK (K := K) rfl) (by rfl) B.len_ (by decide +kernel) (pa_cons (pv 2) pa_nil)) pe_int (nomark _)))))))))
        (pss_one (ps_ret (pv 4)))
        pss_nil)))
        (pss_one (ps_ret pe_non)))), ?_⟩
    walk_at "w"
    refine ⟨r, cs, rfl, ⟨cvs, hcv, hcc⟩, hl, fun q1 H1 hq1 e1 ⟨lvs, hlv, hcl⟩ => ?_⟩
    have l1 := paired_len hcl
    have l2 := List.length_filter_le Col.isLink cs
    walk_at "w"
    intro D hD
    refine compQ (cs.filter Col.isLink) (ColAt H1) (fun c => if c.lst.isSome = true then some c else none) (ColAt H1) hD (SqL.of hlv) (by omega) hcl (fun y c hy hm H2 e2 kk kn hk hn => ?_) (fun acc H2 e2 hacc hp => ?_)
    · obtain ⟨a2, rfl, ha2⟩ := hy
      have ha3 : H2 a2 = some (.tup c.vals) := e2 _ _ ha2
      have hL : c.isLink = true := (List.mem_filter.mp hm).2
      walk_at "w"
      refine w_ixT (SqT.of ha3) (Col.at4 hL) ?_
      walk_at "w"
      rw [vOpt_non]
      refine iteB (fun h => ?_) (fun h => ?_)
      · walk_at "w"
        exact hk _ c _ (Ex.refl _) (by rw [if_pos h]) ⟨a2, rfl, ha2⟩
      · exact hn _ (Ex.refl _) (by rw [h]; rfl)
    · rw [filterMap_if, listed_link] at hp
      have e02 := e1.trans e2
      have okL : ∀ c ∈ listedOf cs, c.Ok := fun c hc => hok c (List.mem_filter.mp hc).1
      have hp2 : ColsV H2 acc (listedOf cs) := ColsV.ext e2 hp
      have hcv2 := Evl.ex_l e02 hcv
      have lx := paired_len hcc
      have lac := paired_len hp2
      have la := List.length_filter_le (fun c : Col => c.lst.isSome) cs
      walk_at "w"
      refine loopE (xs := cvs) (fun d r' σ' H' => (∃ x3 x4, σ' = [some (.ref p), some (.ref r), some (.ref D), x3, x4]) ∧ Ex H2 H' ∧ ∀ md mr, cs = md ++ mr → md.length = d.length → ∀ x ∈ md, lawC td cs x = false) ⟨⟨_, _, rfl⟩, Ex.refl _, fun md mr _ e x hx => by rw [List.eq_nil_of_length_eq_zero e] at hx; cases hx⟩ (fun d r' σ' H' e h => ?_) (fun d y r' σ' H' Tp e hTp h => ?_) (fun σ' H' h => ?_)
      · exact Evl.ex_l h.2.1 hcv2
      · obtain ⟨⟨x3, x4, rfl⟩, ex, old⟩ := h
        obtain ⟨md, mr0, ecs, pd, pr⟩ := paired_cut (d := d) (r := y :: r') (m := cs) (by rw [e]; exact hcc)
        obtain ⟨c, mr, rfl, hy, _⟩ := paired_cons pr
        have lmd := (paired_len pd).symm
        have hmc : c ∈ cs := by rw [ecs]; simp
        have oldd := old md (c :: mr) ecs lmd
        have next : lawC td cs c = false → ∀ md' mr', cs = md' ++ mr' → md'.length = (d ++ [y]).length → ∀ x ∈ md', lawC td cs x = false := fun hb md' mr' e' l' x hx => by
          have e2 : md' = md ++ [c] := by
            have q : md' ++ mr' = (md ++ [c]) ++ mr := by rw [← e', ecs]; simp
            exact (List.append_inj q (by rw [l', List.length_append, List.length_append, lmd]; rfl)).1
          rw [e2] at hx
          rcases List.mem_append.1 hx with hx | hx
          · exact oldd x hx
          · rw [List.mem_singleton.1 hx]; exact hb
        have exT : Ex H2 (L2.upd H' Tp (.tup [.int (d.length : Nat), y])) := ex.trans (Ex.new hTp)
        have hTt : (L2.upd H' Tp (.tup [.int (d.length : Nat), y])) Tp = some (.tup [.int (d.length : Nat), y]) := upd_same
        generalize (L2.upd H' Tp (.tup [.int (d.length : Nat), y])) = H3 at exT hTt ⊢
        have hacc3 := exT _ _ hacc
        walk_at "w"
        intro q3 hq3
        have e34 : Ex H3 (upd H3 q3 (.lst [])) := Ex.new hq3
        have fq3 : (upd H3 q3 (.lst [])) q3 = some (.lst []) := upd_same
        generalize (upd H3 q3 (.lst [])) = H4 at e34 fq3 ⊢
        have ex4 : Ex H2 H4 := exT.trans e34
        refine ⟨.list ((listedOf cs).map Col.data), .list [], .lst (SqL.of (e34 _ _ hacc3)) (ColsV.dp (ColsV.ext ex4 hp2)), .lst (SqL.of fq3) .nil, shapedL_cols okL, shaped_nil, ?_⟩
        rw [eqv_nil]
        have hy4 : ColAt H4 y c := (hy.ext e02).ext ex4
        have hacc4 := e34 _ _ hacc3
        have bq : lawC td cs c = (!(listedOf cs).isEmpty && (isHeavy td c && (c.lst.isNone || decide (1 < (listedOf cs).length)))) := rfl
        walk_at "w"
        cases em : (listedOf cs).isEmpty with
        | true =>
          refine iteF ?_
          walk_at "w"
          exact ⟨⟨_, _, rfl⟩, ex4, next (by rw [bq, em]; rfl)⟩
        | false =>
          refine iteT ?_
          walk_at "w"
          refine ⟨p, td, y, c, rfl, (hT.ext e02).ext ex4, hf, hy4, fun H5 e5 => ?_⟩
          walk_at "w"
          refine iteB (fun hh => ?_) (fun hh => ?_)
          · have hL : c.isLink = true := by
              unfold isHeavy at hh
              rw [Bool.and_eq_true] at hh
              exact hh.1
            obtain ⟨ca, rfl, hca⟩ := hy4
            have hca5 := e5 _ _ hca
            have hacc5 := e5 _ _ hacc4
            walk_at "w"
            refine w_ixT (SqT.of hca5) (Col.at4 hL) ?_
            walk_at "w"
            have fin : lawC td cs c = true → ∀ H', Ex H H' → Q (.int (d.length : Nat)) H' := fun hb H' e' => by
              have z := law_mid ecs oldd hb
              rw [lmd] at z
              rw [z] at k
              exact k H' e'
            have e05 := e02.trans (ex4.trans e5)
            cases el : c.lst with
            | none =>
              refine iteD (fun _ => ?_) (fun h => absurd rfl h)
              walk_at "w"
              exact fin (by rw [bq, em, hh, el]; rfl) _ e05
            | some l =>
              refine iteD (fun h => by cases h) (fun _ => ?_)
              walk_at "w"
              rw [lac]
              refine iteD (fun hb => ?_) (fun hb => ?_)
              · walk_at "w"
                exact fin (by rw [bq, em, hh, el, decide_eq_true (by omega : 1 < (listedOf cs).length)]; rfl) _ e05
              · walk_at "w"
                exact ⟨⟨_, _, rfl⟩, ex4.trans e5, next (by rw [bq, em, hh, el, decide_eq_false (by omega : ¬ 1 < (listedOf cs).length)]; rfl)⟩
          · walk_at "w"
            exact ⟨⟨_, _, rfl⟩, ex4.trans e5, next (by rw [bq, hh]; simp)⟩
      · obtain ⟨⟨x3, x4, rfl⟩, ex, old⟩ := h
        walk_at "w"
        have z : cs.findIdx? (lawC td cs) = none := by
          rw [List.findIdx?_eq_none_iff]
          exact old cs [] (by simp) lx.symm
        rw [z] at k
        exact k H' (e02.trans ex)
end
end LP
namespace LP
open PySem L2
open Evl (Ex)
/-! ### the columns of any values -/
def colOf : PyData → Option Col
  | .tuple [.str k, .str n] => if k = "flag" then some (.plain true n) else if k = "number" then some (.plain false n) else none
  | .tuple [.str k, .str n, .bool o] => if k = "word" then some (.word n o) else none
  | .tuple [.str k, .str n, .str t, .bool o, .none] => if k = "link" then some (.link n t o none) else none
  | .tuple [.str k, .str n, .str t, .bool o, .str l] => if k = "link" then some (.link n t o (some l)) else none
  | _ => none
theorem lenD_in {k : Str} {r : Nat} (h : lenD k = r + 2) : (k = "flag" ∧ r = 0) ∨ (k = "number" ∧ r = 0) ∨ (k = "word" ∧ r = 1) ∨ (k = "link" ∧ r = 3) := by
  unfold lenD at h
  by_cases h1 : k = "flag" ∨ k = "number"
  · rw [if_pos h1] at h
    rcases h1 with h1 | h1
    · exact .inl ⟨h1, by omega⟩
    · exact .inr (.inl ⟨h1, by omega⟩)
  · rw [if_neg h1] at h
    by_cases h2 : k = "word"
    · rw [if_pos h2] at h
      exact .inr (.inr (.inl ⟨h2, by omega⟩))
    · rw [if_neg h2] at h
      by_cases h3 : k = "link"
      · rw [if_pos h3] at h
        exact .inr (.inr (.inr ⟨h3, by omega⟩))
      · rw [if_neg h3] at h
        omega
theorem colB_col {ns : List Str} {m : List (Str × Lists)} {ts : Tabs} {d : PyData} (hts : ∀ t ∈ ts, t.2.length ≤ 1000) (h : colB ns m ts d = true) : ∃ c, colOf d = some c ∧ d = c.data ∧ ColIn c ns m ts := by
  unfold colB at h
  split at h
  · rename_i k n r
    simp only [Bool.and_eq_true, decide_eq_true_eq, Bool.not_eq_true'] at h
    obtain ⟨hl, hn, hi, hr⟩ := h
    obtain ⟨nm, rfl, hnm⟩ := strD_str hn
    have hi : nm ∉ ns := of_decide_eq_false hi
    have hnm := (nameB_iff _).mp hnm
    rcases lenD_in hl with ⟨rfl, l0⟩ | ⟨rfl, l0⟩ | ⟨rfl, l0⟩ | ⟨rfl, l0⟩
    · obtain rfl := List.eq_nil_of_length_eq_zero l0
      exact ⟨.plain true nm, rfl, rfl, hnm, hi, fun z => nomatch z⟩
    · obtain rfl := List.eq_nil_of_length_eq_zero l0
      exact ⟨.plain false nm, rfl, rfl, hnm, hi, fun z => nomatch z⟩
    · match r, l0 with
      | [o], _ =>
        unfold restB at hr
        rw [if_neg (show ¬ (("word" : Str) = "link") by decide +kernel), decide_eq_true (rfl : ("word" : Str) = "word")] at hr
        have hr : isBoQ o = true := hr
        cases o with
        | bool b => exact ⟨.word nm b, rfl, rfl, hnm, hi, fun z => nomatch z⟩
        | _ => cases hr
    · match r, l0 with
      | [tg, o, l], _ =>
        unfold restB at hr
        rw [if_pos rfl] at hr
        simp only [Bool.and_eq_true] at hr; obtain ⟨h1, h2, h3⟩ := hr
        obtain ⟨x, rfl, hx⟩ := strD_str h1
        cases o with
        | bool b =>
          cases g1 : ts.lookup x with
          | none =>
            simp only [tgtD, g1] at h3
            cases h3
          | some cs =>
          cases g2 : m.lookup x with
          | none =>
            simp only [tgtD, g1, g2] at h3
            cases h3
          | some ls =>
          simp only [tgtD, g1, g2] at h3
          have hc := hts _ (PySem.mem_of_lookup g1)
          cases l with
          | none => exact ⟨.link nm x b none, rfl, rfl, hnm, hi, fun _ => ⟨cs, ls, g1, g2, hc, fun y e => (nomatch e), rfl⟩⟩
          | str y =>
            have h3 : isListB cs ls (some y) = true := h3
            refine ⟨.link nm x b (some y), rfl, rfl, hnm, hi, fun _ => ⟨cs, ls, g1, g2, hc, fun z e => ?_, h3⟩⟩
            cases e
            have h4 := h3
            unfold isListB at h4
            simp only [Bool.and_eq_true] at h4
            exact Nat.le_trans ((nameB_iff _).mp h4.1.1).1.2.1 (by decide)
          | _ => cases h3
        | _ => cases h2
  · cases h
/-- what a table's values tell: the first that may not stand, or the columns -/
def takeF (t : Str) (m : List (Str × Lists)) (ts : Tabs) : List Col → List PyData → Sum Nat (List Col)
  | md, [] => .inr md
  | md, d :: r => if colB (md.map Col.name) (md.foldl (addCol t) m) ts d = true then (match colOf d with
      | some c => takeF t m ts (md ++ [c]) r
      | none => .inl md.length) else .inl md.length
theorem takeF_cons {t : Str} {m : List (Str × Lists)} {ts : Tabs} {md : List Col} {d : PyData} {r : List PyData} {c : Col} (h : colB (md.map Col.name) (md.foldl (addCol t) m) ts d = true) (hc : colOf d = some c) : takeF t m ts md (d :: r) = takeF t m ts (md ++ [c]) r := by
  rw [takeF, if_pos h, hc]
theorem takeF_no {t : Str} {m : List (Str × Lists)} {ts : Tabs} {md : List Col} {d : PyData} {r : List PyData} (h : colB (md.map Col.name) (md.foldl (addCol t) m) ts d = false) : takeF t m ts md (d :: r) = .inl md.length := by
  rw [takeF, if_neg (by rw [h]; exact Bool.false_ne_true)]
/-! ### values that stay while dicts change -/
def DictsAt (own : List Addr) (H : Hp) : Prop := ∀ a ∈ own, ∀ o, H a = some o → (∀ xs, o ≠ .lst xs) ∧ (∀ xs, o ≠ .tup xs) ∧ ∀ b u, o ≠ .frz b u
theorem sqL_exO {K : PySem.W.Frag} {own : List Addr} {H H' : Hp} {a : Addr} {xs : List V} (o : DictsAt own H) (e : ExO own H H') (h : SqL K H a xs) : SqL K H' a xs := by
  rcases h with (h | ⟨u, h⟩) | h
  · exact .inl (.inl (e _ _ h fun z => (o _ z _ h).1 _ rfl))
  · exact .inl (.inr ⟨u, e _ _ h fun z => (o _ z _ h).2.2 _ _ rfl⟩)
  · exact .inr h
theorem sqT_exO {K : PySem.W.Frag} {own : List Addr} {H H' : Hp} {a : Addr} {xs : List V} (o : DictsAt own H) (e : ExO own H H') (h : SqT K H a xs) : SqT K H' a xs := by
  rcases h with (h | ⟨u, h⟩) | h
  · exact .inl (.inl (e _ _ h fun z => (o _ z _ h).2.1 _ rfl))
  · exact .inl (.inr ⟨u, e _ _ h fun z => (o _ z _ h).2.2 _ _ rfl⟩)
  · exact .inr h
theorem dictsAt_of {own : List Addr} {H : Hp} (h : ∀ a ∈ own, ∃ kv, H a = some (.dK kv)) : DictsAt own H := fun a ha o ho => by
  obtain ⟨kv, e⟩ := h a ha
  rw [ho] at e
  cases e
  exact ⟨fun _ z => (nomatch z), fun _ z => (nomatch z), fun _ _ z => (nomatch z)⟩
theorem insAt_of {H : Hp} {p C dx : Addr} {fs : List (Str × V)} (h : H p = some (.ins C dx fs)) : DictsAt [p] H := fun a ha o ho => by
  rw [List.mem_singleton.1 ha, h] at ho
  cases ho
  exact ⟨fun _ z => (nomatch z), fun _ z => (nomatch z), fun _ _ z => (nomatch z)⟩
mutual
theorem dp_exO {K : PySem.W.Frag} {own : List Addr} {H H' : Hp} (o : DictsAt own H) (e : ExO own H H') : ∀ {v : V} {d : PyData}, Dp K H v d → Dp K H' v d
  | _, _, .non => .non
  | _, _, .bl b => .bl b
  | _, _, .int i => .int i
  | _, _, .str x => .str x
  | _, _, .lst h r => .lst (sqL_exO o e h) (dpAll_exO o e r)
  | _, _, .tup h r => .tup (sqT_exO o e h) (dpAll_exO o e r)
theorem dpAll_exO {K : PySem.W.Frag} {own : List Addr} {H H' : Hp} (o : DictsAt own H) (e : ExO own H H') : ∀ {vs : List V} {ds : List PyData}, DpAll K H vs ds → DpAll K H' vs ds
  | _, _, .nil => .nil
  | _, _, .cons h r => .cons (dp_exO o e h) (dpAll_exO o e r)
end
/-- a value that may be a column -/
structure ColD (K : PySem.W.Frag) (H : Hp) (v : V) (d : PyData) : Prop where
  dp : Dp K H v d
  sz : SzD d
  at_ : ∀ c : Col, d = c.data → ColAt H v c
theorem ColD.exO {K : PySem.W.Frag} {own : List Addr} {H H' : Hp} {v : V} {d : PyData} (o : DictsAt own H) (e : ExO own H H') (h : ColD K H v d) : ColD K H' v d :=
  ⟨dp_exO o e h.dp, h.sz, fun c hc => by
    obtain ⟨a, ev, ha⟩ := h.at_ c hc
    exact ⟨a, ev, e _ _ ha fun z => (o _ z _ ha).2.1 _ rfl⟩⟩
theorem ColD.ext {K : PySem.W.Frag} {H H' : Hp} {v : V} {d : PyData} (e : Ex H H') (h : ColD K H v d) : ColD K H' v d := ⟨dp_ext e h.dp, h.sz, fun c hc => (h.at_ c hc).ext e⟩
theorem Part.dicts {C : Addr} {H : Hp} {p dc dl : Addr} {cvs : List (Key × V)} {rs : Rows} {ts : Tabs} (h : Part C H p dc dl cvs rs ts) : DictsAt (rs.own dc dl) H := dictsAt_of fun a ha => by
  rcases List.mem_cons.1 ha with rfl | ha
  · exact ⟨_, h.hdc⟩
  · rcases List.mem_cons.1 ha with rfl | ha
    · exact ⟨_, h.hdl⟩
    · obtain ⟨r0, hr0, rfl⟩ := List.mem_map.mp ha
      obtain ⟨kv, g, _⟩ := h.lst r0 hr0
      exact ⟨kv, g⟩
def spTakeColsG (K : PySem.W.Frag) (C CB : Addr) : Sp := fun vs H Q E => ∃ (p q : Addr) (i : V) (t : Str) (xs : List V) (ds : List PyData) (dc dl : Addr) (cvs : List (Key × V)) (rs : Rows) (ts : Tabs), vs = [.ref p, i, .str t, .ref q] ∧ Part C H p dc dl cvs rs ts ∧
  SqL K H q xs ∧ Paired (ColD K H) xs ds ∧ ds.length ≤ 20 ∧ ts.length ≤ 100 ∧ (∀ t ∈ ts, t.2.length ≤ 1000) ∧ t ∉ ts.map (·.1) ∧ rs.mir.map (·.1) = ts.map (·.1) ∧ (∀ r ∈ rs, r.2.2.length ≤ 500) ∧
  (∀ cs, takeF t rs.mir ts [] ds = .inr cs → ∀ (T D : Addr) (H' : Hp), H D = none → ExO (rs.own dc dl) H H' → Part C H' p dc dl (cvs ++ [(.inr t, .ref T)]) (cs.foldl (rsAdd t) rs ++ [(t, D, [])]) (ts ++ [(t, cs)]) → Q .non H') ∧
  ∀ j, takeF t rs.mir ts [] ds = .inl j → ∀ (dd : Addr) (H' : Hp), ExO (rs.own dc dl) H H' → H' dd = some (.xd [("column", .int (j : Nat)), ("table", i)]) → E (.ref CB) (some dd) H'
end LP
namespace LP
open PySem L2
open Evl (Ex)
theorem joinV {c : Bool} {te tf : TE} {σ : L2.St} {H : Hp} {k : VK} {R : V → Hp → Prop} (h1 : c = true → ∀ k' : VK, (∀ v H', R v H' → k' v H') → te σ H k') (h2 : c = false → ∀ k' : VK, (∀ v H', R v H' → k' v H') → tf σ H k') (h : ∀ v H', R v H' → k v H') : if c = true then te σ H k else tf σ H k := by
  cases c with
  | true => exact h1 rfl k h
  | false => exact h2 rfl k h
/-! ### values that a law makes -/
theorem dpAll_vals {K : PySem.W.Frag} {H : Hp} {c : Col} {xs : List V} (h : DpAll K H xs c.ds) : xs = c.vals := by
  cases c with
  | plain f n =>
    cases h with | cons h1 h => cases h with | cons h2 h => cases h; cases h1; cases h2; rfl
  | word n o =>
    cases h with | cons h1 h => cases h with | cons h2 h => cases h with | cons h3 h => cases h; cases h1; cases h2; cases h3; rfl
  | link n t o l =>
    cases h with | cons h1 h => cases h with | cons h2 h => cases h with | cons h3 h => cases h with | cons h4 h => cases h with | cons h5 h =>
    cases h; cases h1; cases h2; cases h3; cases h4
    cases l with
    | none => cases h5; rfl
    | some x => cases h5; rfl
theorem ColD.tup {K : PySem.W.Frag} {H : Hp} {p : Addr} {xs : List V} {ds : List PyData} (hp : H p = some (.tup xs)) (h : DpAll K H xs ds) (hz : ∀ y ∈ ds, ∀ x, y = .str x → x.length ≤ 4000) : ColD K H (.ref p) (.tuple ds) :=
  ⟨.tup (SqT.of hp) h, fun ys e => by cases e; exact hz, fun c e => by
    have e : ds = c.ds := by injection e
    subst e
    exact ⟨p, rfl, by rw [hp, dpAll_vals h]⟩⟩
theorem ColD.flat {K : PySem.W.Frag} {H : Hp} {v : V} {d : PyData} (h : Dp K H v d) (n : ∀ ds, d ≠ .tuple ds) : ColD K H v d := ⟨h, fun ys e => absurd e (n _), fun c e => absurd e (n _)⟩
def Sz4 (ds : List PyData) : Prop := ∀ y ∈ ds, ∀ x, y = .str x → x.length ≤ 4000
theorem Sz4.nil : Sz4 [] := fun _ h => absurd h List.not_mem_nil
theorem Sz4.cons {d : PyData} {ds : List PyData} (h : ∀ x, d = .str x → x.length ≤ 4000) (r : Sz4 ds) : Sz4 (d :: ds) := fun y hy => by
  rcases List.mem_cons.1 hy with rfl | hy
  · exact h
  · exact r y hy
/-- what is there while values are made -/
structure Al (K : PySem.W.Frag) (b : Addr) (m : Nat) (H3 H : Hp) (vals : List V) (ls : List (Addr × List V)) (ws : List (V × PyData)) : Prop where
  hB : BagAt H b m
  e : Ex (del b H3) H
  s : ∀ x ∈ vals, ∃ d, ColD K (del b H) x d
  l : ∀ o ∈ ls, o.1 ≠ b ∧ H o.1 = some (.lst o.2)
  w : ∀ x ∈ ws, Dp K (del b H) x.1 x.2
section
variable {K : PySem.W.Frag} {b : Addr} {m : Nat} {H3 H : Hp} {vals : List V} {ls : List (Addr × List V)} {ws : List (V × PyData)}
theorem Al.obj {p : Addr} {o : HO} (A : Al K b m H3 H vals ls ws) (hp : H p = none) : Al K b m H3 (upd H p o) vals ls ws := by
  have ex : Ex H (upd H p o) := Ex.new hp
  have ed := ex_dd (ex_del (b := b) |>.trans ex)
  exact ⟨A.hB.ext ex, A.e.trans ex, fun x hx => by obtain ⟨d, h⟩ := A.s x hx; exact ⟨d, h.ext ed⟩, fun o ho => ⟨(A.l o ho).1, ex _ _ (A.l o ho).2⟩, fun x hx => dp_ext ed (A.w x hx)⟩
theorem Al.tup {p : Addr} {xs : List V} {ds : List PyData} (A : Al K b m H3 H vals ls ws) (hp : H p = none) (h : DpAll K (del b H) xs ds) (hz : Sz4 ds) : Al K b m H3 (upd H p (.tup xs)) (.ref p :: vals) ls ((.ref p, .tuple ds) :: ws) := by
  have A2 := A.obj (o := .tup xs) hp
  have pb : p ≠ b := (A.hB.ne_none hp).symm
  have hc : ColD K (del b (upd H p (.tup xs))) (.ref p) (.tuple ds) := ColD.tup (by rw [del_ne pb]; exact upd_same) (dpAll_ext (ex_dd (ex_del.trans (Ex.new hp))) h) hz
  refine ⟨A2.hB, A2.e, fun x hx => ?_, A2.l, fun x hx => ?_⟩
  · rcases List.mem_cons.1 hx with rfl | hx
    · exact ⟨_, hc⟩
    · exact A2.s x hx
  · rcases List.mem_cons.1 hx with rfl | hx
    · exact hc.dp
    · exact A2.w x hx
theorem Al.vlist {p : Addr} {xs : List V} {ds : List PyData} (A : Al K b m H3 H vals ls ws) (hp : H p = none) (h : DpAll K (del b H) xs ds) : Al K b m H3 (upd H p (.lst xs)) (.ref p :: vals) ls ((.ref p, .list ds) :: ws) := by
  have A2 := A.obj (o := .lst xs) hp
  have pb : p ≠ b := (A.hB.ne_none hp).symm
  have hc : ColD K (del b (upd H p (.lst xs))) (.ref p) (.list ds) := ColD.flat (.lst (SqL.of (by rw [del_ne pb]; exact upd_same)) (dpAll_ext (ex_dd (ex_del.trans (Ex.new hp))) h)) fun _ z => nomatch z
  refine ⟨A2.hB, A2.e, fun x hx => ?_, A2.l, fun x hx => ?_⟩
  · rcases List.mem_cons.1 hx with rfl | hx
    · exact ⟨_, hc⟩
    · exact A2.s x hx
  · rcases List.mem_cons.1 hx with rfl | hx
    · exact hc.dp
    · exact A2.w x hx
theorem Al.list {p : Addr} {xs : List V} (A : Al K b m H3 H vals ls ws) (hp : H p = none) : Al K b m H3 (upd H p (.lst xs)) vals ((p, xs) :: ls) ws := by
  have A2 := A.obj (o := .lst xs) hp
  have pb : p ≠ b := (A.hB.ne_none hp).symm
  refine ⟨A2.hB, A2.e, A2.s, fun o ho => ?_, A2.w⟩
  rcases List.mem_cons.1 ho with rfl | ho
  · exact ⟨pb, upd_same⟩
  · exact A2.l o ho
theorem Al.step {m' : Nat} {H' : Hp} (A : Al K b m H3 H vals ls ws) (hB : BagAt H' b m') (e : Ex (del b H) H') : Al K b m' H3 H' vals ls ws :=
  ⟨hB, ex_dtrans A.e e, fun x hx => by obtain ⟨d, h⟩ := A.s x hx; exact ⟨d, h.ext (ex_dd e)⟩, fun o ho => ⟨(A.l o ho).1, e _ _ (by rw [del_ne (A.l o ho).1]; exact (A.l o ho).2)⟩, fun x hx => dp_ext (ex_dd e) (A.w x hx)⟩
theorem Al.put {v : V} {d : PyData} (A : Al K b m H3 H vals ls ws) (h : Dp K (del b H) v d) : Al K b m H3 H vals ls ((v, d) :: ws) := ⟨A.hB, A.e, A.s, A.l, fun x hx => by
  rcases List.mem_cons.1 hx with rfl | hx
  · exact h
  · exact A.w x hx⟩
end
end LP
namespace LP
open PySem L2
open Evl (Ex)
/-! ### what is taken may stand -/
theorem in_link {cs : List Col} {tg l : Str} (h : some l ∈ linkLists cs tg) : ∃ c ∈ cs, c.isLink = true ∧ c.target = tg ∧ c.lst = some l := by
  obtain ⟨c, hc, e⟩ := List.mem_map.mp h
  obtain ⟨h1, h2⟩ := List.mem_filter.mp hc
  rw [Bool.and_eq_true] at h2
  exact ⟨c, h1, h2.1, of_decide_eq_true h2.2, e⟩
theorem ent_in {t tg l : Str} {cs : List Col} {c : Col} (hc : c ∈ cs) (e : c.target = tg) (el : c.lst = some l) : l ∈ (cs.filterMap (lstEnt t tg)).map (·.1) := by
  refine List.mem_map.mpr ⟨(l, t, c.name), List.mem_filterMap.mpr ⟨c, hc, ?_⟩, rfl⟩
  unfold lstEnt
  rw [el]
  exact if_pos e
theorem take_snoc {td : Tabs} {t : Str} {md : List Col} {c : Col} (g : GoodTabs td) (h : PreCols td md) (i : ColIn c (md.map Col.name) (md.foldl (addCol t) (mirOf td)) td) : PreCols td (md ++ [c]) := by
  refine h.snoc i.nm i.nw (fun hk => ?_) (fun l el => ?_)
  · obtain ⟨cs, ls, g1, _⟩ := i.lk hk
    exact List.mem_map.mpr ⟨_, PySem.mem_of_lookup g1, rfl⟩
  · have hk := lst_link el
    obtain ⟨cs, ls, g1, g2, _, _, g5⟩ := i.lk hk
    have mem : c.target ∈ td.map (·.1) := List.mem_map.mpr ⟨_, PySem.mem_of_lookup g1, rfl⟩
    rw [addCols_look, mirOf_look g mem] at g2
    have g2 : listsOf td c.target ++ md.filterMap (lstEnt t c.target) = ls := Option.some.inj g2
    rw [el] at g5
    have g5 : (nameB l && !decide (l ∈ cs.map Col.name) && !decide (l ∈ ls.map (·.1))) = true := g5
    simp only [Bool.and_eq_true, Bool.not_eq_true', decide_eq_false_iff_not] at g5
    obtain ⟨⟨n1, n2⟩, n3⟩ := g5
    rw [← g2, List.map_append] at n3
    refine ⟨(nameB_iff _).mp n1, fun z => ?_⟩
    rcases List.mem_append.mp z with z | z
    · obtain ⟨t2, ht2, z⟩ := List.mem_flatMap.mp z
      unfold takenStep at z
      rcases List.mem_append.mp z with z | z
      · obtain ⟨c2, hc2, _, e2, e3⟩ := in_link z
        refine n3 (List.mem_append.mpr (.inl ?_))
        have := ent_in (t := t2.1) hc2 e2 e3
        obtain ⟨e, he, e4⟩ := List.mem_map.mp this
        exact List.mem_map.mpr ⟨e, List.mem_flatMap.mpr ⟨t2, ht2, he⟩, e4⟩
      · by_cases q : t2.1 = c.target
        · rw [if_pos q] at z
          have lk := lookup_mem g.nodup ht2
          rw [q, g1] at lk
          have lk : cs = t2.2 := Option.some.inj lk
          obtain ⟨c2, hc2, e2⟩ := List.mem_map.mp z
          have e2 : c2.name = l := Option.some.inj e2
          exact n2 (List.mem_map.mpr ⟨c2, by rw [lk]; exact hc2, e2⟩)
        · rw [if_neg q] at z
          cases z
    · obtain ⟨c2, hc2, _, e2, e3⟩ := in_link z
      exact n3 (List.mem_append.mpr (.inr (ent_in hc2 e2 e3)))
theorem takeF_pre {td : Tabs} {t : Str} (g : GoodTabs td) : ∀ {ds : List PyData} {md cs : List Col}, PreCols td md → takeF t (mirOf td) td md ds = .inr cs → PreCols td cs ∧ cs.length = md.length + ds.length
  | [], md, cs, h, e => by
    have e : md = cs := Sum.inr.inj e
    subst e
    exact ⟨h, rfl⟩
  | d :: r, md, cs, h, e => by
    cases hb : colB (md.map Col.name) (md.foldl (addCol t) (mirOf td)) td d with
    | false =>
      rw [takeF_no hb] at e
      cases e
    | true =>
      obtain ⟨c, hc, _, ci⟩ := colB_col (fun t2 h2 => Nat.le_trans (g.cols t2 h2) (by decide)) hb
      rw [takeF_cons hb hc] at e
      obtain ⟨p1, p2⟩ := takeF_pre g (take_snoc g h ci) e
      refine ⟨p1, ?_⟩
      rw [p2, List.length_append, List.length_cons, List.length_cons, List.length_nil]
      omega
/-! ### what a schema is made of, or the first place that may not stand -/
def nameOf : PyData → Str
  | .str x => x
  | _ => Str.empty
def nmOk (td : Tabs) (d : PyData) : Bool := strD nameB d && !strD (fun x => decide (x ∈ td.map (·.1))) d
def tabsF : Tabs → List (PyData × List PyData) → Sum (Nat × Option Nat) Tabs
  | td, [] => .inr td
  | td, x :: r => if (nmOk td x.1 && decide (x.2.length ≤ 6)) = true then (match takeF (nameOf x.1) (mirOf td) td [] x.2 with
      | .inl j => .inl (td.length, some j)
      | .inr cs => match brk td cs with
        | some j => .inl (td.length, some j)
        | none => tabsF (td ++ [(nameOf x.1, cs)]) r) else .inl (td.length, none)
def placeI : Option Nat → Int
  | some j => (j : Nat)
  | none => -1
def initF (u : PyData) (xs : List (PyData × List PyData)) : Option (Int × Int) :=
  if 1 ≤ xs.length ∧ xs.length ≤ 6 then (match tabsF [] xs with
    | .inl (k, o) => some ((k : Nat), placeI o)
    | .inr ts => if strD (fun n => decide (n ∈ ts.map (·.1))) u = true then none else some ((xs.length : Nat), -1)) else some (-1, -1)
theorem tabsF_good : ∀ {xs : List (PyData × List PyData)} {td ts : Tabs}, GoodTabs td → tabsF td xs = .inr ts → GoodTabs ts ∧ ts.length = td.length + xs.length
  | [], td, ts, g, e => by
    have e : td = ts := Sum.inr.inj e
    subst e
    exact ⟨g, rfl⟩
  | x :: r, td, ts, g, e => by
    unfold tabsF at e
    split at e
    · rename_i h
      rw [Bool.and_eq_true] at h
      obtain ⟨h1, h2⟩ := h
      unfold nmOk at h1
      rw [Bool.and_eq_true] at h1
      obtain ⟨n, en, hn⟩ := strD_str h1.1
      rw [en] at h1 e
      have nn : n ∉ td.map (·.1) := by
        have := h1.2
        rw [Bool.not_eq_true'] at this
        exact of_decide_eq_false this
      split at e
      · cases e
      · rename_i cs ec
        obtain ⟨p1, p2⟩ := takeF_pre g (PreCols.nil td) ec
        split at e
        · cases e
        · rename_i hb
          have l6 : cs.length ≤ 6 := by
            have := of_decide_eq_true h2
            rw [p2]
            simpa using this
          have gg := g.snoc ((nameB_iff _).mp hn) nn ⟨p1, l6, brk_none hb⟩
          obtain ⟨q1, q2⟩ := tabsF_good gg e
          refine ⟨q1, ?_⟩
          rw [q2, List.length_append, List.length_cons, List.length_cons, List.length_nil]
          omega
    · cases e
end LP
namespace LP
open PySem L2
open Evl (Ex)
/-! ### x is True -/
def rIsTB : R2 := fun x y H Q => ∃ b, y = .bl b ∧ Q (.bl (decide (x = .bl b))) H
theorem op_isTB {X : Cx} : OpR X (compareOp .Is) rIsTB := by
  intro pins s σ H x y v u Q I rx ry h; obtain ⟨b, rfl, q⟩ := h
  cases (show u =
          Value.bool b from ry)
  by_cases e : x = .bl b
  · subst e
    cases (show v = Value.bool b from rx)
    exact wpAny_is_self rfl ⟨.bl true,
            H, I, rfl, by simpa using q⟩
  · have qf : Q (.bl false) H := by rw [decide_eq_false e] at q; exact q
    cases x with
    | bl a =>
      cases (show v =
              Value.bool a from rx)
      exact wpAny_is_other rfl (fun z => e (by rw [Value.bool.inj z])) ⟨.bl false, H, I, rfl, qf⟩
    | non =>
      cases (show v = Value.none from rx)
      exact wpAny_is_other rfl (fun z => nomatch z) ⟨.bl false, H, I, rfl, qf⟩
    | ref a =>
      cases (show v =
              Value.ref a from rx)
      exact wpAny_is_other rfl (fun z => nomatch z) ⟨.bl false, H, I, rfl, qf⟩
    | ty n =>
      cases (show v = Value.type n from rx)
      exact wpAny_is_other rfl (fun z => nomatch z) ⟨.bl false, H, I, rfl, qf⟩
    | _ =>
      obtain ⟨t, rfl⟩ := rx
      exact wpAny_is_other rfl (fun z => nomatch z) ⟨.bl false, H, I, rfl, qf⟩
theorem w_isTB {x : V} {b : Bool} {H : Hp} {Q : VK} (q : Q (.bl (decide (x = .bl b))) H) : rIsTB x (.bl b) H Q := ⟨b, rfl, q⟩
theorem w_disp {σ : L2.St} {H : Hp} {Q : VK} {trs : List (TE × TE)} (kvs : List (Key × V)) (h : ∀ (H : Hp) (R : List (V × V) → Hp → Prop), R (kvs.map fun kv => (kV kv.1, kv.2)) H → tPairs trs σ H R) (l : kvs.length ≤ 15) (q : ∀ p, H p = none → Q (.ref p) (upd (upd H p (.dK [])) p (.dK (mergeK [] kvs)))) : tDisp trs σ H Q := fun p hp =>
  h _ _ ⟨upd_same, kvs, rfl, l, q p hp⟩
def sizK : List (Key × V) := [(.inr "flag", .int 2), (.inr "number", .int 2), (.inr "word", .int 3), (.inr "link", .int 5)]
theorem siz_merge : mergeK [] sizK = sizK := by decide +kernel
theorem siz_get (kk : Str) : (valV sizK (Sum.inr kk : Key)).getD (.int 0) = .int (lenD kk : Nat) := by
  unfold sizK lenD
  have ne : ∀ {x : Str}, kk ≠ x → ∀ v : V, ((Sum.inr x, v) : Key × V).1 ≠ Sum.inr kk := fun h v z => h (Sum.inr.inj z).symm
  by_cases h1 : kk = "flag"
  · subst h1
    rw [valV_pos (p := ((.inr "flag", .int 2) : Key × V)) rfl, if_pos (.inl rfl)]
    rfl
  by_cases h2 : kk = "number"
  · subst h2
    rw [valV_neg (ne h1 _), valV_pos (p := ((.inr "number", .int 2) : Key × V)) rfl, if_pos (.inr rfl)]
    rfl
  rw [if_neg (by rintro (h | h); exact h1 h; exact h2 h)]
  by_cases h3 : kk = "word"
  · subst h3
    rw [valV_neg (ne h1 _), valV_neg (ne h2 _), valV_pos (p := ((.inr "word", .int 3) : Key × V)) rfl, if_pos rfl]
    rfl
  rw [if_neg h3]
  by_cases h4 : kk = "link"
  · subst h4
    rw [valV_neg (ne h1 _), valV_neg (ne h2 _), valV_neg (ne h3 _), valV_pos (p := ((.inr "link", .int 5) : Key × V)) rfl, if_pos rfl]
    rfl
  rw [if_neg h4, valV_neg (ne h1 _), valV_neg (ne h2 _), valV_neg (ne h3 _), valV_neg (ne h4 _)]
  rfl
theorem w_dget2 {σ : L2.St} {H : Hp} {Q : VK} {td ty tx : TE} (h : td σ H fun x H1 => ∃ a, x = .ref a ∧ IsD H1 a ∧ ty σ H1 fun y H2 => tx σ H2 fun z H3 => ∃ o, DGet H3 a y o ∧ Q (o.getD z) H3) : tDGet2 td ty tx σ H Q := h
/-! ### what the law keeps of the tables ahead -/
def TkRow (H : Hp) (kv : Key × V) (r : Str × List Str) : Prop := kv.1 = .inr r.1 ∧ ∃ a, kv.2 = .ref a ∧ H a = some (.lst (r.2.map V.str))
structure TkOk (tk : List (Str × List Str)) (ts : Tabs) (m : List (Str × Lists)) : Prop where
  ks : tk.map (·.1) = ts.map (·.1)
  hs : ∀ n cs ls, ts.lookup n = some cs → m.lookup n = some ls → ∃ l, tk.lookup n = some l ∧ ∀ x, x ∈ l ↔ (x ∈ cs.map Col.name ∨ x ∈ ls.map (·.1))
theorem bo_dec {K : PySem.W.Frag} {H : Hp} {x : V} {d : PyData} (h : Dp K H x d) : isBoQ d = (decide (x = .bl true) || decide (x = .bl false)) := by
  cases h with
  | bl b => cases b <;> rfl
  | _ => rfl
theorem tk_has {H : Hp} {kvs : List (Key × V)} {tk : List (Str × List Str)} (h : Paired (TkRow H) kvs tk) (n : Str) : (valV kvs (Sum.inr n : Key)).isSome = decide (n ∈ tk.map (·.1)) := by
  rcases valV_pair (fun _ _ h => h.1) h n with ⟨h1, h2⟩ | ⟨kv, e, h1, h2, h3, h4, h5⟩
  · rw [h1, decide_eq_false h2]
    rfl
  · rw [h4, decide_eq_true (List.mem_map.mpr ⟨e, h1, h2⟩)]
    rfl
theorem tk_get {H : Hp} {kvs : List (Key × V)} {tk : List (Str × List Str)} (h : Paired (TkRow H) kvs tk) {n : Str} {l : List Str} (e : tk.lookup n = some l) : ∃ a, valV kvs (Sum.inr n : Key) = some (.ref a) ∧ H a = some (.lst (l.map V.str)) := by
  rcases valV_pair (fun _ _ h => h.1) h n with ⟨h1, h2⟩ | ⟨kv, t, h1, h2, ⟨h3, a, h4, h5⟩, h7, h8⟩
  · exact absurd (List.mem_map.mpr ⟨(n, l), PySem.mem_of_lookup e, rfl⟩) h2
  · rw [e] at h8
    cases h8
    exact ⟨a, by rw [h7, h4], h5⟩
theorem list_tk {cs : List Col} {ls : Lists} {x : Str} {tl : List Str} (hx : nameB x = true) (h : x ∈ tl ↔ (x ∈ cs.map Col.name ∨ x ∈ ls.map (·.1))) : isListD cs ls (.str x) = !decide (x ∈ tl) := by
  show (nameB x && !decide (x ∈ cs.map Col.name) && !decide (x ∈ ls.map (·.1))) = _
  rw [hx]
  by_cases h1 : x ∈ cs.map Col.name
  · rw [decide_eq_true h1, decide_eq_true (h.mpr (.inl h1))]
    rfl
  · by_cases h2 : x ∈ ls.map (·.1)
    · rw [decide_eq_true h2, decide_eq_false h1, decide_eq_true (h.mpr (.inr h2))]
      rfl
    · rw [decide_eq_false h2, decide_eq_false h1, decide_eq_false (show ¬ x ∈ tl from fun z => (h.mp z).elim h1 h2)]
      rfl
def spFits (K : PySem.W.Frag) : Sp := fun vs H Q _ => ∃ (v : V) (d : PyData) (q dt : Addr) (ns : List Str) (kvs : List (Key × V)) (tk : List (Str × List Str)) (ts : Tabs) (m : List (Str × Lists)), vs = [v, .ref q, .ref dt] ∧ Dp K H v d ∧ SzD d ∧ SqL K H q (ns.map V.str) ∧ H dt = some (.dK kvs) ∧ Paired (TkRow H) kvs tk ∧ TkOk tk ts m ∧ m.map (·.1) = ts.map (·.1) ∧
  ∀ H', Ex H H' → Q (.bl (colB ns m ts d)) H'
section
variable {base : Heap} {mg : Str → Option Value} {K : PySem.W.Frag} {w : World} {P : Program}
theorem ok_fits {f : Addr} {fd : FuncData} (D : C8.Def K mg "_law_fits" s__law_fits f fd) (b : Binds K fd ["column", "before", "taken"] []) (B : Blt mg) (c__law_is_name : C8.Cal P w K mg base 2 "_law_is_name" (spDue K) []) :
    C8.Cal P w K mg base 3 "_law_fits" (spFits K) [] := by
  have sc : FnScope ["column", "before", "taken", "sizes"] ["column", "before", "taken"] (C8.fnScope s__law_fits) := C8.fnScope_by (by decide +kernel)
  refine C8.cal0 D b .nil sc (fun vs H Q E h => ?_) (fun cdv A outer s H vs Q E hr h => ?_)
  · obtain ⟨_, _, _, _, _, _, _, _, _, rfl, _⟩ := h
    rfl
  · obtain ⟨v, d, q, dt, ns, kvs, tk, ts, m, rfl, hd, hz, hq, hdt, hkv, hok, hmk, k⟩ := h
    refine ⟨_, (pss_cons (ps_if (PW.pt (pw_or (pt_not (pt_val (pe_callB (call_isiK1 (K := K) rfl) (by rfl) B.isinstance_ (by decide +kernel) (pa_cons (pv 0) (pa_cons (pe_bltn (v := .ty "tuple") (u := .type "tuple") (by rfl) B.tuple_ (by decide +kernel) rfl) pa_nil))))) (pw_or (pt_cmpR op_lt (pe_callB (call_len_seqK (K := K) rfl) (by rfl) B.len_ (by decide +kernel) (pa_cons (pv 0) pa_nil)) pe_int (nomark _)) (pw_or1 (pt_not (pt_val (pe_callB (call_isiK1 (K := K) rfl) (by rfl) B.isinstance_ (by decide +kernel) (pa_cons (pe_ix (ix_tupK (K := K) rfl) (pv 0) pe_int (fun _ _ => rfl)) (pa_cons (pe_bltn (v := .ty "str") (u := .type "str") (by rfl) B.str_ (by decide +kernel) rfl) pa_nil)))))))))
        (pss_one (ps_ret pe_bl))
        pss_nil)
        (pss_cons (ps_set (i := 3) sc.nd rfl (Or.inl rfl) ((pe_disp (pps_cons pe_str pe_int (pps_cons pe_str pe_int (pps_cons pe_str pe_int (pps_cons pe_str pe_int pps_nil)))) rfl rfl (by simp) (by decide))))
        (pss_cons (ps_if (PW.pt (pw_or (pt_cmpR op_ne ((pe_dget2 (hu_of hr) (pv 3) (pe_ix (ix_tupK (K := K) rfl) (pv 0) pe_int (fun _ _ => rfl)) pe_int ⟨rfl, rfl, rfl, rfl⟩)) (pe_callB (call_len_seqK (K := K) rfl) (by rfl) B.len_ (by decide +kernel) (pa_cons (pv 0) pa_nil)) (nomark _)) (pw_or (pt_not (pt_val (C8.pe_c c__law_is_name hr (by decide) rfl (pa_cons (pe_ix (ix_tupK (K := K) rfl) (pv 0) pe_int (fun _ _ => rfl)) pa_nil)))) (pw_or1 (pt_cmpR (op_in_seqK (K := K) rfl) (pe_ix (ix_tupK (K := K) rfl) (pv 0) pe_int (fun _ _ => rfl)) (pv 1) (by rfl))))))
        (pss_one (ps_ret pe_bl))
        pss_nil)
        (pss_cons (ps_if (pt_cmpR op_eq (pe_ix (ix_tupK (K := K) rfl) (pv 0) pe_int (fun _ _ => rfl)) pe_str (nomark _))
        (pss_one (ps_ret (pe_or (pe_cmpR op_isTB (pe_ix (ix_tupK (K := K) rfl) (pv 0) pe_int (fun _ _ => rfl)) pe_bl (nomark _)) (pe_one (pe_cmpR op_isTB (pe_ix (ix_tupK (K := K) rfl) (pv 0) pe_int (fun _ _ => rfl)) pe_bl (nomark _))))))
        pss_nil)
        (pss_cons (ps_if (pt_cmpR (op_in_seqK (K := K) rfl) (pe_ix (ix_tupK (K := K) rfl) (pv 0) pe_int (fun _ _ => rfl)) (pe_tup (pa_cons pe_str (pa_cons pe_str pa_nil))) (by rfl))
        (pss_one (ps_ret pe_bl))
        pss_nil)
        (pss_cons (ps_if (PW.pt (pw_or (pt_not (pt_val (pe_callB (call_isiK1 (K := K) rfl) (by rfl) B.isinstance_ (by decide +kernel) (pa_cons (pe_ix (ix_tupK (K := K) rfl) (pv 0) pe_int (fun _ _ => rfl)) (pa_cons (pe_bltn (v := .ty "str") (u := .type "str") (by rfl) B.str_ (by decide +kernel) rfl) pa_nil))))) (pw_or (pt_cmp (pc_dnotin (hu_of hr) (pe_ix (ix_tupK (K := K) rfl) (pv 0) pe_int (fun _ _ => rfl)) (pv 2))) (pw_or1 (pt_not (PW.pt (pw_or (pt_cmpR op_isTB (pe_ix (ix_tupK (K := K) rfl) (pv 0) pe_int (fun _ _ => rfl)) pe_bl (nomark _)) (pw_or1 (pt_cmpR op_isTB (pe_ix (ix_tupK (K := K) rfl) (pv 0) pe_int (fun _ _ => rfl)) pe_bl (nomark _))))))))))
        (pss_one (ps_ret pe_bl))
        pss_nil)
        (pss_one (ps_ret (pe_or (pe_cmpR op_isN' (pe_ix (ix_tupK (K := K) rfl) (pv 0) pe_int (fun _ _ => rfl)) pe_non (nomark _)) (pe_one (pe_and (C8.pe_c c__law_is_name hr (by decide) rfl (pa_cons (pe_ix (ix_tupK (K := K) rfl) (pv 0) pe_int (fun _ _ => rfl)) pa_nil)) (pe_one (pe_cmpR (op_notIn_seqK (K := K) rfl) (pe_ix (ix_tupK (K := K) rfl) (pv 0) pe_int (fun _ _ => rfl)) (pe_dget (hu_of hr) (pv 2) (pe_ix (ix_tupK (K := K) rfl) (pv 0) pe_int (fun _ _ => rfl)) (fun _ _ => rfl)) (by rfl)))))))))))))), ?_⟩
    walk_at "w"
    refine w_isTuQ hd ?_
    cases hd with
    | @tup a xs ds tt hds =>
      have lx := dpAll_len hds
      unfold isTuQ
      walk_at "w"
      refine iteD (fun h => ?_) (fun h => ?_)
      · have k0 : colB ns m ts (.tuple ds) = false := by
          match ds, lx with
          | [], _ => rfl
          | [d0], _ => cases d0 <;> rfl
          | _ :: _ :: _, lx => rw [List.length_cons, List.length_cons] at lx; omega
        rw [k0] at k
        walk_at "w"
        exact k _ (Ex.refl _)
      cases hds with
      | nil => exact absurd (by decide) h
      | @cons x0 xr0 d0 dr0 hd0 hr0 =>
      cases hr0 with
      | nil => exact absurd (by simp) h
      | @cons x1 xr d1 dr hd1 hr1 =>
      have z0 := hz _ rfl d0 (by simp)
      have z1 := hz _ rfl d1 (by simp)
      have lr := dpAll_len hr1
      walk_at "w"
      refine w_ixT (i := 0) (v := x0) tt (atI_nat (j := 0) (xs := x0 :: x1 :: xr) rfl) ?_
      walk_at "w"
      refine w_isStr hd0 ?_
      walk_at "w"
      cases hs : isStrD d0 with
      | false =>
        have k0 : colB ns m ts (.tuple (d0 :: d1 :: dr)) = false := by cases d0 <;> first | rfl | cases hs
        rw [k0] at k
        walk_at "w"
        exact k _ (Ex.refl _)
      | true =>
      obtain ⟨kk, rfl⟩ : ∃ kk, d0 = .str kk := by cases d0 <;> first | exact ⟨_, rfl⟩ | cases hs
      cases hd0
      have k : ∀ H', Ex H H' → Q (.bl (decide (lenD kk = dr.length + 2) && (strD nameB d1 && (!strD (fun x => decide (x ∈ ns)) d1 && restB m ts kk dr)))) H' := k
      walk_at "w"
      refine w_disp sizK (fun H R r => r) (by decide) fun sd hsd => ?_
      rw [siz_merge]
      have e1 : Ex H (upd (upd H sd (.dK [])) sd (.dK sizK)) := (Ex.new hsd).mut hsd
      have g1 : (upd (upd H sd (.dK [])) sd (.dK sizK)) sd = some (.dK sizK) := upd_same
      generalize (upd (upd H sd (.dK [])) sd (.dK sizK)) = H1 at e1 g1 ⊢
      have tt := Evl.ex_t e1 tt
      have hq := Evl.ex_l e1 hq
      have hd1 := dp_ext e1 hd1
      have hr1 := dpAll_ext e1 hr1
      have hdt := e1 _ _ hdt
      have hkv : Paired (TkRow H1) kvs tk := paired_imp (fun _ _ ⟨g1, a, g2, g3⟩ => ⟨g1, a, g2, e1 _ _ g3⟩) hkv
      have k : ∀ H', Ex H1 H' → Q (.bl (decide (lenD kk = dr.length + 2) && (strD nameB d1 && (!strD (fun x => decide (x ∈ ns)) d1 && restB m ts kk dr)))) H' := fun H' e => k H' (e1.trans e)
      clear e1
      walk_at "w"
      refine w_dget2 ?_
      walk_at "w"
      refine ⟨sd, rfl, .inl ⟨_, .inl g1⟩, ?_⟩
      walk_at "w"
      refine w_ixT (i := 0) (v := .str kk) tt (atI_nat (j := 0) (xs := .str kk :: x1 :: xr) rfl) ?_
      walk_at "w"
      refine ⟨_, DGet.k (k := Sum.inr kk) g1, ?_⟩
      rw [siz_get]
      walk_at "w"
      refine iteND (fun hl => ?_) (fun hl => ?_)
      · have hl' : ¬ lenD kk = dr.length + 2 := fun e => hl (by rw [e, ← lr]; simp only [List.length_cons])
        rw [decide_eq_false hl'] at k
        walk_at "w"
        exact k _ (Ex.refl _)
      have hl' : lenD kk = dr.length + 2 := by
        have hl := V.int.inj hl
        simp only [List.length_cons] at hl
        omega
      rw [decide_eq_true hl'] at k
      have k : ∀ H', Ex H1 H' → Q (.bl (strD nameB d1 && (!strD (fun x => decide (x ∈ ns)) d1 && restB m ts kk dr))) H' := k
      walk_at "w"
      refine w_ixT (i := 1) (v := x1) tt (atI_nat (j := 1) (xs := .str kk :: x1 :: xr) rfl) ?_
      walk_at "w"
      refine ⟨x1, d1, rfl, hd1, z1, fun H2 e2 => ?_⟩
      have tt := Evl.ex_t e2 tt
      have hq := Evl.ex_l e2 hq
      have hr1 := dpAll_ext e2 hr1
      have hdt := e2 _ _ hdt
      have hkv : Paired (TkRow H2) kvs tk := paired_imp (fun _ _ ⟨g1, a, g2, g3⟩ => ⟨g1, a, g2, e2 _ _ g3⟩) hkv
      have hd1 := dp_ext e2 hd1
      have k : ∀ H', Ex H2 H' → Q (.bl (strD nameB d1 && (!strD (fun x => decide (x ∈ ns)) d1 && restB m ts kk dr))) H' := fun H' e => k H' (e2.trans e)
      clear e2 g1
      walk_at "w"
      cases hb : strD nameB d1 with
      | false =>
        rw [hb] at k
        walk_at "w"
        exact k _ (Ex.refl _)
      | true =>
      rw [hb] at k
      obtain ⟨nm, rfl, hnm⟩ := strD_str hb
      cases hd1
      have k : ∀ H', Ex H2 H' → Q (.bl (!decide (nm ∈ ns) && restB m ts kk dr)) H' := k
      walk_at "w"
      refine w_ixT (i := 1) (v := .str nm) tt (atI_nat (j := 1) (xs := .str kk :: .str nm :: xr) rfl) ?_
      walk_at "w"
      refine w_inStr hq ?_
      walk_at "w"
      refine iteD (fun hin => ?_) (fun hin => ?_)
      · rw [decide_eq_true hin] at k
        walk_at "w"
        exact k _ (Ex.refl _)
      rw [decide_eq_false hin] at k
      have k : ∀ H', Ex H2 H' → Q (.bl (restB m ts kk dr)) H' := k
      walk_at "w"
      refine w_ixT (i := 0) (v := .str kk) tt (atI_nat (j := 0) (xs := .str kk :: .str nm :: xr) rfl) ?_
      walk_at "w"
      refine iteD (fun hw => ?_) (fun hw => ?_)
      · have hw := V.str.inj hw
        subst hw
        have er : restB m ts "word" dr = oneB dr := by
          unfold restB
          rw [if_neg (show ¬ (("word" : Str) = "link") by decide +kernel), decide_eq_true (rfl : ("word" : Str) = "word")]
          rfl
        have k : ∀ H', Ex H2 H' → Q (.bl (oneB dr)) H' := fun H' e => er ▸ k H' e
        have ldr : dr.length = 1 := by
          have e : lenD "word" = 3 := by decide +kernel
          have hl' : lenD "word" = dr.length + 2 := hl'
          omega
        obtain ⟨d2, rfl⟩ : ∃ d2, dr = [d2] := by
          match dr, ldr with
          | [d2], _ => exact ⟨d2, rfl⟩
        have k : ∀ H', Ex H2 H' → Q (.bl (isBoQ d2)) H' := k
        cases hr1 with
        | @cons x2 _ _ _ hd2 hr2 =>
        cases hr2
        rw [bo_dec hd2] at k
        walk_at "w"
        refine w_isTB ?_
        refine ⟨_, rfl, iteD (fun e => ?_) (fun e => ?_)⟩
        · rw [decide_eq_true e] at k
          exact k _ (Ex.refl _)
        · rw [decide_eq_false e] at k
          walk_at "w"
          refine w_isTB ?_
          exact k _ (Ex.refl _)
      walk_at "w"
      refine w_ixT (i := 0) (v := .str kk) tt (atI_nat (j := 0) (xs := .str kk :: .str nm :: xr) rfl) ?_
      walk_at "w"
      intro pt hpt
      have e3 : Ex H2 (upd H2 pt (.tup [.str "flag", .str "number"])) := Ex.new hpt
      have g3 : (upd H2 pt (.tup [.str "flag", .str "number"])) pt = some (.tup ((["flag", "number"] : List Str).map V.str)) := upd_same
      generalize (upd H2 pt (.tup [.str "flag", .str "number"])) = H3 at e3 g3 ⊢
      have tt := Evl.ex_t e3 tt
      have hr1 := dpAll_ext e3 hr1
      have hdt := e3 _ _ hdt
      have hkv : Paired (TkRow H3) kvs tk := paired_imp (fun _ _ ⟨g1, a, g2, g3⟩ => ⟨g1, a, g2, e3 _ _ g3⟩) hkv
      have k : ∀ H', Ex H3 H' → Q (.bl (restB m ts kk dr)) H' := fun H' e => k H' (e3.trans e)
      walk_at "w"
      refine w_inT (SqT.of g3) rfl (flat_strs _) ?_
      rw [inV_str]
      walk_at "w"
      refine iteD (fun hf => ?_) (fun hf => ?_)
      · have n1 : ¬ kk = "link" := fun e => by rw [e] at hf; exact absurd hf (by decide +kernel)
        have n2 : ¬ kk = "word" := fun e => by rw [e] at hf; exact absurd hf (by decide +kernel)
        have er : restB m ts kk dr = true := by
          unfold restB
          rw [if_neg n1, decide_eq_false n2]
          rfl
        rw [er] at k
        walk_at "w"
        exact k _ (Ex.refl _)
      obtain ⟨rfl, ldr⟩ : kk = "link" ∧ dr.length = 3 := by
        rcases lenD_in hl' with ⟨h, _⟩ | ⟨h, _⟩ | ⟨h, _⟩ | h
        · exact absurd (by rw [h]; simp) hf
        · exact absurd (by rw [h]; simp) hf
        · exact absurd (by rw [h]) hw
        · exact h
      obtain ⟨d2, d3, d4, rfl⟩ : ∃ d2 d3 d4, dr = [d2, d3, d4] := by
        match dr, ldr with
        | [d2, d3, d4], _ => exact ⟨d2, d3, d4, rfl⟩
      have k : ∀ H', Ex H3 H' → Q (.bl (strD (fun x => decide (x ∈ ts.map (·.1))) d2 && (isBoQ d3 && tgtD m ts d4 d2))) H' := k
      cases hr1 with
      | @cons x2 _ _ _ hd2 hr2 =>
      cases hr2 with
      | @cons x3 _ _ _ hd3 hr3 =>
      cases hr3 with
      | @cons x4 _ _ _ hd4 hr4 =>
      cases hr4
      have z4 := hz _ rfl d4 (by simp)
      walk_at "w"
      refine w_isStr hd2 ?_
      cases hs2 : isStrD d2 with
      | false =>
        have er : strD (fun x => decide (x ∈ ts.map (·.1))) d2 = false := by cases d2 <;> first | rfl | cases hs2
        rw [er] at k
        walk_at "w"
        exact k _ (Ex.refl _)
      | true =>
      obtain ⟨tg, rfl⟩ : ∃ tg, d2 = .str tg := by cases d2 <;> first | exact ⟨_, rfl⟩ | cases hs2
      cases hd2
      have k : ∀ H', Ex H3 H' → Q (.bl (decide (tg ∈ ts.map (·.1)) && (isBoQ d3 && tgtD m ts d4 (.str tg)))) H' := k
      walk_at "w"
      refine ⟨dt, _, rfl, DGet.k (k := Sum.inr tg) hdt, ?_⟩
      rw [tk_has hkv, hok.ks]
      refine ⟨_, rfl, ?_⟩
      refine iteND (fun hm => ?_) (fun hm => ?_)
      · rw [decide_eq_false hm] at k
        walk_at "w"
        exact k _ (Ex.refl _)
      rw [decide_eq_true hm] at k
      obtain ⟨cs, g1⟩ := look_of hm
      obtain ⟨ls, g2⟩ := look_of (show tg ∈ m.map (·.1) by rw [hmk]; exact hm)
      obtain ⟨tl, t1, t2⟩ := hok.hs tg cs ls g1 g2
      obtain ⟨ta, v1, v2⟩ := tk_get hkv t1
      have et : tgtD m ts d4 (.str tg) = isListD cs ls d4 := by
        unfold tgtD
        simp only [g1, g2]
      rw [et, bo_dec hd3] at k
      have k : ∀ H', Ex H3 H' → Q (.bl ((decide (x3 = .bl true) || decide (x3 = .bl false)) && isListD cs ls d4)) H' := k
      have fin : ((decide (x3 = .bl true) || decide (x3 = .bl false)) = true) → ∀ H', Ex H3 H' → Q (.bl (isListD cs ls d4)) H' := fun h H' e => by
        have := k H' e
        rw [h] at this
        exact this
      walk_at "w"
      refine w_isTB ?_
      refine ⟨_, rfl, iteD (fun e3 => ?_) (fun e3 => ?_)⟩
      · have fk := fin (by rw [decide_eq_true e3]; rfl)
        walk_at "w"
        refine iteD (fun e4 => ?_) (fun e4 => ?_)
        · subst e4
          cases hd4
          exact fk _ (Ex.refl _)
        · have hdn : d4 ≠ .none := fun e => by subst e; cases hd4; exact e4 rfl
          walk_at "w"
          refine ⟨x4, d4, rfl, hd4, z4, fun H4 e6 => ?_⟩
          have hdt := e6 _ _ hdt
          have v2 := e6 _ _ v2
          walk_at "w"
          cases hb4 : strD nameB d4 with
          | false =>
            rw [isListD_no hdn hb4] at fk
            walk_at "w"
            exact fk _ e6
          | true =>
            obtain ⟨x, rfl, hx⟩ := strD_str hb4
            cases hd4
            have tt4 := Evl.ex_t e6 tt
            walk_at "w"
            refine ⟨dt, .ref ta, rfl, v1 ▸ DGet.k (k := Sum.inr tg) hdt, ?_⟩
            refine w_notInStr (SqL.of v2) ?_
            rw [← list_tk hx (t2 x)]
            exact fk _ e6
      · walk_at "w"
        refine w_isTB ?_
        refine ⟨_, rfl, ?_⟩
        refine iteND (fun e5 => ?_) (fun e5 => ?_)
        · rw [decide_eq_false e3, decide_eq_false e5] at k
          walk_at "w"
          exact k _ (Ex.refl _)
        · have fk := fin (by rw [decide_eq_true e5]; simp)
          walk_at "w"
          refine iteD (fun e4 => ?_) (fun e4 => ?_)
          · subst e4
            cases hd4
            exact fk _ (Ex.refl _)
          · have hdn : d4 ≠ .none := fun e => by subst e; cases hd4; exact e4 rfl
            walk_at "w"
            refine ⟨x4, d4, rfl, hd4, z4, fun H4 e6 => ?_⟩
            have hdt := e6 _ _ hdt
            have v2 := e6 _ _ v2
            walk_at "w"
            cases hb4 : strD nameB d4 with
            | false =>
              rw [isListD_no hdn hb4] at fk
              walk_at "w"
              exact fk _ e6
            | true =>
              obtain ⟨x, rfl, hx⟩ := strD_str hb4
              cases hd4
              have tt4 := Evl.ex_t e6 tt
              walk_at "w"
              refine ⟨dt, .ref ta, rfl, v1 ▸ DGet.k (k := Sum.inr tg) hdt, ?_⟩
              refine w_notInStr (SqL.of v2) ?_
              rw [← list_tk hx (t2 x)]
              exact fk _ e6
    | _ =>
      unfold isTuQ
      walk_at "w"
      exact k _ (Ex.refl _)
end
end LP
namespace LP
open PySem L2
open Evl (Ex)
/-! ### the names that are taken, table by table -/
abbrev TkA := List (Str × Addr × List Str)
def TkA.tk (rs : TkA) : List (Str × List Str) := rs.map fun r => (r.1, r.2.2)
def TkA.kvs (rs : TkA) : List (Key × V) := rs.map fun r => (.inr r.1, .ref r.2.1)
structure TkAt (H : Hp) (dt : Addr) (rs : TkA) : Prop where
  d : H dt = some (.dK rs.kvs)
  l : ∀ r ∈ rs, H r.2.1 = some (.lst (r.2.2.map V.str))
  na : (rs.map fun r => r.2.1).Nodup
  nk : (rs.map fun r => r.1).Nodup
theorem TkAt.rows {H : Hp} {dt : Addr} {rs : TkA} (h : TkAt H dt rs) : Paired (TkRow H) rs.kvs rs.tk := by
  have key : ∀ l : TkA, (∀ r ∈ l, r ∈ rs) → Paired (TkRow H) l.kvs l.tk := fun l => by
    induction l with
    | nil => exact fun _ => .nil
    | cons r l ih => exact fun hl => .cons ⟨rfl, r.2.1, rfl, h.l r (hl r List.mem_cons_self)⟩ (ih fun x hx => hl x (List.mem_cons_of_mem _ hx))
  exact key rs fun _ h => h
theorem TkAt.ext {H H' : Hp} {dt : Addr} {rs : TkA} (e : Ex H H') (h : TkAt H dt rs) : TkAt H' dt rs := ⟨e _ _ h.d, fun r hr => e _ _ (h.l r hr), h.na, h.nk⟩
/-- a list that is none of these changes -/
theorem TkAt.other {H : Hp} {dt a : Addr} {rs : TkA} {o : HO} {xs : List V} (h : TkAt H dt rs) (ha : H a = some (.lst xs)) (n : ∀ r ∈ rs, r.2.1 ≠ a) : TkAt (upd H a o) dt rs :=
  ⟨by rw [upd_ne (ne_of h.d ha (by intro z; cases z))]; exact h.d, fun r hr => by rw [upd_ne (n r hr)]; exact h.l r hr, h.na, h.nk⟩
def tkAdd (tg l : Str) (rs : TkA) : TkA := rs.map fun r => if r.1 = tg then (r.1, r.2.1, r.2.2 ++ [l]) else r
theorem tkAdd_key (tg l : Str) (rs : TkA) : (tkAdd tg l rs).map (fun r => r.1) = rs.map fun r => r.1 := by
  unfold tkAdd
  rw [List.map_map]
  refine List.map_congr_left fun r _ => ?_
  simp only [Function.comp]
  by_cases h : r.1 = tg
  · rw [if_pos h]
  · rw [if_neg h]
theorem tkAdd_adr (tg l : Str) (rs : TkA) : (tkAdd tg l rs).map (fun r => r.2.1) = rs.map fun r => r.2.1 := by
  unfold tkAdd
  rw [List.map_map]
  refine List.map_congr_left fun r _ => ?_
  simp only [Function.comp]
  by_cases h : r.1 = tg
  · rw [if_pos h]
  · rw [if_neg h]
theorem tkAdd_kvs (tg l : Str) (rs : TkA) : (tkAdd tg l rs).kvs = rs.kvs := by
  unfold tkAdd TkA.kvs
  rw [List.map_map]
  refine List.map_congr_left fun r _ => ?_
  simp only [Function.comp]
  by_cases h : r.1 = tg
  · rw [if_pos h]
  · rw [if_neg h]
theorem eq_of_keyA : ∀ {rs : TkA} {r r' : Str × Addr × List Str}, (rs.map fun r => r.1).Nodup → r ∈ rs → r' ∈ rs → r.1 = r'.1 → r = r'
  | x :: xs, r, r', nd, h, h', e => by
    rw [List.map_cons,
            List.nodup_cons] at nd
    rcases List.mem_cons.1 h with q | q
    · rcases List.mem_cons.mp h' with q' | q'
      · rw [q, q']
      · refine absurd (List.mem_map.mpr ⟨r', q', ?_⟩) nd.1
        rw [← e, q]
    · rcases List.mem_cons.mp h' with q' | q'
      · refine absurd (List.mem_map.mpr ⟨r, q, ?_⟩) nd.1
        rw [e, q']
      · exact eq_of_keyA nd.2 q q' e
theorem eq_of_adrA : ∀ {rs : TkA} {r r' : Str × Addr × List Str}, (rs.map fun r => r.2.1).Nodup → r ∈ rs → r' ∈ rs → r.2.1 = r'.2.1 → r = r'
  | x :: xs, r, r', nd, h, h', e => by
    rw [List.map_cons,
            List.nodup_cons] at nd
    rcases List.mem_cons.1 h with q | q
    · rcases List.mem_cons.mp h' with q' | q'
      · rw [q, q']
      · refine absurd (List.mem_map.mpr ⟨r', q', ?_⟩) nd.1
        rw [← e, q]
    · rcases List.mem_cons.mp h' with q' | q'
      · refine absurd (List.mem_map.mpr ⟨r, q, ?_⟩) nd.1
        rw [e, q']
      · exact eq_of_adrA nd.2 q q' e
theorem TkAt.add {H : Hp} {dt a : Addr} {rs : TkA} {tg l : Str} {ns : List Str} (h : TkAt H dt rs) (hr : (tg, a, ns) ∈ rs) : TkAt (upd H a (.lst (ns.map V.str ++ [.str l]))) dt (tkAdd tg l rs) := by
  have ha := h.l _ hr
  refine ⟨by rw [tkAdd_kvs, upd_ne (ne_of h.d ha (by intro z; cases z))]; exact h.d, fun r hr' => ?_, by rw [tkAdd_adr]; exact h.na, by rw [tkAdd_key]; exact h.nk⟩
  obtain ⟨r0, h0, rfl⟩ := List.mem_map.mp hr'
  by_cases e : r0.1 = tg
  · obtain rfl := eq_of_keyA h.nk h0 hr e
    rw [if_pos rfl]
    show upd H a _ a = _
    rw [upd_same, List.map_append]
    rfl
  · rw [if_neg e]
    rw [upd_ne (fun z => e (congrArg (fun r => r.1) (eq_of_adrA h.na h0 hr z)))]
    exact h.l r0 h0
theorem look_mapG {β γ : Type} {f : Str → β → γ} {n : Str} : ∀ m : List (Str × β), (m.map fun r => (r.1, f r.1 r.2)).lookup n = (m.lookup n).map (f n)
  | [] => rfl
  | r :: m => by
    rw [List.map_cons, List.lookup_cons, List.lookup_cons]
    by_cases e : n = r.1
    · subst e
      rw [show (r.1 == r.1) = true from beq_self_eq_true _]
      rfl
    · rw [show (n == r.1) = false from beq_eq_false_iff_ne.mpr e]
      exact look_mapG m
theorem tkAdd_look (tg l n : Str) (rs : TkA) : (tkAdd tg l rs).tk.lookup n = (rs.tk.lookup n).map fun ls => if n = tg then ls ++ [l] else ls := by
  have e : (tkAdd tg l rs).tk = rs.tk.map fun r => (r.1, (fun (k : Str) (ls : List Str) => if k = tg then ls ++ [l] else ls) r.1 r.2) := by
    unfold TkA.tk tkAdd
    rw [List.map_map,
            List.map_map]
    refine List.map_congr_left fun r _ => ?_
    simp only [Function.comp]
    by_cases h : r.1 = tg
    · rw [if_pos h]
      simp only [h, if_true]
    · rw [if_neg h]
      simp only [h, if_false]
  rw [e]
  exact look_mapG (f := fun (k : Str) (ls : List Str) => if k = tg then ls ++ [l] else ls) rs.tk
theorem TkOk.add {rs : TkA} {ts : Tabs} {m : List (Str × Lists)} {t : Str} {c : Col} {l : Str} (h : TkOk rs.tk ts m) (hl : c.lst = some l) : TkOk (tkAdd c.target l rs).tk ts (addCol t m c) := by
  refine ⟨?_, fun n cs ls g1 g2 => ?_⟩
  · have := h.ks
    unfold TkA.tk at this ⊢
    rw [List.map_map] at this ⊢
    exact (tkAdd_key c.target l rs).trans this
  · rw [addCol_look] at g2
    cases g3 : m.lookup n with
    | none => rw [g3] at g2; cases g2
    | some ls0 =>
      rw [g3] at g2
      have g2 : ls0 ++ (lstEnt t n c).toList = ls := Option.some.inj g2
      obtain ⟨tl, h1, h2⟩ := h.hs n cs ls0 g1 g3
      rw [tkAdd_look, h1]
      refine ⟨_, rfl, fun x => ?_⟩
      rw [← g2]
      have el : lstEnt t n c = if c.target = n then some (l, t, c.name) else none := by
        unfold lstEnt
        rw [hl]
      show x ∈ (if n = c.target then tl ++ [l] else tl) ↔ _
      by_cases e : n = c.target
      · rw [if_pos e, el, if_pos e.symm]
        simp [h2 x, or_assoc]
      · rw [if_neg e, el, if_neg (Ne.symm e)]
        simp [h2 x]
theorem TkOk.tab {rs : TkA} {ts : Tabs} {n : Str} {cs : List Col} {a : Addr} (h : TkOk rs.tk ts (cs.foldl (addCol n) (mirOf ts))) (hn : n ∉ ts.map (·.1)) : TkOk (TkA.tk (rs ++ [(n, a, cs.map Col.name)])) (ts ++ [(n, cs)]) (mirOf (ts ++ [(n, cs)])) := by
  have app : ∀ {β : Type} (m k : List (Str × β)) (x : Str), (m ++ k).lookup x = (m.lookup x).or (k.lookup x) := fun m k x => by
    induction m with
    | nil => rfl
    | cons r m ih =>
      rw [List.cons_append, List.lookup_cons, List.lookup_cons]
      cases (x == r.1) with
      | true => rfl
      | false => exact ih
  have none_of : ∀ {β : Type} {m : List (Str × β)} {x : Str}, x ∉ m.map (·.1) → m.lookup x = none := fun {β m x} => by
    induction m with
    | nil => exact fun _ => rfl
    | cons r m ih =>
      intro h
      rw [List.map_cons, List.mem_cons, not_or] at h
      rw [List.lookup_cons, show (x == r.1) = false from beq_eq_false_iff_ne.mpr h.1]
      exact ih h.2
  have tke : TkA.tk (rs ++ [(n, a, cs.map Col.name)]) = rs.tk ++ [(n, cs.map Col.name)] := by
    unfold TkA.tk
    rw [List.map_append]
    rfl
  rw [tke, mirOf_snoc]
  refine ⟨by rw [List.map_append, List.map_append, h.ks]; rfl, fun x cs' ls' g1 g2 => ?_⟩
  rw [app] at g1 g2
  by_cases hx : x ∈ ts.map (·.1)
  · obtain ⟨c0, e0⟩ := look_of hx
    rw [e0] at g1
    have g1 : c0 = cs' := Option.some.inj g1
    subst g1
    cases e1 : (cs.foldl (addCol n) (mirOf ts)).lookup x with
    | none =>
      rw [e1] at g2
      have xn : x = n := by
        by_cases q : x = n
        · exact q
        · have g2 : ([(n, [])] : List (Str × Lists)).lookup x = some ls' := g2
          rw [List.lookup_cons, show (x == n) = false from beq_eq_false_iff_ne.mpr q] at g2
          cases g2
      rw [xn] at hx
      exact absurd hx hn
    | some ls0 =>
      rw [e1] at g2
      have g2 : ls0 = ls' := Option.some.inj g2
      subst g2
      obtain ⟨tl, h1, h2⟩ := h.hs x c0 ls0 e0 e1
      exact ⟨tl, by rw [app, h1]; rfl, h2⟩
  · rw [none_of hx] at g1
    have xn : x = n := by
      by_cases q : x = n
      · exact q
      · have g1 : ([(n, cs)] : Tabs).lookup x = some cs' := g1
        rw [List.lookup_cons, show (x == n) = false from beq_eq_false_iff_ne.mpr q] at g1
        cases g1
    subst xn
    have g1 : ([(x, cs)] : Tabs).lookup x = some cs' := g1
    rw [List.lookup_cons, show (x == x) = true from beq_self_eq_true _] at g1
    have g1 : cs = cs' := Option.some.inj g1
    subst g1
    have hk : x ∉ rs.tk.map (·.1) := by rw [h.ks]; exact hx
    refine ⟨cs.map Col.name, by rw [app, none_of hk]; show ([(x, cs.map Col.name)] : List (Str × List Str)).lookup x = _; rw [List.lookup_cons, show (x == x) = true from beq_self_eq_true _], fun y => ?_⟩
    have l0 : ls' = [] := by
      cases e1 : (cs.foldl (addCol x) (mirOf ts)).lookup x with
      | none =>
        rw [e1] at g2
        have g2 : ([(x, [])] : List (Str × Lists)).lookup x = some ls' := g2
        rw [List.lookup_cons, show (x == x) = true from beq_self_eq_true _] at g2
        exact (Option.some.inj g2).symm
      | some q =>
        exfalso
        have := PySem.mem_of_lookup e1
        have : x ∈ (cs.foldl (addCol x) (mirOf ts)).map (·.1) := List.mem_map.mpr ⟨_, this, rfl⟩
        rw [foldl_addKey] at this
        have key : ∀ l : Tabs, (mirOf l).map (·.1) = l.map (·.1) := fun l => by
          have gen : ∀ (l : Tabs) (m : List (Str × Lists)), (l.foldl (fun m t => t.2.foldl (addCol t.1) m ++ [(t.1, [])]) m).map (·.1) = m.map (·.1) ++ l.map (·.1) := fun l => by
            induction l with
            | nil => intro m; simp
            | cons t l ih =>
              intro m
              rw [List.foldl_cons, ih, List.map_append, foldl_addKey]
              simp
          have := gen l []
          simpa [mirOf] using this
        rw [key] at this
        exact hx this
    rw [l0]
    simp
theorem addCol_none {t : Str} {m : List (Str × Lists)} {c : Col} (h : c.lst = none) : addCol t m c = m := by
  unfold addCol
  rw [h]
end LP
namespace LP
open PySem L2
open Evl (Ex)
section
variable {base : Heap} {mg : Str → Option Value} {K : PySem.W.Frag} {w : World} {P : Program} {ra C CB fI : Addr} {fdI : FuncData}
theorem ok_take_columnsG {f : Addr} {fd : FuncData} (S : SchC K C) (me : Meth K C "_take_columns" f) (F : C8.Fun K "_take_columns" "Schema._take_columns" s_Schema__take_columns f fd) (b : Binds K fd ["self", "index", "table", "columns"] []) (B : Blt mg)
    (NX : ExV P w K mg base "BadSchema" CB fI fdI ["self", "table", "column"] 1 (spEx2 CB "table" "column")) (c_has_list : C8.Cal P w K mg base 2 "has_list" spHasList []) (c__is_column : C8.Met P w K mg base 5 C "_is_column" (spIsColumnG K C) []) :
    MetX P w K mg base 6 C "_take_columns" (spTakeColsG K C CB) := by
  have sc : FnScope ["self", "index", "table", "columns", "taken", "at", "column", "earlier"] ["self", "index", "table", "columns"] (C8.fnScope s_Schema__take_columns) := C8.fnScope_by (by decide +kernel)
  refine ⟨f, fd, _, S.cls, me, fnX F sc (fun vs H Q E h => ?_) (fun cdv A outer s H vs Q E hr h => ?_), b⟩
  · obtain ⟨_, _, _, _, _, _, _, _, _, _, _, rfl, _⟩ := h
    rfl
  · obtain ⟨p, q, i, t, xs, ds, dc, dl, cvs, rs, ts, rfl, hP, hq, hc, hn1, hn2, hts, hnt, hmk, hls, k, kE⟩ := h
    have lx := paired_len hc
    have dic := hP.dicts
    refine ⟨_, (pss_cons (ps_set (i := 4) sc.nd rfl (Or.inl rfl) (pe_lst pa_nil))
        (pss_cons (ps_for (passes_of rfl) rfl (pi_enumK (K := K) rfl (by rfl) B.enumerate_ (pa_cons (pv 3) pa_nil)) (pg_tupK (K := K) (n := 2) rfl rfl (pgs_cons (pg_name (i := 5) sc.nd rfl (Or.inl rfl)) (pgs_cons (pg_name (i := 6) sc.nd rfl (Or.inl rfl)) pgs_nil)))
        (pss_cons (ps_if (pt_not (pt_val (C8.pe_mt c__is_column hr (by decide) (pv 0) (pa_cons (pv 6) (pa_cons (pe_lc (own := [("earlier", 7)]) (g := (gName 7)) (by rfl) sc.nd (pi_listK (K := K) rfl (pv 4)) (blkOk_by (own := [("earlier", 7)]) (N := ["self", "index", "table", "columns", "taken", "at", "column", "earlier"]) (sc := C8.fnScope s_Schema__take_columns) (by decide +kernel)) (fun _ _ _ _ _ => (pg_name (i := 7) sc.nd rfl (Or.inl rfl))) (fun _ _ _ _ _ => pts_nil) (fun _ _ _ _ _ => (pe_ix (ix_tupK (K := K) rfl) (pv 7) pe_int (fun _ _ => rfl)))) pa_nil)))))
        (pss_one (ps_raiseV rfl (takes_of rfl rfl rfl rfl) (pmk_V NX hr (by decide) rfl (pa_cons (pv 1) (pa_cons (pv 5) pa_nil)))))
        pss_nil)
        (pss_cons (ps_if (pt_val (C8.pe_c c_has_list hr (by decide) rfl (pa_cons (pv 6) pa_nil)))
        (pss_one (ps_dput (hu_of hr) (pe_dget (hu_of hr) (pe_fldK (K := K) rfl (pv 0) rfl) (pe_ix (ix_tupK (K := K) rfl) (pv 6) pe_int (fun _ _ => rfl)) (fun _ _ => rfl)) (pe_ix (ix_tupK (K := K) rfl) (pv 6) pe_int (fun _ _ => rfl)) (pe_tup (pa_cons (pv 2) (pa_cons (pe_ix (ix_tupK (K := K) rfl) (pv 6) pe_int (fun _ _ => rfl)) pa_nil))) rfl))
        pss_nil)
        (pss_one (ps_expr (pe_bmK (K := K) rfl PySem.F.plainAttrs_list PySem.F.slot_list_append PySem.F.type_list_append mt_append (pv 4) (pa_cons (pv 6) pa_nil)))))))
        (pss_cons (ps_dput (hu_of hr) (pe_fldK (K := K) rfl (pv 0) rfl) (pv 2) (pe_callTy (call_tuple_ofK (K := K) rfl) (by rfl) B.tuple_ (by decide +kernel) (pa_cons (pv 4) pa_nil)) rfl)
        (pss_one (ps_dput (hu_of hr) (pe_fldK (K := K) rfl (pv 0) rfl) (pv 2) pe_dnewK rfl))))), ?_⟩
    walk_at "w"
    intro tk htk
    have hq0 : SqL K (L2.upd H tk (.lst [])) q xs := Evl.ex_l (Ex.new htk) hq
    walk_at "w"
    refine loopE (xs := xs) (fun d r σ' H' => ∃ x5 x6 md dr, σ' = [some (.ref p), some i, some (.str t), some (.ref q), some (.ref tk), x5, x6, none] ∧ takeF t rs.mir ts md dr = takeF t rs.mir ts [] ds ∧ ColsV H' d md ∧ Paired (ColD K H) r dr ∧ d.length + r.length = ds.length ∧
      H' tk = some (.lst d) ∧ ExO (rs.own dc dl) H H' ∧ Part C H' p dc dl cvs (md.foldl (rsAdd t) rs) ts)
      ⟨_, _, [], ds, rfl, rfl, .nil, hc, by simp [lx], upd_same, ExO.of (Ex.new htk), hP.ext (Ex.new htk)⟩ (fun d r σ' H' e h => ?_) (fun d y r σ' H' Tp e hTp h => ?_) (fun σ' H' h => ?_)
    · obtain ⟨x5, x6, md, dr, rfl, et, h1, h2, ln, h3, h4, h5⟩ := h
      exact sqL_exO dic h4 hq
    · obtain ⟨x5, x6, md, dr, rfl, et, h1, h2, ln, h3, h4, h5⟩ := h
      obtain ⟨d0, dr', rfl, hy, h2'⟩ := paired_cons h2
      have ld := paired_len h1
      rw [List.length_cons] at ln
      have hdl : d.length < sizeLine := Nat.lt_of_le_of_lt (m := 20) (by omega) (by decide)
      have h5n := h5.ext (Ex.new (o := .tup [.int (d.length : Nat), y]) hTp)
      have hTt : (L2.upd H' Tp (.tup [.int (d.length : Nat), y])) Tp = some (.tup [.int (d.length : Nat), y]) := upd_same
      have exT : Ex H' (L2.upd H' Tp (.tup [.int (d.length : Nat), y])) := Ex.new hTp
      generalize (L2.upd H' Tp (.tup [.int (d.length : Nat), y])) = H1 at h5n hTt exT ⊢
      obtain ⟨⟨dx, fs, i1, i2⟩, _, _, _, _, _, _, _, _⟩ := id h5n
      have htk1 : SqL K H1 tk d := SqL.of (exT _ _ h3)
      walk_at "w"
      refine w_kMeth i1 (i2.no _ (by decide)) ?_
      walk_at "w"
      intro D hD
      refine compQ md (ColAt H1) (fun c => some c.name) (fun v x => v = V.str x) hD (SqL.of (exT _ _ h3)) (by omega) (h1.ext exT) (fun y z hy hm H3 e3 kk kn hk hn => ?_) (fun acc H3 e3 hacc hp => ?_)
      · obtain ⟨a, rfl, ha⟩ := hy
        have ha3 := e3 _ _ ha
        walk_at "w"
        refine w_ixT (SqT.of ha3) z.at1 ?_
        exact hk _ _ _ (Ex.refl _) rfl rfl
      · rw [filterMap_some] at hp
        have ev := vals_strs hp
        walk_at "w"
        have h53 := h5n.ext e3
        have hO3 : ExO (rs.own dc dl) H H3 := h4.trans (.of (exT.trans e3))
        have hy3 := hy.exO dic hO3
        refine ⟨p, D, y, d0, md.map Col.name, dc, dl, cvs, _, ts, rfl, h53, hy3.dp, hy3.sz, SqL.of (ev ▸ hacc), hts, by rw [← hmk]; unfold Rows.mir; rw [List.map_map, List.map_map]; exact foldl_key t md rs, fun H4 e4 => ?_⟩
        rw [foldl_mir]
        have ex4 : Ex H' H4 := (exT.trans e3).trans e4
        have hO4 : ExO (rs.own dc dl) H H4 := h4.trans (.of ex4)
        walk_at "w"
        cases hcb : colB (md.map Col.name) (md.foldl (addCol t) rs.mir) ts d0 with
        | false =>
          rw [takeF_no hcb] at et
          walk_at "w"
          refine ⟨by show 2 ≤ 1000; omega, fun a ha => raised2 (fun dd H' e hdd => ?_) a ha⟩
          exact kE md.length et.symm dd H' (hO4.trans (.of e)) (by rw [← ld]; exact hdd)
        | true =>
        obtain ⟨c, hco, rfl, cin⟩ := colB_col hts hcb
        rw [takeF_cons hcb hco] at et
        obtain ⟨ca, rfl, hca0⟩ := hy.at_ c rfl
        have hca : H' ca = some (.tup c.vals) := by
          obtain ⟨a, e, g⟩ := (hy.exO dic h4).at_ c rfl
          cases e
          exact g
        have hc4 : ColAt H4 (.ref ca) c := ⟨ca, rfl, ex4 _ _ hca⟩
        walk_at "w"
        refine ⟨.ref ca, c, rfl, hc4, ?_⟩
        have h54 : Part C H4 p dc dl cvs (md.foldl (rsAdd t) rs) ts := h5.ext ex4
        have htk4 : H4 tk = some (.lst d) := ex4 _ _ h3
        have tail : ∀ (H5 : Hp), Part C H5 p dc dl cvs ((md ++ [c]).foldl (rsAdd t) rs) ts → ExO (rs.own dc dl) H H5 → ColsV H5 d md → ColAt H5 (.ref ca) c → H5 tk = some (.lst d) →
            ∃ x5 x6 md' dr, ([some (.ref p), some i, some (.str t), some (.ref q), some (.ref tk), some (.int (d.length : Nat)), some (.ref ca), none] : L2.St) = [some (.ref p), some i, some (.str t), some (.ref q), some (.ref tk), x5, x6, none] ∧ takeF t rs.mir ts md' dr = takeF t rs.mir ts [] ds ∧ ColsV (L2.upd H5 tk (.lst (d ++ [.ref ca]))) (d ++ [.ref ca]) md' ∧ Paired (ColD K H) r dr ∧ (d ++ [V.ref ca]).length + r.length = ds.length ∧
              (L2.upd H5 tk (.lst (d ++ [.ref ca]))) tk = some (.lst (d ++ [.ref ca])) ∧ ExO (rs.own dc dl) H (L2.upd H5 tk (.lst (d ++ [.ref ca]))) ∧ Part C (L2.upd H5 tk (.lst (d ++ [.ref ca]))) p dc dl cvs (md'.foldl (rsAdd t) rs) ts := fun H5 g1 g2 g3 g4 g6 =>
          ⟨_, _, md ++ [c], dr', rfl, et, paired_app (g3.upd g6) (.cons (g4.upd g6) .nil), h2', by rw [List.length_append, List.length_cons, List.length_nil]; omega, upd_same, g2.mut htk, g1.upd g6⟩
        walk_at "w"
        refine iteB (fun hL => ?_) (fun hL => ?_)
        · obtain ⟨l, hl⟩ : ∃ l, c.lst = some l := Option.isSome_iff_exists.mp hL
          have hK := Col.lst_link hl
          have hca4 : H4 ca = some (.tup c.vals) := ex4 _ _ hca
          walk_at "w"
          refine w_ixT (SqT.of hca4) c.at1 ?_
          walk_at "w"
          intro bb hbb
          have ex5 : Ex H4 (L2.upd H4 bb (.tup [.str t, .str c.name])) := Ex.new hbb
          have hbb5 : (L2.upd H4 bb (.tup [.str t, .str c.name])) bb = some (.tup [.str t, .str c.name]) := upd_same
          generalize (L2.upd H4 bb (.tup [.str t, .str c.name])) = H5 at ex5 hbb5 ⊢
          have h55 := h54.ext ex5
          have hca5 : H5 ca = some (.tup c.vals) := ex5 _ _ hca4
          obtain ⟨⟨dx5, fs5, i5, j5⟩, _, _, _, _, _, _, _, _⟩ := id h55
          obtain ⟨cs', ls', e1, e2, e3', e4', e5'⟩ := cin.lk hK
          obtain ⟨la, l1, l2⟩ := rows_get (rs := md.foldl (rsAdd t) rs) (by rw [foldl_mir]; exact e2)
          obtain ⟨kvs, m1, m2⟩ := h55.lst _ l2
          have m1 : H5 la = some (.dK kvs) := m1
          have m2 : Paired (ListEnt H5) kvs ls' := m2
          walk_at "w"
          refine w_kFld i5 S.cls S.lists_ j5.l ?_
          walk_at "w"
          refine w_ixT (SqT.of hca5) (Col.at2 hK) ?_
          refine w_kG h55.hdl l1 ?_
          walk_at "w"
          refine w_ixT (SqT.of hca5) (Col.at4 hK) ?_
          rw [hl]
          have hlen : kvs.length < sizeLine := by
            have a1 := foldl_lens t md rs 500 hls _ l2
            have a2 : kvs.length = ls'.length := paired_len m2
            have a3 : ls'.length ≤ 500 + md.length := a1
            have a4 : md.length ≤ 20 := by omega
            exact Nat.lt_of_le_of_lt (m := 1000) (by omega) (by decide)
          refine ⟨la, _, rfl, DPut.k (k := Sum.inr l) m1 hlen, ?_⟩
          rw [putK_new (show valV kvs (Sum.inr l : Key) = none from ?_)]
          · have hla : la ∈ rs.own dc dl := by
              rw [← own_eq dc dl t md rs]
              exact List.mem_cons_of_mem _ (List.mem_cons_of_mem _ (List.mem_map.mpr ⟨_, l2, rfl⟩))
            have h6 : Part C (L2.upd H5 la (.dK (kvs ++ [(.inr l, .ref bb)]))) p dc dl cvs ((md ++ [c]).foldl (rsAdd t) rs) ts := by
              rw [List.foldl_append]
              exact h55.addList hl l2 m1 m2 hbb5
            have tk6 : (L2.upd H5 la (.dK (kvs ++ [(.inr l, .ref bb)]))) tk = some (.lst d) := by
              rw [upd_ne (ne_of (ex5 _ _ htk4) m1 (by intro z; cases z))]
              exact ex5 _ _ htk4
            have T6 := tail _ h6 ((hO4.trans (.of ex5)).put hla) (((h1.ext ex4).ext ex5).put m1) ((hc4.ext ex5).put m1) tk6
            generalize (L2.upd H5 la (.dK (kvs ++ [(.inr l, .ref bb)]))) = H6 at h6 tk6 T6 ⊢
            walk_at "w"
            exact T6
          · have e6 : isListB cs' ls' (some l) = true := hl ▸ e5'
            unfold isListB at e6
            simp only [Bool.and_eq_true, Bool.not_eq_true', decide_eq_false_iff_not] at e6
            have := ListRow.has (a := la) m2 l
            rw [decide_eq_false e6.2] at this
            cases ev : valV kvs (Sum.inr l : Key) with
            | none => rfl
            | some v => rw [ev] at this; cases this
        · have T4 := tail H4 (by
              rw [List.foldl_append]
              show Part C H4 p dc dl cvs (rsAdd t (md.foldl (rsAdd t) rs) c) ts
              unfold rsAdd
              rw [show c.lst = none from Option.not_isSome_iff_eq_none.mp (by rw [hL]; exact Bool.false_ne_true)]
              exact h54) hO4 (h1.ext ex4) hc4 htk4
          walk_at "w"
          exact T4
    · obtain ⟨x5, x6, md, dr, rfl, et, h1, h2, ln, h3, h4, h5⟩ := h
      cases h2
      rw [show takeF t rs.mir ts md [] = .inr md from rfl] at et
      walk_at "w"
      refine w_tupL (SqL.of h3) fun T hT => ?_
      have ex1 : Ex H' (L2.upd H' T (.tup xs)) := Ex.new hT
      have hT1 : (L2.upd H' T (.tup xs)) T = some (.tup xs) := upd_same
      generalize (L2.upd H' T (.tup xs)) = H1 at ex1 hT1 ⊢
      have h51 := h5.ext ex1
      obtain ⟨⟨dx, fs, i1, i2⟩, g3, g4, g5, g6, g7, g8, g9, g10⟩ := id h51
      walk_at "w"
      refine w_kFld i1 S.cls S.columns_ i2.c ?_
      walk_at "w"
      have lc : cvs.length = ts.length := paired_len g4
      refine ⟨dc, _, rfl, DPut.k (k := Sum.inr t) g3 (Nat.lt_of_le_of_lt (m := 100) (by omega) (by decide)), ?_⟩
      rw [putK_new (show valV cvs (Sum.inr t : Key) = none from ?_)]
      · have kz : t ∉ (md.foldl (rsAdd t) rs).map fun r => r.1 := by
          rw [foldl_key]
          rw [← hmk] at hnt
          unfold Rows.mir at hnt
          rw [List.map_map] at hnt
          exact hnt
        have adt := fun D hD => h51.addTab (t := t) (D := D) hT1 (h1.ext ex1) kz hD
        have st : ∀ {a : Addr} {u : HO}, H1 a = some u → a ≠ dc → (L2.upd H1 dc (.dK (cvs ++ [(.inr t, .ref T)]))) a = some u := fun {a u} e n => by rw [upd_ne n]; exact e
        have i3 := st i1 (ne_of i1 g3 (by intro z; cases z))
        have g5' := st g5 (Ne.symm g8)
        have fr : ∀ D, (L2.upd H1 dc (.dK (cvs ++ [(.inr t, .ref T)]))) D = none → H1 D = none := fun D hD => by
          by_cases e : D = dc
          · rw [e, upd_same] at hD
            cases hD
          · rw [upd_ne e] at hD
            exact hD
        have thO : ExO (rs.own dc dl) H H1 := h4.trans (.of ex1)
        walk_at "w"
        intro D hD
        have i4 := (Ex.new (o := .dK []) hD) _ _ i3
        have g6' := (Ex.new (o := .dK []) hD) _ _ g5'
        walk_at "w"
        refine w_kFld i4 S.cls S.lists_ i2.l ?_
        walk_at "w"
        refine ⟨dl, _, rfl, DPut.k (k := Sum.inr t) g6' ?_, ?_⟩
        · have e1 : (md.foldl (rsAdd t) rs).kvs.length = ts.length := by
            rw [foldl_kvs]
            have := congrArg List.length hmk
            unfold Rows.mir at this
            simp only [List.length_map] at this
            show (rs.map _).length = _
            rw [List.length_map]
            exact this
          exact Nat.lt_of_le_of_lt (m := 100) (by omega) (by decide)
        · rw [putK_new (rows_none kz)]
          have HD1 : H D = none := thO.back (by rw [← own_eq dc dl t md rs]; exact fun a ha => let ⟨kv, e⟩ := h51.there a ha; ⟨_, e⟩) (fr D hD)
          have hf := adt D hD
          have ek : Rows.kvs (md.foldl (rsAdd t) rs ++ [(t, D, [])]) = (md.foldl (rsAdd t) rs).kvs ++ [(.inr t, .ref D)] := by
            unfold Rows.kvs
            rw [List.map_append]
            rfl
          rw [ek] at hf
          exact k md et.symm T D _ HD1 (((thO.put List.mem_cons_self).mut HD1).put (List.mem_cons_of_mem _ List.mem_cons_self)) hf
      · have := h51.has t
        rw [decide_eq_false hnt] at this
        cases ev : valV cvs (Sum.inr t : Key) with
        | none => rfl
        | some v => rw [ev] at this; cases this
end
end LP
namespace LP
open PySem L2
open Evl (Ex)
/-- a table of any values -/
def TabD (K : PySem.W.Frag) (H : Hp) (v : V) (x : PyData × List PyData) : Prop := ∃ (a cq : Addr) (cvs : List V) (nv : V), v = .ref a ∧ SqT K H a [nv, .ref cq] ∧ Dp K H nv x.1 ∧ (∀ y, x.1 = .str y → y.length ≤ 4000) ∧ SqL K H cq cvs ∧ Paired (ColD K H) cvs x.2
theorem TabD.exO {K : PySem.W.Frag} {own : List Addr} {H H' : Hp} {v : V} {x : PyData × List PyData} (o : DictsAt own H) (e : ExO own H H') (h : TabD K H v x) : TabD K H' v x := by
  obtain ⟨a, cq, cvs, nv, ev, ha, hd, hs, hq, hc⟩ := h
  exact ⟨a, cq, cvs, nv, ev, sqT_exO o e ha, dp_exO o e hd, hs, sqL_exO o e hq, paired_imp (fun _ _ h => h.exO o e) hc⟩
def spInitG (K : PySem.W.Frag) (C CB : Addr) : Sp := fun vs H Q E => ∃ (p q dx : Addr) (uv : V) (ud : PyData) (xs : List V) (tabs : List (PyData × List PyData)), vs = [.ref p, uv, .ref q] ∧ H p = some (.ins C dx []) ∧ SqL K H q xs ∧ Paired (TabD K H) xs tabs ∧ tabs.length ≤ 1000 ∧ (∀ x ∈ tabs, x.2.length ≤ 1000) ∧ Dp K H uv ud ∧
  (∀ u ts, ud = .str u → tabsF [] tabs = .inr ts → u ∈ ts.map (·.1) → initF ud tabs = none → ∀ H', ExO [p] H H' → SchAt C H' p u ts → Q .non H') ∧ ∀ k i, initF ud tabs = some (k, i) → ∀ dd H', ExO [p] H H' → H' dd = some (.xd [("column", .int i), ("table", .int k)]) → E (.ref CB) (some dd) H'
section
variable {base : Heap} {mg : Str → Option Value} {K : PySem.W.Frag} {w : World} {P : Program} {ra C CB fI : Addr} {fdI : FuncData}
theorem ok_initG {f : Addr} {fd : FuncData} {mc : Value} (S : SchC K C) (M : Mk K C f) (F : C8.Fun K "__init__" "Schema.__init__" s_Schema___init__ f fd) (B : Blt mg) (T : Cns K mg ra C) (NX : ExV P w K mg base "BadSchema" CB fI fdI ["self", "table", "column"] 1 (spEx2 CB "table" "column"))
    (c_is_name : SCal P w K mg base 3 C mc "is_name" (spAsk K (strD nameB))) (c___contains__ : C8.Met P w K mg base 1 C "__contains__" (spContains K C) []) (m__take_columns : MetX P w K mg base 6 C "_take_columns" (spTakeColsG K C CB))
    (c__meets : CalX P w K mg base 3 "_meets" (spMeetsX K CB)) (c_write_lines : C8.Cal P w K mg base 4 "write_lines" spWriteLines []) :
    FnOk P w K mg base (L2.CX P w) 7 f fd ["self", "user", "tables"] (spInitG K C CB) := by
  have sc : FnScope ["self", "user", "tables", "meeting", "index", "name", "columns"] ["self", "user", "tables"] (C8.fnScope s_Schema___init__) := C8.fnScope_by (by decide +kernel)
  refine fnX F sc (fun vs H Q E h => ?_) (fun cdv A outer s H vs Q E hr h => ?_)
  · obtain ⟨_, _, _, _, _, _, _, rfl, _⟩ := h
    rfl
  · obtain ⟨p, q, dx, uv, ud, xs, tabs, rfl, hp, hq, hx, l1, lc, hud, k, kE⟩ := h
    have lx := paired_len hx
    have insP := insAt_of hp
    refine ⟨_, (pss_cons (ps_if (pt_not (pt_chain op_le op_le pe_int (pe_callB (call_len_seqK (K := K) rfl) (by rfl) B.len_ (by decide +kernel) (pa_cons (pv 2) pa_nil)) (C8.pe_gc rfl T.MOST_TABLES_)))
        (pss_one (ps_raiseV rfl (takes_of rfl rfl rfl rfl) (pmk_V NX hr (by decide) rfl (pa_cons (pe_un un_neg pe_int) (pa_cons (pe_un un_neg pe_int) pa_nil)))))
        pss_nil)
        (pss_cons (ps_fldK (K := K) rfl (pv 0) pe_dnewK rfl)
        (pss_cons (ps_fldK (K := K) rfl (pv 0) pe_dnewK rfl)
        (pss_cons (ps_set (i := 3) sc.nd rfl (Or.inl rfl) pe_dnewK)
        (pss_cons (ps_for (passes_of rfl) rfl (pi_enumK (K := K) rfl (by rfl) B.enumerate_ (pa_cons (pv 2) pa_nil)) (pg_tupK (K := K) (n := 2) rfl rfl (pgs_cons (pg_name (i := 4) sc.nd rfl (Or.inl rfl)) (pgs_cons (pg_tupK (K := K) (n := 2) rfl rfl (pgs_cons (pg_name (i := 5) sc.nd rfl (Or.inl rfl)) (pgs_cons (pg_name (i := 6) sc.nd rfl (Or.inl rfl)) pgs_nil))) pgs_nil)))
        (pss_cons (ps_if (PW.pt (pw_or (pt_not (pt_val (pe_sm c_is_name hr (by decide) (C8.pe_gc rfl T.Schema_) (pa_cons (pv 5) pa_nil)))) (pw_or (pt_cmp (pc_din (hu_of hr) (pv 5) (pe_fldK (K := K) rfl (pv 0) rfl))) (pw_or1 (pt_cmpR op_gt (pe_callB (call_len_seqK (K := K) rfl) (by rfl) B.len_ (by decide +kernel) (pa_cons (pv 6) pa_nil)) (C8.pe_gc rfl T.MOST_COLUMNS_) (nomark _))))))
        (pss_one (ps_raiseV rfl (takes_of rfl rfl rfl rfl) (pmk_V NX hr (by decide) rfl (pa_cons (pv 4) (pa_cons (pe_un un_neg pe_int) pa_nil)))))
        pss_nil)
        (pss_cons (ps_expr ((pe_mx m__take_columns hr (by decide) (passE (takes_of rfl rfl rfl rfl)) (pv 0) (pa_cons (pv 4) (pa_cons (pv 5) (pa_cons (pv 6) pa_nil))))))
        (pss_one (ps_dput (hu_of hr) (pv 3) (pv 5) ((pe_cx c__meets hr (by decide) (passE (takes_of rfl rfl rfl rfl)) rfl (pa_cons (pv 4) (pa_cons (pe_dget (hu_of hr) (pe_fldK (K := K) rfl (pv 0) rfl) (pv 5) (fun _ _ => rfl)) (pa_cons (pv 3) pa_nil))))) rfl)))))
        (pss_cons (ps_if (pt_cmpR (op_onin (dvs := []) c___contains__ hr (by decide)) (pv 1) (pv 0) (by rfl))
        (pss_one (ps_raiseV rfl (takes_of rfl rfl rfl rfl) (pmk_V NX hr (by decide) rfl (pa_cons (pe_callB (call_len_seqK (K := K) rfl) (by rfl) B.len_ (by decide +kernel) (pa_cons (pv 2) pa_nil)) (pa_cons (pe_un un_neg pe_int) pa_nil)))))
        pss_nil)
        (pss_cons (ps_fldK (K := K) rfl (pv 0) (pv 1) rfl)
        (pss_cons (ps_fldK (K := K) rfl (pv 0) (pe_callTy (call_tupD rfl) (by rfl) B.tuple_ (by decide +kernel) (pa_cons (pe_fldK (K := K) rfl (pv 0) rfl) pa_nil)) rfl)
        (pss_one (ps_fldK (K := K) rfl (pv 0) (C8.pe_c c_write_lines hr (by decide) rfl (pa_cons (pv 1) (pa_cons (pe_fldK (K := K) rfl (pv 0) rfl) pa_nil))) rfl)))))))))), ?_⟩
    have bad : ∀ {H1 : Hp} {k i : Int}, ExO [p] H H1 → initF ud tabs = some (k, i) → Bad2 CB "table" "column" (.int k) (.int i) H1 E := fun e h dd H' e' hdd => kE _ _ h dd H' (e.trans (.of e')) hdd
    walk_at "w"
    refine iteD (fun h1 => ?_) (fun h1 => ?_)
    rotate_left
    · have i0 : initF ud tabs = some (-1, -1) := by
        unfold initF
        rw [if_neg (by omega)]
      walk_at "w"
      exact ⟨by show 2 ≤ 1000; omega, fun a ha => raised2 (bad .refl i0) a ha⟩
    walk_at "w"
    refine iteND (fun h2 => ?_) (fun h2 => ?_)
    · have i0 : initF ud tabs = some (-1, -1) := by
        unfold initF
        rw [if_neg (by omega)]
      walk_at "w"
      exact ⟨by show 2 ≤ 1000; omega, fun a ha => raised2 (bad .refl i0) a ha⟩
    have l16 : 1 ≤ tabs.length ∧ tabs.length ≤ 6 := by omega
    have iF : ∀ kk o, tabsF [] tabs = .inl (kk, o) → initF ud tabs = some (((kk : Nat) : Int), placeI o) := fun kk o e => by
      unfold initF
      rw [if_pos l16, e]
    walk_at "w"
    intro dc hdc
    have hp1 : (L2.upd H dc (.dK [])) p = some (.ins C dx []) := by rw [upd_ne (ne_of_none hp hdc)]; exact hp
    have hc1 : (L2.upd H dc (.dK [])) dc = some (.dK []) := upd_same
    have x1 : ExO [p] H (L2.upd H dc (.dK [])) := ExO.of (Ex.new hdc)
    generalize (L2.upd H dc (.dK [])) = H1 at hp1 hc1 x1 ⊢
    walk_at "w"
    refine w_kSfld hp1 S.cls S.columns_ (by decide) ?_
    have hp2 : (L2.upd H1 p (.ins C dx (putF "_columns" (.ref dc) []))) p = some (.ins C dx (putF "_columns" (.ref dc) [])) := upd_same
    have hc2 : (L2.upd H1 p (.ins C dx (putF "_columns" (.ref dc) []))) dc = some (.dK []) := by rw [upd_ne (ne_of hc1 hp1 (by intro z; cases z))]; exact hc1
    have x2 : ExO [p] H (L2.upd H1 p (.ins C dx (putF "_columns" (.ref dc) []))) := x1.put List.mem_cons_self
    generalize (L2.upd H1 p (.ins C dx (putF "_columns" (.ref dc) []))) = H2 at hp2 hc2 x2 ⊢
    have one : ∀ {a : Addr}, a ∈ [p] → ∀ {G : Hp}, G p = some (.ins C dx []) → ∃ o, G a = some o := fun h _ e => by rw [List.mem_singleton.1 h]; exact ⟨_, e⟩
    walk_at "w"
    intro dl hdl
    have cdl : dc ≠ dl := ne_of_none hc2 hdl
    have hdl0 : H dl = none := x2.back (fun a ha => by rw [List.mem_singleton.1 ha]; exact ⟨_, hp2⟩) hdl
    have hp3 : (L2.upd H2 dl (.dK [])) p = some (.ins C dx (putF "_columns" (.ref dc) [])) := by rw [upd_ne (ne_of_none hp2 hdl)]; exact hp2
    have hc3 : (L2.upd H2 dl (.dK [])) dc = some (.dK []) := by rw [upd_ne cdl]; exact hc2
    have hl3 : (L2.upd H2 dl (.dK [])) dl = some (.dK []) := upd_same
    have x3 : ExO [p] H (L2.upd H2 dl (.dK [])) := x2.mut hdl0
    generalize (L2.upd H2 dl (.dK [])) = H3 at hp3 hc3 hl3 x3 ⊢
    have f5 : FsOk (putF "_lists" (.ref dl) (putF "_columns" (.ref dc) [])) dc dl := by
      have nm : ∀ m ∈ meths, ¬ m = ("_lists" : Str) ∧ ¬ m = ("_columns" : Str) := by decide +kernel
      refine ⟨?_, ?_, fun m hm => ?_⟩
      · rw [lookup_putF, if_neg (by decide +kernel), lookup_putF, if_pos rfl]
      · rw [lookup_putF, if_pos rfl]
      · rw [lookup_putF, if_neg (nm m hm).1, lookup_putF, if_neg (nm m hm).2]
        rfl
    have ln2 : (putF "_columns" (.ref dc) ([] : List (Str × V))).length ≤ 1 := length_putF _ _ _
    have ln5 : (putF "_lists" (.ref dl) (putF "_columns" (.ref dc) ([] : List (Str × V)))).length ≤ 2 := Nat.le_trans (length_putF _ _ _) (Nat.succ_le_succ ln2)
    walk_at "w"
    refine w_kSfld hp3 S.cls S.lists_ (by omega) ?_
    generalize (putF "_lists" (.ref dl) (putF "_columns" (.ref dc) [])) = fs at f5 ln5 ⊢
    have hp4 : (L2.upd H3 p (.ins C dx fs)) p = some (.ins C dx fs) := upd_same
    have hc4 : (L2.upd H3 p (.ins C dx fs)) dc = some (.dK []) := by rw [upd_ne (ne_of hc3 hp3 (by intro z; cases z))]; exact hc3
    have hl4 : (L2.upd H3 p (.ins C dx fs)) dl = some (.dK []) := by rw [upd_ne (ne_of hl3 hp3 (by intro z; cases z))]; exact hl3
    have x4 : ExO [p] H (L2.upd H3 p (.ins C dx fs)) := x3.put List.mem_cons_self
    generalize (L2.upd H3 p (.ins C dx fs)) = H4 at hp4 hc4 hl4 x4 ⊢
    walk_at "w"
    intro dm hdm
    have cdm : dc ≠ dm := ne_of_none hc4 hdm
    have ldm : dl ≠ dm := ne_of_none hl4 hdm
    have hdm0 : H dm = none := x4.back (fun a ha => by rw [List.mem_singleton.1 ha]; exact ⟨_, hp4⟩) hdm
    have e5 : Ex H4 (L2.upd H4 dm (.dK [])) := Ex.new hdm
    have hm5 : (L2.upd H4 dm (.dK [])) dm = some (.dK []) := upd_same
    have x5 : ExO [p] H (L2.upd H4 dm (.dK [])) := x4.mut hdm0
    generalize (L2.upd H4 dm (.dK [])) = H5 at e5 hm5 x5 ⊢
    have P5 : Part C H5 p dc dl [] [] [] := ⟨⟨dx, fs, e5 _ _ hp4, f5⟩, e5 _ _ hc4, .nil, e5 _ _ hl4, fun _ h => absurd h List.not_mem_nil, List.nodup_nil, cdl, fun _ h => absurd h List.not_mem_nil, List.nodup_nil⟩
    have hq5 : SqL K H5 q xs := sqL_exO (insAt_of hp) x5 hq
    walk_at "w"
    refine loopE (xs := xs) (fun d r σ' H' => ∃ x4 x5 x6 td tr cvs rs, σ' = [some (.ref p), some uv, some (.ref q), some (.ref dm), x4, x5, x6] ∧ tabsF td tr = tabsF [] tabs ∧ td.length = d.length ∧ d.length + tr.length = tabs.length ∧ (∀ x ∈ tr, x.2.length ≤ 1000) ∧ Paired (TabD K H) r tr ∧ Part C H' p dc dl cvs rs td ∧ rs.mir = mirOf td ∧ Meets H' dm (meetMap td) ∧ ExO [p] H H' ∧ H' p = some (.ins C dx fs) ∧
        (∀ r ∈ rs, H r.2.1 = none ∧ r.2.1 ≠ dm ∧ r.2.2.length ≤ 6 * td.length) ∧ GoodTabs td) ⟨_, _, _, [], tabs, [], [], rfl, rfl, rfl, by simp, lc, hx, P5, rfl, hm5, x5, e5 _ _ hp4, (fun _ h => absurd h List.not_mem_nil), .nil⟩ (fun d r σ' H' e h => ?_) (fun d y r σ' H' Tp e hTp h => ?_) (fun σ' H' h => ?_)
    · obtain ⟨_, _, _, _, _, _, _, _, _, _, _, _, _, _, _, _, x, _⟩ := h
      exact sqL_exO insP x hq
    · obtain ⟨x4, x5', x6, td, tr, cvs, rs, rfl, et, ltd, lall, lc', hr0, hP, hmi, hme, hO, hpf, hrs, g1⟩ := h
      obtain ⟨t, tr', rfl, hy, hr1⟩ := paired_cons hr0
      rw [List.length_cons] at lall
      obtain ⟨ya, pp, vs, nv, rfl, hya, hnv, hns, hpp, hcs⟩ := id hy
      have hT1 : (L2.upd H' Tp (.tup [.int (d.length : Nat), .ref ya])) Tp = some (.tup [.int (d.length : Nat), .ref ya]) := upd_same
      have eT : Ex H' (L2.upd H' Tp (.tup [.int (d.length : Nat), .ref ya])) := Ex.new hTp
      generalize (L2.upd H' Tp (.tup [.int (d.length : Nat), .ref ya])) = H1 at hT1 eT ⊢
      have hO1 : ExO [p] H H1 := hO.trans (.of eT)
      have hP1 := hP.ext eT
      have hme1 : H1 dm = _ := eT _ _ hme
      obtain ⟨⟨dx1, fs1, i1, i2⟩, _, _, _, _, _, _, _, _⟩ := id hP1
      have hya1 := sqT_exO insP hO1 hya
      have hnv1 := dp_exO insP hO1 hnv
      have hpp1 := sqL_exO insP hO1 hpp
      have hcs1 : Paired (ColD K H1) vs t.2 := paired_imp (fun _ _ h => h.exO insP hO1) hcs
      have lv := paired_len hcs1
      have lt2 := lc' t (by simp)
      have no1 : (nmOk td t.1 && decide (t.2.length ≤ 6)) = false → initF ud tabs = some (((td.length : Nat) : Int), -1) := fun h => iF td.length none (by
        rw [← et]
        rw [tabsF, if_neg (by rw [h]; exact Bool.false_ne_true)])
      rw [ltd] at no1
      walk_at "w"
      refine ⟨nv, t.1, rfl, hnv1, hns, ?_⟩
      walk_at "w"
      cases hb : strD nameB t.1 with
      | false =>
        walk_at "w"
        exact ⟨by show 2 ≤ 1000; omega, fun a ha => raised2 (bad hO1 (no1 (by unfold nmOk; rw [hb]; rfl))) a ha⟩
      | true =>
      obtain ⟨n, en, hn⟩ := strD_str hb
      obtain ⟨t1, t2⟩ := t
      have en : t1 = .str n := en
      subst en
      cases hnv1
      have g2 : IsName n := (nameB_iff _).mp hn
      walk_at "w"
      refine w_kFld i1 S.cls S.columns_ i2.c ?_
      refine w_kI2 hP1.hdc ?_
      rw [hP1.has]
      walk_at "w"
      refine iteD (fun hin => ?_) (fun g3 => ?_)
      · walk_at "w"
        exact ⟨by show 2 ≤ 1000; omega, fun a ha => raised2 (bad hO1 (no1 (by unfold nmOk; rw [hb, show strD (fun x => decide (x ∈ td.map (·.1))) (.str n) = true from decide_eq_true hin]; rfl))) a ha⟩
      have hnm : nmOk td (.str n) = true := by
        unfold nmOk
        rw [hb, show strD (fun x => decide (x ∈ td.map (·.1))) (.str n) = false from decide_eq_false g3]
        rfl
      walk_at "w"
      refine iteD (fun h6 => ?_) (fun h6 => ?_)
      · have h6' : ¬ t2.length ≤ 6 := by
          have : vs.length = t2.length := lv
          omega
        walk_at "w"
        exact ⟨by show 2 ≤ 1000; omega, fun a ha => raised2 (bad hO1 (no1 (by rw [hnm, decide_eq_false h6']; rfl))) a ha⟩
      have few : t2.length ≤ 6 := by
        have : vs.length = t2.length := lv
        omega
      have step : ∀ j, takeF n (mirOf td) td [] t2 = .inl j → tabsF td ((.str n, t2) :: tr') = .inl (td.length, some j) := fun j h => by
        rw [tabsF, if_pos (by rw [hnm, decide_eq_true few]; rfl)]
        show (match takeF n (mirOf td) td [] t2 with | .inl j => _ | .inr cs => _) = _
        rw [h]
      have step2 : ∀ cs, takeF n (mirOf td) td [] t2 = .inr cs → tabsF td ((.str n, t2) :: tr') = (match brk td cs with | some j => .inl (td.length, some j) | none => tabsF (td ++ [(n, cs)]) tr') := fun cs h => by
        rw [tabsF, if_pos (by rw [hnm, decide_eq_true few]; rfl)]
        show (match takeF n (mirOf td) td [] t2 with | .inl j => _ | .inr cs => _) = _
        rw [h]
        rfl
      walk_at "w"
      refine w_kMeth i1 (i2.no _ (by decide +kernel)) ?_
      walk_at "w"
      have mk : rs.mir.map (·.1) = td.map (·.1) := by rw [hmi]; exact mirOf_key g1
      have ltd6 : td.length ≤ 6 := by omega
      have hown : ∀ a ∈ rs.own dc dl, H a = none := fun a ha => by
        rcases List.mem_cons.1 ha with rfl | ha
        · exact hdc
        · rcases List.mem_cons.1 ha with rfl | ha
          · exact hdl0
          · obtain ⟨r0, hr0, rfl⟩ := List.mem_map.mp ha
            exact (hrs r0 hr0).1
      have dmo : dm ∉ rs.own dc dl := fun ha => by
        rcases List.mem_cons.1 ha with z | ha
        · exact cdm z.symm
        · rcases List.mem_cons.1 ha with z | ha
          · exact ldm z.symm
          · obtain ⟨r0, hr0, z⟩ := List.mem_map.mp ha
            exact (hrs r0 hr0).2.1 z
      refine ⟨p, pp, _, n, vs, t2, dc, dl, cvs, rs, td, rfl, hP1, hpp1, hcs1, by omega, by omega, fun t ht => Nat.le_trans (g1.cols t ht) (by decide), g3, mk, fun r hr => by have := (hrs r hr).2.2; omega, fun cs ec T D H3 hD hO3 hP3 => ?_, fun j ej dd H3 hO3 hdd => ?_⟩
      rotate_left
      · rw [hmi] at ej
        refine kE _ _ (iF td.length (some j) (by rw [← et]; exact step j ej)) dd H3 (hO1.over hO3 hown) ?_
        rw [ltd]
        exact hdd
      rw [hmi] at ec
      obtain ⟨ppre, plen⟩ := takeF_pre g1 (PreCols.nil td) ec
      have lcs : cs.length ≤ 6 := by
        rw [plen]
        simpa using few
      have hme3 : H3 dm = some (.dK ((meetMap td).map fun e => ((Sum.inr e.1 : Key), V.bl e.2))) := hO3 _ _ hme1 dmo
      have hp3' : H3 p = some (.ins C dx fs) := hO3 _ _ (eT _ _ hpf) fun z => by rw [hown p z] at hp; cases hp
      have hOO3 : ExO [p] H H3 := hO1.over hO3 hown
      have hD0 : H D = none := hO1.back (fun a ha => by rw [List.mem_singleton.1 ha]; exact ⟨_, i1⟩) hD
      have Ddm : D ≠ dm := fun z => by rw [z, hme1] at hD; cases hD
      obtain ⟨⟨dx3, fs3, j1, j2⟩, k3, _, _, _, _, _, _, _⟩ := id hP3
      have lk : (td ++ [(n, cs)]).lookup n = some cs := lookup_mem (l := td ++ [(n, cs)]) (e := (n, cs)) (by
        rw [List.map_append,
                List.nodup_append]
        refine ⟨g1.nodup, by simp, fun a ha b hb => ?_⟩
        simp only [List.map_cons,
                List.map_nil, List.mem_singleton] at hb
        rw [hb]
        rintro rfl
        exact g3 ha) (by simp)
      obtain ⟨ca, cvals, c1, c2, c3⟩ := hP3.cget lk
      walk_at "w"
      refine w_kFld j1 S.cls S.columns_ j2.c ?_
      walk_at "w"
      refine w_kG k3 c1 ?_
      walk_at "w"
      refine ⟨_, ca, dm, cvals, td, cs, rfl, c2, c3, by omega, ppre.ok g1, hme3, good_targets ppre, fun hb H4 e4 => ?_, fun j hb dd H4 e4 h4 => ?_⟩
      · walk_at "w"
        have hm4 := e4 _ _ hme3
        have lm : (meetMap td).length = td.length := by have := congrArg List.length (meetMap_keys td); simpa using this
        refine ⟨dm, _, rfl, DPut.k (k := Sum.inr n) hm4 (Nat.lt_of_le_of_lt (m := 6) (by rw [List.length_map]; omega) (by decide)), ?_⟩
        rw [putK_new (meets_none (by rw [meetMap_keys]; exact g3))]
        have P4 := hP3.ext e4
        have ek : ((meetMap td).map fun e => ((Sum.inr e.1 : Key), V.bl e.2)) ++ [(Sum.inr n, V.bl (meetOf (meetMap td) cs))] = (meetMap (td ++ [(n, cs)])).map fun e => ((Sum.inr e.1 : Key), V.bl e.2) := by
          rw [meetMap_snoc, List.map_append]
          rfl
        rw [ek]
        have adr : ∀ r ∈ cs.foldl (rsAdd n) rs ++ [(n, D, [])], H r.2.1 = none ∧ r.2.1 ≠ dm ∧ r.2.2.length ≤ 6 * (td ++ [(n, cs)]).length := fun r hr => by
          rw [List.length_append,
                  List.length_singleton]
          rcases List.mem_append.1 hr with hr | hr
          · have a1 : r.2.1 ∈ rs.map fun r => r.2.1 := by
              rw [← foldl_adr n cs rs]
              exact List.mem_map.mpr ⟨r, hr, rfl⟩
            obtain ⟨r0, h0, e0⟩ := List.mem_map.mp a1
            have a2 := foldl_lens n cs rs (6 * td.length) (fun r hr => (hrs r hr).2.2) r hr
            rw [← e0]
            exact ⟨(hrs r0 h0).1, (hrs r0 h0).2.1, by omega⟩
          · rw [List.mem_singleton.1 hr]
            exact ⟨hD0, Ddm, Nat.zero_le _⟩
        have dm4 : dm ∉ Rows.own dc dl (cs.foldl (rsAdd n) rs ++ [(n, D, [])]) := fun ha => by
          rcases List.mem_cons.1 ha with z | ha
          · exact cdm z.symm
          · rcases List.mem_cons.1 ha with z | ha
            · exact ldm z.symm
            · obtain ⟨r0, hr0, z⟩ := List.mem_map.mp ha
              exact (adr r0 hr0).2.1 z
        exact ⟨_, _, _, td ++ [(n, cs)], tr', cvs ++ [(.inr n, .ref T)], _, rfl, by rw [← et, step2 cs ec, hb], by rw [List.length_append, List.length_append, ltd]; rfl, by rw [List.length_append, List.length_cons, List.length_nil]; omega, fun x hx => lc' x (List.mem_cons_of_mem _ hx), hr1, P4.other hm4 dm4, by rw [mirOf_snoc]; unfold Rows.mir; rw [List.map_append]; show (cs.foldl (rsAdd n) rs).mir ++ _ = _; rw [foldl_mir, hmi]; rfl, upd_same, (hOO3.trans (.of e4)).mut hdm0, by rw [upd_ne (ne_of (e4 _ _ hp3') hm4 (by intro z; cases z))]; exact e4 _ _ hp3', adr, g1.snoc g2 g3 ⟨ppre, lcs, brk_none hb⟩⟩
      · refine kE _ _ (iF td.length (some j) (by rw [← et, step2 cs ec, hb])) dd H4 (hOO3.trans (.of e4)) ?_
        rw [ltd]
        exact h4
    · obtain ⟨x4, x5', x6, ts, tr, cvs, rs, rfl, et, ltd, lall, lc', hr0, hP, hmi, hme, hO, hpf, hrs, g1⟩ := h
      cases hr0
      have et : tabsF [] tabs = .inr ts := et.symm
      have lts : ts.length = tabs.length := by simpa using (ltd.trans (by simpa using lall))
      have hud' := dp_exO insP hO hud
      obtain ⟨_, k1, k2, _, _, _, _, _, _⟩ := id hP
      walk_at "w"
      refine w_ownIn hpf ?_
      refine ⟨p, _, ud, dc, dl, cvs, rs, ts, rfl, hP, hud', ?_⟩
      cases hin : strD (fun n => decide (n ∈ ts.map (·.1))) ud with
      | false =>
        have i0 : initF ud tabs = some (((tabs.length : Nat) : Int), -1) := by
          unfold initF
          rw [if_pos l16, et]
          show (if strD (fun n => decide (n ∈ ts.map (·.1))) ud = true then none else some _) = _
          rw [if_neg (by rw [hin]; exact Bool.false_ne_true)]
        have hq' : SqL K H' q xs := sqL_exO insP hO hq
        refine ⟨false, rfl, ⟨true, rfl, iteT ?_⟩⟩
        walk_at "w"
        rw [lx]
        exact ⟨by show 2 ≤ 1000; omega, fun a ha => raised2 (bad hO i0) a ha⟩
      | true =>
      have i0 : initF ud tabs = none := by
        unfold initF
        rw [if_pos l16, et]
        show (if strD (fun n => decide (n ∈ ts.map (·.1))) ud = true then none else some _) = _
        rw [if_pos hin]
      obtain ⟨u, rfl, hu⟩ := strD_str hin
      have hu : u ∈ ts.map (·.1) := of_decide_eq_true hu
      cases hud
      refine ⟨true, rfl, ?_⟩
      refine ⟨false, rfl, iteF ?_⟩
      walk_at "w"
      refine w_kSfld hpf S.cls S.user_ (by omega) ?_
      have ln6 : (putF "user" (.str u) fs).length ≤ 3 := Nat.le_trans (length_putF _ _ _) (Nat.succ_le_succ ln5)
      have f6 : FsOk (putF "user" (.str u) fs) dc dl := f5.put (by decide +kernel)
      have u6 : (putF "user" (.str u) fs).lookup ("user" : Str) = some (.str u) := by rw [lookup_putF, if_pos rfl]
      have P6 : Part C (L2.upd H' p (.ins C dx (putF "user" (.str u) fs))) p dc dl cvs rs ts := hP.setF hpf f6
      have O6 : ExO [p] H (L2.upd H' p (.ins C dx (putF "user" (.str u) fs))) := hO.put List.mem_cons_self
      have p6 : (L2.upd H' p (.ins C dx (putF "user" (.str u) fs))) p = some (.ins C dx (putF "user" (.str u) fs)) := upd_same
      generalize (L2.upd H' p (.ins C dx (putF "user" (.str u) fs))) = H6 at P6 O6 p6 ⊢
      generalize (putF "user" (.str u) fs) = fs6 at ln6 f6 u6 p6 ⊢
      walk_at "w"
      refine w_kFld p6 S.cls S.columns_ f6.c ?_
      walk_at "w"
      refine ⟨dc, cvs, rfl, .inl P6.hdc, fun tt htt => ?_⟩
      rw [tup_keys P6.cols]
      have e7 : Ex H6 (L2.upd H6 tt (.tup (ts.map fun t => V.str t.1))) := Ex.new htt
      have t7 : (L2.upd H6 tt (.tup (ts.map fun t => V.str t.1))) tt = some (.tup (ts.map fun t => V.str t.1)) := upd_same
      generalize (L2.upd H6 tt (.tup (ts.map fun t => V.str t.1))) = H7 at e7 t7 ⊢
      walk_at "w"
      have p7 := e7 _ _ p6
      refine w_kSfld p7 S.cls S.tables_ (by omega) ?_
      have ln8 : (putF "tables" (.ref tt) fs6).length ≤ 4 := Nat.le_trans (length_putF _ _ _) (Nat.succ_le_succ ln6)
      have f8 : FsOk (putF "tables" (.ref tt) fs6) dc dl := f6.put (by decide +kernel)
      have u8 : (putF "tables" (.ref tt) fs6).lookup ("user" : Str) = some (.str u) := by rw [lookup_putF, if_neg (by decide +kernel)]; exact u6
      have t8 : (putF "tables" (.ref tt) fs6).lookup ("tables" : Str) = some (.ref tt) := by rw [lookup_putF, if_pos rfl]
      have P8 : Part C (L2.upd H7 p (.ins C dx (putF "tables" (.ref tt) fs6))) p dc dl cvs rs ts := (P6.ext e7).setF p7 f8
      have O8 : ExO [p] H (L2.upd H7 p (.ins C dx (putF "tables" (.ref tt) fs6))) := (O6.trans (.of e7)).put List.mem_cons_self
      have p8 : (L2.upd H7 p (.ins C dx (putF "tables" (.ref tt) fs6))) p = some (.ins C dx (putF "tables" (.ref tt) fs6)) := upd_same
      have tt8 : (L2.upd H7 p (.ins C dx (putF "tables" (.ref tt) fs6))) tt = some (.tup (ts.map fun t => V.str t.1)) := by rw [upd_ne (ne_of t7 p7 (by intro z; cases z))]; exact t7
      generalize (L2.upd H7 p (.ins C dx (putF "tables" (.ref tt) fs6))) = H8 at P8 O8 p8 tt8 ⊢
      generalize (putF "tables" (.ref tt) fs6) = fs8 at ln8 f8 u8 t8 p8 ⊢
      walk_at "w"
      refine w_kFld p8 S.cls S.columns_ f8.c ?_
      walk_at "w"
      refine ⟨u, dc, cvs, ts, rfl, P8.hdc, P8.cols, ?_, by omega, g1.nodup, good_sz g1, fun ll H9 e9 hll => ?_⟩
      · obtain ⟨t, h1, h2⟩ := List.mem_map.mp hu
        rw [← h2]
        exact Nat.le_trans (g1.names t h1).short (by decide)
      · walk_at "w"
        have p9 := e9 _ _ p8
        refine w_kSfld p9 S.cls S.lines_ (by omega) ?_
        have f10 : FsOk (putF "_lines" (.ref ll) fs8) dc dl := f8.put (by decide +kernel)
        refine k u ts rfl et hu i0 _ ((O8.trans (.of e9)).put List.mem_cons_self) ⟨dc, dl, cvs, rs, dx, _, tt, ll, (P8.ext e9).setF p9 f10, hmi, upd_same, f10, ?_, ?_, ?_, ?_, ?_⟩
        · rw [lookup_putF, if_neg (by decide +kernel)]; exact u8
        · rw [lookup_putF, if_neg (by decide +kernel)]; exact t8
        · rw [upd_ne (ne_of (e9 _ _ tt8) p9 (by intro z; cases z))]; exact e9 _ _ tt8
        · rw [lookup_putF, if_pos rfl]
        · rw [upd_ne (ne_of hll p9 (by intro z; cases z))]; exact hll
end
end LP
namespace LP
open PySem L2
open Evl (Ex)
/-- a table of any values, its list and tuple plain -/
def TabE (K : PySem.W.Frag) (H : Hp) (v : V) (x : PyData × List PyData) : Prop := ∃ (a cq : Addr) (cvs : List V) (nv : V), v = .ref a ∧ H a = some (.tup [nv, .ref cq]) ∧ Dp K H nv x.1 ∧ (∀ y, x.1 = .str y → y.length ≤ 4000) ∧ H cq = some (.lst cvs) ∧ Paired (ColD K H) cvs x.2
def DueI (H : Hp) (v : V) : Option (Int × Int) → Prop
  | none => v = .non
  | some (k, i) => ∃ T, v = .ref T ∧ H T = some (.tup [.int k, .int i])
def spDueG (K : PySem.W.Frag) : Sp := fun vs H Q _ => ∃ (uv : V) (ud : PyData) (q : Addr) (xs : List V) (tabs : List (PyData × List PyData)), vs = [uv, .ref q] ∧ SqL K H q xs ∧ Paired (TabE K H) xs tabs ∧ tabs.length ≤ 1000 ∧ (∀ x ∈ tabs, x.2.length ≤ 1000) ∧ Dp K H uv ud ∧
  ∀ (v : V) (H' : Hp), Ex H H' → DueI H' v (initF ud tabs) → Q v H'
def TabO (H H' : Hp) (v : V) (t : Str × List Col) : Prop := ∃ (a p : Addr) (cvs : List V), v = .ref a ∧ H' a = some (.tup [.str t.1, .ref p]) ∧ H p = some (.lst cvs) ∧ ColsV H cvs t.2
theorem TabO.tab {H H' : Hp} {v : V} {t : Str × List Col} (e : Ex H H') (h : TabO H H' v t) : TabAt H' v t := by
  obtain ⟨a, p, cvs, ev, ha, hp, hc⟩ := h
  exact ⟨a, p, ev, ha, cvs, e _ _ hp, hc.ext e⟩
theorem TabO.put {H H' : Hp} {v : V} {t : Str × List Col} {a : Addr} {xs : List V} {o : HO} (ha : H' a = some (.lst xs)) (h : TabO H H' v t) : TabO H (upd H' a o) v t := by
  obtain ⟨b, p, cvs, ev, hb, hp, hc⟩ := h
  exact ⟨b, p, cvs, ev, by rw [upd_ne (ne_of hb ha (by intro z; cases z))]; exact hb, hp, hc⟩
theorem TabO.ext {H H' H2 : Hp} {v : V} {t : Str × List Col} (e : Ex H' H2) (h : TabO H H' v t) : TabO H H2 v t := by
  obtain ⟨b, p, cvs, ev, hb, hp, hc⟩ := h
  exact ⟨b, p, cvs, ev, e _ _ hb, hp, hc⟩
/-- what the law keeps while it looks -/
structure Dn (H H' : Hp) (dt dn : Addr) (rs : TkA) (dvs : List V) (td : Tabs) : Prop where
  ex : Ex H H'
  tk : TkAt H' dt rs
  fr : ∀ r ∈ rs, H r.2.1 = none ∧ r.2.1 ≠ dn
  dl : H' dn = some (.lst dvs)
  ts : Paired (TabO H H') dvs td
  f1 : H dt = none
  f2 : H dn = none
section
variable {H H' : Hp} {dt dn : Addr} {rs : TkA} {dvs : List V} {td : Tabs}
theorem Dn.ext {H2 : Hp} (e : Ex H' H2) (h : Dn H H' dt dn rs dvs td) : Dn H H2 dt dn rs dvs td := ⟨h.ex.trans e, h.tk.ext e, h.fr, e _ _ h.dl, paired_imp (fun _ _ => TabO.ext e) h.ts, h.f1, h.f2⟩
theorem Dn.putL {a : Addr} {xs : List V} {o : HO} (h : Dn H H' dt dn rs dvs td) (ha : H' a = some (.lst xs)) (f : H a = none) (n : ∀ r ∈ rs, r.2.1 ≠ a) (nd : a ≠ dn) : Dn H (upd H' a o) dt dn rs dvs td :=
  ⟨h.ex.mut f, h.tk.other ha n, h.fr, by rw [upd_ne (Ne.symm nd)]; exact h.dl, paired_imp (fun _ _ => TabO.put ha) h.ts, h.f1, h.f2⟩
theorem Dn.add {a : Addr} {tg l : Str} {ns : List Str} (h : Dn H H' dt dn rs dvs td) (hr : (tg, a, ns) ∈ rs) : Dn H (upd H' a (.lst (ns.map V.str ++ [.str l]))) dt dn (tkAdd tg l rs) dvs td := by
  have ha := h.tk.l _ hr
  obtain ⟨f1, f2⟩ := h.fr _ hr
  refine ⟨h.ex.mut f1, h.tk.add hr, fun r hr' => ?_, by rw [upd_ne (Ne.symm f2)]; exact h.dl, paired_imp (fun _ _ => TabO.put ha) h.ts, h.f1, h.f2⟩
  obtain ⟨r0, h0, rfl⟩ := List.mem_map.mp hr'
  by_cases e : r0.1 = tg
  · rw [if_pos e]; exact h.fr r0 h0
  · rw [if_neg e]; exact h.fr r0 h0
end
theorem tkA_get : ∀ {rs : TkA} {n : Str} {l : List Str}, rs.tk.lookup n = some l → ∃ a, valV rs.kvs (Sum.inr n : Key) = some (.ref a) ∧ (n, a, l) ∈ rs
  | [], _, _, h => by cases h
  | (m, a, l0) :: r, n, l, h => by
    have h : List.lookup n ((m, l0) :: TkA.tk r) = some l := h
    rw [List.lookup_cons] at h
    by_cases e : n = m
    · subst e
      rw [show (n == n) = true from beq_self_eq_true n] at h
      cases h
      exact ⟨a, valV_pos (p := ((.inr n, .ref a) : Key × V)) rfl, List.mem_cons_self⟩
    · rw [show (n == m) = false from beq_eq_false_iff_ne.mpr e] at h
      obtain ⟨b, h1, h2⟩ := tkA_get (rs := r) h
      refine ⟨b, ?_, List.mem_cons_of_mem _ h2⟩
      exact (valV_neg (p := ((.inr m, .ref a) : Key × V)) (fun z => e (Sum.inr.inj z).symm)).trans h1
section
variable {H H' : Hp} {dt dn : Addr} {rs : TkA} {dvs : List V} {td : Tabs}
theorem Dn.row {a : Addr} {n : Str} {ns : List Str} (h : Dn H H' dt dn rs dvs td) (ha : H' a = some (.lst (ns.map V.str))) (f : H a = none) (na : ∀ r ∈ rs, r.2.1 ≠ a) (nd : a ≠ dn) (nk : n ∉ rs.map fun r => r.1) :
    Dn H (upd H' dt (.dK (rs.kvs ++ [(.inr n, .ref a)]))) dt dn (rs ++ [(n, a, ns)]) dvs td := by
  have st : ∀ {c : Addr} {xs : List V}, H' c = some (.lst xs) → (upd H' dt (.dK (rs.kvs ++ [(.inr n, .ref a)]))) c = some (.lst xs) := fun hc => by rw [upd_ne (ne_of hc h.tk.d (by intro z; cases z))]; exact hc
  refine ⟨h.ex.mut h.f1, ⟨?_, fun r hr => ?_, ?_, ?_⟩, fun r hr => ?_, st h.dl, paired_imp (fun v t ⟨b, p, cvs, ev, hb, hp, hc⟩ => ⟨b, p, cvs, ev, by rw [upd_ne (ne_of hb h.tk.d (by intro z; cases z))]; exact hb, hp, hc⟩) h.ts, h.f1, h.f2⟩
  · rw [upd_same]
    unfold TkA.kvs
    rw [List.map_append]
    rfl
  · rcases List.mem_append.1 hr with hr | hr
    · exact st (h.tk.l r hr)
    · rw [List.mem_singleton.1 hr]
      exact st ha
  · rw [List.map_append,
          List.nodup_append]
    refine ⟨h.tk.na, by simp, fun x hx y hy => ?_⟩
    obtain ⟨r, hr, rfl⟩ := List.mem_map.mp hx
    simp only [List.map_cons,
            List.map_nil, List.mem_singleton] at hy
    rw [hy]
    exact na r hr
  · rw [List.map_append,
          List.nodup_append]
    refine ⟨h.tk.nk, by simp, fun x hx y hy => ?_⟩
    simp only [List.map_cons,
            List.map_nil, List.mem_singleton] at hy
    rw [hy]
    rintro rfl
    exact nk hx
  · rcases List.mem_append.1 hr with hr | hr
    · exact h.fr r hr
    · rw [List.mem_singleton.1 hr]
      exact ⟨f, nd⟩
theorem Dn.done {T cq : Addr} {n : Str} {cs : List Col} {cvs : List V} (h : Dn H H' dt dn rs dvs td) (hT : H' T = some (.tup [.str n, .ref cq])) (hc : H cq = some (.lst cvs)) (hcs : ColsV H cvs cs) : Dn H (upd H' dn (.lst (dvs ++ [.ref T]))) dt dn rs (dvs ++ [.ref T]) (td ++ [(n, cs)]) :=
  ⟨h.ex.mut h.f2, h.tk.other h.dl fun r hr => (h.fr r hr).2, h.fr, upd_same, paired_app (paired_imp (fun _ _ => TabO.put h.dl) h.ts) (.cons (TabO.put h.dl ⟨T, cq, cvs, rfl, hT, hc, hcs⟩) .nil), h.f1, h.f2⟩
end
section
variable {base : Heap} {mg : Str → Option Value} {K : PySem.W.Frag} {w : World} {P : Program}
theorem ok_dueG {f : Addr} {fd : FuncData} (D : C8.Def K mg "_law_what_is_due" s__law_what_is_due f fd) (b : Binds K fd ["user", "tables"] []) (B : Blt mg) (c__law_is_name : C8.Cal P w K mg base 2 "_law_is_name" (spDue K) []) (c__law_fits : C8.Cal P w K mg base 3 "_law_fits" (spFits K) [])
    (c__law_broken : C8.Cal P w K mg base 4 "_law_broken" (spBroken K) []) : C8.Cal P w K mg base 5 "_law_what_is_due" (spDueG K) [] := by
  have sc : FnScope ["user", "tables", "taken", "done", "at", "name", "columns", "before", "place", "column"] ["user", "tables"] (C8.fnScope s__law_what_is_due) := C8.fnScope_by (by decide +kernel)
  refine C8.cal0 D b .nil sc (fun vs H Q E h => ?_) (fun cdv A outer s H vs Q E hr h => ?_)
  · obtain ⟨_, _, _, _, _, rfl, _⟩ := h
    rfl
  · obtain ⟨uv, ud, q, xs, tabs, rfl, hq, hx, l1, lc, hud, k⟩ := h
    have lx := paired_len hx
    refine ⟨_, (pss_cons (ps_par (i := 2) (j := 3) (by rfl) sc.nd rfl rfl (by decide) rfl rfl (pa_cons pe_dnewK (pa_cons (pe_lst pa_nil) pa_nil)) (by rfl))
        (pss_cons (ps_if (pt_not (pt_chain op_le op_le pe_int (pe_callB (call_len_seqK (K := K) rfl) (by rfl) B.len_ (by decide +kernel) (pa_cons (pv 1) pa_nil)) pe_int))
        (pss_one (ps_ret (pe_tup (pa_cons (pe_un un_neg pe_int) (pa_cons (pe_un un_neg pe_int) pa_nil)))))
        pss_nil)
        (pss_cons (ps_for PassesOwn.never rfl (pi_enumK (K := K) rfl (by rfl) B.enumerate_ (pa_cons (pv 1) pa_nil)) (pg_tupK (K := K) (n := 2) rfl rfl (pgs_cons (pg_name (i := 4) sc.nd rfl (Or.inl rfl)) (pgs_cons (pg_tupK (K := K) (n := 2) rfl rfl (pgs_cons (pg_name (i := 5) sc.nd rfl (Or.inl rfl)) (pgs_cons (pg_name (i := 6) sc.nd rfl (Or.inl rfl)) pgs_nil))) pgs_nil)))
        (pss_cons (ps_set (i := 7) sc.nd rfl (Or.inl rfl) (pe_lst pa_nil))
        (pss_cons (ps_if (PW.pt (pw_or (pt_not (pt_val (C8.pe_c c__law_is_name hr (by decide) rfl (pa_cons (pv 5) pa_nil)))) (pw_or (pt_cmp (pc_din (hu_of hr) (pv 5) (pv 2))) (pw_or1 (pt_cmpR op_gt (pe_callB (call_len_seqK (K := K) rfl) (by rfl) B.len_ (by decide +kernel) (pa_cons (pv 6) pa_nil)) pe_int (nomark _))))))
        (pss_one (ps_ret (pe_tup (pa_cons (pv 4) (pa_cons (pe_un un_neg pe_int) pa_nil)))))
        pss_nil)
        (pss_cons (ps_for PassesOwn.never rfl (pi_enumK (K := K) rfl (by rfl) B.enumerate_ (pa_cons (pv 6) pa_nil)) (pg_tupK (K := K) (n := 2) rfl rfl (pgs_cons (pg_name (i := 8) sc.nd rfl (Or.inl rfl)) (pgs_cons (pg_name (i := 9) sc.nd rfl (Or.inl rfl)) pgs_nil)))
        (pss_cons (ps_if (pt_not (pt_val (C8.pe_c c__law_fits hr (by decide) rfl (pa_cons (pv 9) (pa_cons (pv 7) (pa_cons (pv 2) pa_nil))))))
        (pss_one (ps_ret (pe_tup (pa_cons (pv 4) (pa_cons (pv 8) pa_nil)))))
        pss_nil)
        (pss_cons (ps_expr (pe_bmK (K := K) rfl PySem.F.plainAttrs_list PySem.F.slot_list_append PySem.F.type_list_append mt_append (pv 7) (pa_cons (pe_ix (ix_tupK (K := K) rfl) (pv 9) pe_int (fun _ _ => rfl)) pa_nil)))
        (pss_one (ps_if (PW.pt (pw_and (pt_cmpR op_eq (pe_ix (ix_tupK (K := K) rfl) (pv 9) pe_int (fun _ _ => rfl)) pe_str (nomark _)) (pw_and1 (pt_cmpR op_notN' (pe_ix (ix_tupK (K := K) rfl) (pv 9) pe_int (fun _ _ => rfl)) pe_non (nomark _)))))
        (pss_one (ps_expr (pe_bmK (K := K) rfl PySem.F.plainAttrs_list PySem.F.slot_list_append PySem.F.type_list_append mt_append (pe_dget (hu_of hr) (pv 2) (pe_ix (ix_tupK (K := K) rfl) (pv 9) pe_int (fun _ _ => rfl)) (fun _ _ => rfl)) (pa_cons (pe_ix (ix_tupK (K := K) rfl) (pv 9) pe_int (fun _ _ => rfl)) pa_nil))))
        pss_nil)))))
        (pss_cons (ps_dput (hu_of hr) (pv 2) (pv 5) (pv 7) rfl)
        (pss_cons (ps_if (pt_cmpR op_notN' (C8.pe_c c__law_broken hr (by decide) rfl (pa_cons (pv 3) (pa_cons (pv 6) pa_nil))) pe_non (nomark _))
        (pss_one (ps_ret (pe_tup (pa_cons (pv 4) (pa_cons (C8.pe_c c__law_broken hr (by decide) rfl (pa_cons (pv 3) (pa_cons (pv 6) pa_nil))) pa_nil)))))
        pss_nil)
        (pss_one (ps_expr (pe_bmK (K := K) rfl PySem.F.plainAttrs_list PySem.F.slot_list_append PySem.F.type_list_append mt_append (pv 3) (pa_cons (pe_tup (pa_cons (pv 5) (pa_cons (pv 6) pa_nil))) pa_nil))))))))))
        (pss_one (ps_ret (pe_ifExp (PW.pt (pw_and (pt_val (pe_callB (call_isiK1 (K := K) rfl) (by rfl) B.isinstance_ (by decide +kernel) (pa_cons (pv 0) (pa_cons (pe_bltn (v := .ty "str") (u := .type "str") (by rfl) B.str_ (by decide +kernel) rfl) pa_nil)))) (pw_and1 (pt_cmp (pc_din (hu_of hr) (pv 0) (pv 2)))))) pe_non (pe_tup (pa_cons (pe_callB (call_len_seqK (K := K) rfl) (by rfl) B.len_ (by decide +kernel) (pa_cons (pv 1) pa_nil)) (pa_cons (pe_un un_neg pe_int) pa_nil))))))))), ?_⟩
    walk_at "w"
    intro dt hdt
    have e1 : Ex H (upd H dt (.dK [])) := Ex.new hdt
    have g1 : (upd H dt (.dK [])) dt = some (.dK []) := upd_same
    generalize (upd H dt (.dK [])) = H1 at e1 g1 ⊢
    walk_at "w"
    intro dn hdn
    have e2 : Ex H1 (upd H1 dn (.lst [])) := Ex.new hdn
    have g2 : (upd H1 dn (.lst [])) dn = some (.lst []) := upd_same
    have g12 := e2 _ _ g1
    have fdn : H dn = none := by
      cases z : H dn with
      | none => rfl
      | some o => rw [e1 _ _ z] at hdn; cases hdn
    generalize (upd H1 dn (.lst [])) = H2 at e2 g2 g12 ⊢
    have e02 := e1.trans e2
    have hq2 := Evl.ex_l e02 hq
    have D0 : Dn H H2 dt dn [] [] [] := ⟨e02, ⟨g12, fun _ h => absurd h List.not_mem_nil, List.nodup_nil, List.nodup_nil⟩, fun _ h => absurd h List.not_mem_nil, g2, .nil, hdt, fdn⟩
    have fin : ∀ {H3 : Hp} {k0 i0 : Int} (T : Addr), Ex H H3 → H3 T = none → initF ud tabs = some (k0, i0) → Q (.ref T) (upd H3 T (.tup [.int k0, .int i0])) := fun T e hT hi => k _ _ (e.trans (Ex.new hT)) (by rw [hi]; exact ⟨T, rfl, upd_same⟩)
    walk_at "w"
    refine iteD (fun h1 => ?_) (fun h1 => ?_)
    rotate_left
    · have i0 : initF ud tabs = some (-1, -1) := by
        unfold initF
        rw [if_neg (by omega)]
      walk_at "w"
      intro T hT
      walk_at "w"
      exact fin T e02 hT i0
    walk_at "w"
    refine iteND (fun h2 => ?_) (fun h2 => ?_)
    · have i0 : initF ud tabs = some (-1, -1) := by
        unfold initF
        rw [if_neg (by omega)]
      walk_at "w"
      intro T hT
      walk_at "w"
      exact fin T e02 hT i0
    have l16 : 1 ≤ tabs.length ∧ tabs.length ≤ 6 := by omega
    have iF : ∀ kk o, tabsF [] tabs = .inl (kk, o) → initF ud tabs = some (((kk : Nat) : Int), placeI o) := fun kk o e => by
      unfold initF
      rw [if_pos l16, e]
    walk_at "w"
    refine loopE (xs := xs) (fun d r σ' H' => ∃ x4 x5 x6 x7 x8 x9 td tr rs dvs, σ' = [some uv, some (.ref q), some (.ref dt), some (.ref dn), x4, x5, x6, x7, x8, x9] ∧ tabsF td tr = tabsF [] tabs ∧ td.length = d.length ∧ d.length + tr.length = tabs.length ∧ (∀ x ∈ tr, x.2.length ≤ 1000) ∧ Paired (TabE K H) r tr ∧ Dn H H' dt dn rs dvs td ∧ TkOk rs.tk td (mirOf td) ∧ GoodTabs td ∧ ∀ r ∈ rs, r.2.2.length ≤ 6 * d.length)
      ⟨_, _, _, _, _, _, [], tabs, [], [], rfl, rfl, rfl, by simp, lc, hx, D0, ⟨rfl, fun _ _ _ h => nomatch h⟩, .nil, fun _ h => absurd h List.not_mem_nil⟩ (fun d r σ' H' e h => ?_) (fun d y r σ' H' Tp e hTp h => ?_) (fun σ' H' h => ?_)
    · obtain ⟨_, _, _, _, _, _, _, _, _, _, _, _, _, _, _, _, dd, _⟩ := h
      exact Evl.ex_l dd.ex hq
    · obtain ⟨x4, x5, x6, x7, x8, x9, td, tr, rs, dvs, rfl, et, ltd, lall, lc', hr0, DD, ok, g1, rl⟩ := h
      obtain ⟨t, tr', rfl, hy, hr1⟩ := paired_cons hr0
      rw [List.length_cons] at lall
      obtain ⟨ya, cq, cvs, nv, rfl, hya, hnv, hns, hcq, hcs⟩ := id hy
      have hT1 : (L2.upd H' Tp (.tup [.int (d.length : Nat), .ref ya])) Tp = some (.tup [.int (d.length : Nat), .ref ya]) := upd_same
      have DT := DD.ext (Ex.new (o := .tup [.int (d.length : Nat), .ref ya]) hTp)
      generalize (L2.upd H' Tp (.tup [.int (d.length : Nat), .ref ya])) = H3 at hT1 DT ⊢
      have hya3 := DT.ex _ _ hya
      have hcq3 := DT.ex _ _ hcq
      have lv := paired_len hcs
      have lt2 := lc' t (by simp)
      have no1 : (nmOk td t.1 && decide (t.2.length ≤ 6)) = false → initF ud tabs = some (((td.length : Nat) : Int), -1) := fun h => iF td.length none (by
        rw [← et]
        rw [tabsF, if_neg (by rw [h]; exact Bool.false_ne_true)])
      rw [ltd] at no1
      walk_at "w"
      intro bq hbq
      have DB := DT.ext (Ex.new (o := .lst []) hbq)
      have gb : (upd H3 bq (.lst [])) bq = some (.lst []) := upd_same
      have bH : H bq = none := by
        cases z : H bq with
        | none => rfl
        | some o => rw [DT.ex _ _ z] at hbq; cases hbq
      have bdn : bq ≠ dn := (ne_of_none DT.dl hbq).symm
      have bdt : bq ≠ dt := (ne_of_none DT.tk.d hbq).symm
      have brs : ∀ r ∈ rs, r.2.1 ≠ bq := fun r hr => ne_of_none (DT.tk.l r hr) hbq
      generalize (upd H3 bq (.lst [])) = H4 at DB gb ⊢
      walk_at "w"
      refine ⟨nv, t.1, rfl, dp_ext DB.ex hnv, hns, fun H5 e5 => ?_⟩
      have D5 := DB.ext e5
      have gb5 := e5 _ _ gb
      walk_at "w"
      cases hb : strD nameB t.1 with
      | false =>
        walk_at "w"
        intro T hT
        walk_at "w"
        exact fin T D5.ex hT (no1 (by unfold nmOk; rw [hb]; rfl))
      | true =>
      obtain ⟨n, en, hn⟩ := strD_str hb
      obtain ⟨t1, t2⟩ := t
      have en : t1 = .str n := en
      subst en
      cases hnv
      have g2 : IsName n := (nameB_iff _).mp hn
      walk_at "w"
      refine ⟨dt, _, rfl, DGet.k (k := Sum.inr n) D5.tk.d, ?_⟩
      rw [tk_has D5.tk.rows, ok.ks]
      refine ⟨_, rfl, ?_⟩
      refine iteD (fun hin => ?_) (fun g3 => ?_)
      · walk_at "w"
        intro T hT
        walk_at "w"
        exact fin T D5.ex hT (no1 (by unfold nmOk; rw [hb, show strD (fun x => decide (x ∈ td.map (·.1))) (.str n) = true from decide_eq_true hin]; rfl))
      have hnm : nmOk td (.str n) = true := by
        unfold nmOk
        rw [hb, show strD (fun x => decide (x ∈ td.map (·.1))) (.str n) = false from decide_eq_false g3]
        rfl
      have hcq5 := D5.ex _ _ hcq
      walk_at "w"
      refine iteD (fun h6 => ?_) (fun h6 => ?_)
      · have h6' : ¬ t2.length ≤ 6 := by
          have : cvs.length = t2.length := lv
          omega
        walk_at "w"
        intro T hT
        walk_at "w"
        exact fin T D5.ex hT (no1 (by rw [hnm, decide_eq_false h6']; rfl))
      have few : t2.length ≤ 6 := by
        have : cvs.length = t2.length := lv
        omega
      have step : ∀ j, takeF n (mirOf td) td [] t2 = .inl j → tabsF td ((.str n, t2) :: tr') = .inl (td.length, some j) := fun j h => by
        rw [tabsF, if_pos (by rw [hnm, decide_eq_true few]; rfl)]
        show (match takeF n (mirOf td) td [] t2 with | .inl j => _ | .inr cs => _) = _
        rw [h]
      have step2 : ∀ cs, takeF n (mirOf td) td [] t2 = .inr cs → tabsF td ((.str n, t2) :: tr') = (match brk td cs with | some j => .inl (td.length, some j) | none => tabsF (td ++ [(n, cs)]) tr') := fun cs h => by
        rw [tabsF, if_pos (by rw [hnm, decide_eq_true few]; rfl)]
        show (match takeF n (mirOf td) td [] t2 with | .inl j => _ | .inr cs => _) = _
        rw [h]
        rfl
      have mk : (mirOf td).map (·.1) = td.map (·.1) := mirOf_key g1
      walk_at "w"
      refine loopE (xs := cvs) (fun d' r' σ' H' => ∃ x8 x9 md dr rs', σ' = [some uv, some (.ref q), some (.ref dt), some (.ref dn), some (.int (d.length : Nat)), some (.str n), some (.ref cq), some (.ref bq), x8, x9] ∧ takeF n (mirOf td) td md dr = takeF n (mirOf td) td [] t2 ∧ ColsV H d' md ∧ Paired (ColD K H) r' dr ∧ d'.length + r'.length = t2.length ∧ Dn H H' dt dn rs' dvs td ∧ (∀ r ∈ rs', r.2.1 ≠ bq) ∧ TkOk rs'.tk td (md.foldl (addCol n) (mirOf td)) ∧ H' bq = some (.lst ((md.map Col.name).map V.str)) ∧ ∀ r ∈ rs', r.2.2.length ≤ 6 * d.length + d'.length)
        ⟨_, _, [], t2, rs, rfl, rfl, .nil, hcs, by simpa using lv, D5, brs, ok, gb5, fun r hr => by have := rl r hr; show _ ≤ 6 * d.length + 0; omega⟩ (fun d' r' σ' H' e h => ?_) (fun d' y' r' σ' H' Tp' e' hTp' h => ?_) (fun σ' H' h => ?_)
      · obtain ⟨_, _, _, _, _, _, _, _, _, _, dd, _⟩ := h
        exact SqL.of (dd.ex _ _ hcq)
      · obtain ⟨x8', x9', md, dr, rs', rfl, et', hm, hr', lall', D6, nbq, ok', gb6, rl'⟩ := h
        obtain ⟨d0, dr', rfl, hy', hr1'⟩ := paired_cons hr'
        have ldm := paired_len hm
        rw [List.length_cons] at lall'
        have hT7 : (L2.upd H' Tp' (.tup [.int (d'.length : Nat), y'])) Tp' = some (.tup [.int (d'.length : Nat), y']) := upd_same
        have D7 := D6.ext (Ex.new (o := .tup [.int (d'.length : Nat), y']) hTp')
        have gb7 := (Ex.new (o := .tup [.int (d'.length : Nat), y']) hTp') _ _ gb6
        generalize (L2.upd H' Tp' (.tup [.int (d'.length : Nat), y'])) = H7 at hT7 D7 gb7 ⊢
        walk_at "w"
        refine ⟨y', d0, bq, dt, md.map Col.name, _, rs'.tk, td, _, rfl, dp_ext D7.ex hy'.dp, hy'.sz, SqL.of gb7, D7.tk.d, D7.tk.rows, ok', by rw [foldl_addKey]; exact mk, fun H8 e8 => ?_⟩
        have D8 := D7.ext e8
        have gb8 := e8 _ _ gb7
        walk_at "w"
        cases hcb : colB (md.map Col.name) (md.foldl (addCol n) (mirOf td)) td d0 with
        | false =>
          rw [takeF_no hcb] at et'
          walk_at "w"
          intro T hT
          walk_at "w"
          have z := iF td.length (some md.length) (by rw [← et]; exact step md.length et'.symm)
          rw [ltd, ← ldm] at z
          exact fin T D8.ex hT z
        | true =>
        obtain ⟨c, hco, rfl, cin⟩ := colB_col (fun t2 h2 => Nat.le_trans (g1.cols t2 h2) (by decide)) hcb
        rw [takeF_cons hcb hco] at et'
        obtain ⟨ca, rfl, hca0⟩ := hy'.at_ c rfl
        have hca8 := D8.ex _ _ hca0
        walk_at "w"
        refine w_ixT (SqT.of hca8) c.at1 ?_
        walk_at "w"
        have D9 := D8.putL (o := .lst ((md.map Col.name).map V.str ++ [.str c.name])) gb8 bH nbq bdn
        have gb9 : (upd H8 bq (.lst ((md.map Col.name).map V.str ++ [.str c.name]))) bq = some (.lst (((md ++ [c]).map Col.name).map V.str)) := by
          rw [upd_same, List.map_append, List.map_append]
          rfl
        generalize (upd H8 bq (.lst ((md.map Col.name).map V.str ++ [.str c.name]))) = H9 at D9 gb9 ⊢
        have hca9 := D9.ex _ _ hca0
        have hm' : ColsV H (d' ++ [.ref ca]) (md ++ [c]) := paired_app hm (.cons ⟨ca, rfl, hca0⟩ .nil)
        have plain : c.lst = none → TkOk rs'.tk td ((md ++ [c]).foldl (addCol n) (mirOf td)) := fun hl => by
          rw [List.foldl_append]
          show TkOk _ _ (addCol n _ c)
          rw [addCol_none hl]
          exact ok'
        have fin0 : c.lst = none → ∃ x8 x9 md' dr rs'', ([some uv, some (.ref q), some (.ref dt), some (.ref dn), some (.int (d.length : Nat)), some (.str n), some (.ref cq), some (.ref bq), some (.int (d'.length : Nat)), some (.ref ca)] : L2.St) = [some uv, some (.ref q), some (.ref dt), some (.ref dn), some (.int (d.length : Nat)), some (.str n), some (.ref cq), some (.ref bq), x8, x9] ∧ takeF n (mirOf td) td md' dr = takeF n (mirOf td) td [] t2 ∧ ColsV H (d' ++ [.ref ca]) md' ∧ Paired (ColD K H) r' dr ∧ (d' ++ [V.ref ca]).length + r'.length = t2.length ∧ Dn H H9 dt dn rs'' dvs td ∧ (∀ r ∈ rs'', r.2.1 ≠ bq) ∧ TkOk rs''.tk td (md'.foldl (addCol n) (mirOf td)) ∧ H9 bq = some (.lst ((md'.map Col.name).map V.str)) ∧ ∀ r ∈ rs'', r.2.2.length ≤ 6 * d.length + (d' ++ [V.ref ca]).length := fun hl =>
          ⟨_, _, md ++ [c], dr', rs', rfl, et', hm', hr1', by rw [List.length_append, List.length_cons, List.length_nil]; omega, D9, nbq, plain hl, gb9, fun r hr => by have := rl' r hr; rw [List.length_append]; omega⟩
        refine w_ixT (SqT.of hca9) c.at0 ?_
        walk_at "w"
        rw [c.kind_link]
        refine iteB (fun hL => ?_) (fun hL => ?_)
        · walk_at "w"
          refine w_ixT (SqT.of hca9) (Col.at4 hL) ?_
          walk_at "w"
          cases hl : c.lst with
          | none =>
            refine iteND (fun h => absurd rfl h) (fun _ => ?_)
            walk_at "w"
            exact fin0 hl
          | some l =>
            refine iteND (fun _ => ?_) (fun h => by cases h)
            walk_at "w"
            refine w_ixT (SqT.of hca9) (Col.at2 hL) ?_
            obtain ⟨cs2, ls, q1, q2, q3, q4, q5⟩ := cin.lk hL
            obtain ⟨tl, t1, _⟩ := ok'.hs _ _ _ q1 q2
            obtain ⟨a, v1, v2⟩ := tkA_get t1
            have hl9 : H9 a = some (.lst (tl.map V.str)) := D9.tk.l _ v2
            have ltl : tl.length < 1000 := by
              have : tl.length ≤ 6 * d.length + d'.length := rl' _ v2
              omega
            refine ⟨dt, .ref a, rfl, v1 ▸ DGet.k (k := Sum.inr c.target) D9.tk.d, ?_⟩
            walk_at "w"
            refine w_ixT (SqT.of hca9) (Col.at4 hL) ?_
            rw [hl]
            have ltl' : (tl.map V.str).length < sizeLine := Nat.lt_of_lt_of_le (m := 1000) (by rw [List.length_map]; exact ltl) (by decide)
            walk_at "w"
            have D11 := D9.add (l := l) v2
            have ab : bq ≠ a := fun z => nbq _ v2 z.symm
            refine ⟨_, _, md ++ [c], dr', tkAdd c.target l rs', rfl, et', hm', hr1', by rw [List.length_append, List.length_cons, List.length_nil]; omega, D11, fun r hr => ?_, ?_, by rw [upd_ne ab]; exact gb9, fun r hr => ?_⟩
            · obtain ⟨r0, h0, rfl⟩ := List.mem_map.mp hr
              by_cases e : r0.1 = c.target
              · rw [if_pos e]; exact nbq r0 h0
              · rw [if_neg e]; exact nbq r0 h0
            · rw [List.foldl_append]
              exact ok'.add hl
            · obtain ⟨r0, h0, rfl⟩ := List.mem_map.mp hr
              have := rl' r0 h0
              by_cases e : r0.1 = c.target
              · rw [if_pos e]
                show (r0.2.2 ++ [l]).length ≤ _
                rw [List.length_append, List.length_append, List.length_cons, List.length_nil, List.length_cons, List.length_nil]
                omega
              · rw [if_neg e,
                      List.length_append]
                omega
        · have hl : c.lst = none := by cases c <;> first | rfl | cases hL
          walk_at "w"
          exact fin0 hl
      · obtain ⟨x8', x9', md, dr, rs', rfl, et', hm, hr', lall', D6, nbq, ok', gb6, rl'⟩ := h
        cases hr'
        have et' : takeF n (mirOf td) td [] t2 = .inr md := et'.symm
        obtain ⟨ppre, plen⟩ := takeF_pre g1 (PreCols.nil td) et'
        have lmd : md.length ≤ 6 := by rw [plen]; simpa using few
        have nk : n ∉ rs'.map fun r => r.1 := fun z => g3 (by
          rw [← ok'.ks]
          unfold TkA.tk
          rw [List.map_map]
          exact z)
        have lrs : rs'.length = td.length := by
          have := congrArg List.length ok'.ks
          unfold TkA.tk at this
          simpa using this
        have ltd6 : td.length ≤ 6 := by omega
        walk_at "w"
        refine ⟨dt, _, rfl, DPut.k (k := Sum.inr n) D6.tk.d (Nat.lt_of_le_of_lt (m := 6) (by unfold TkA.kvs; rw [List.length_map]; omega) (by decide)), ?_⟩
        rw [putK_new (show valV rs'.kvs (Sum.inr n : Key) = none from ?_)]
        rotate_left
        · have := tk_has D6.tk.rows n
          rw [decide_eq_false (by rw [ok'.ks]; exact g3)] at this
          cases ev : valV rs'.kvs (Sum.inr n : Key) with
          | none => rfl
          | some v => rw [ev] at this; cases this
        have D10 := D6.row (n := n) gb6 bH nbq bdn nk
        have ok10 := ok'.tab (a := bq) g3
        generalize (upd H' dt (.dK (rs'.kvs ++ [(Sum.inr n, V.ref bq)]))) = H10 at D10 ⊢
        walk_at "w"
        have ask : ∀ {H11 : Hp}, Ex H10 H11 → ∀ {Q2 : VK} {E2 : XK}, (∀ H12, Ex H11 H12 → Q2 (vIdx (brk td md)) H12) → spBroken K [.ref dn, .ref cq] H11 Q2 E2 := fun {H11} e11 {Q2 E2} kk => by
          have D11 := D10.ext e11
          exact ⟨dn, cq, td, md, rfl, ⟨dvs, SqL.of D11.dl, paired_imp (fun _ _ h => h.tab D11.ex) D11.ts⟩, g1.few (by omega), g1, ⟨cvs, SqL.of (D11.ex _ _ hcq), ColsV.ext D11.ex hm⟩, by omega, ppre.ok g1, kk⟩
        refine ask (Ex.refl _) fun H11 e11 => ?_
        have D11 := D10.ext e11
        have hdn11 := D11.dl
        walk_at "w"
        cases hbk : brk td md with
        | none =>
          refine iteND (fun h => absurd rfl h) (fun _ => ?_)
          walk_at "w"
          intro T hT
          have D12 := D11.ext (Ex.new (o := .tup [.str n, .ref cq]) hT)
          have g12 : (upd H11 T (.tup [.str n, .ref cq])) T = some (.tup [.str n, .ref cq]) := upd_same
          generalize (upd H11 T (.tup [.str n, .ref cq])) = H12 at D12 g12 ⊢
          have hdn12 := D12.dl
          have ldv := paired_len D12.ts
          walk_at "w"
          refine ⟨_, _, _, _, _, _, td ++ [(n, md)], tr', _, _, rfl, by rw [← et, step2 md et', hbk], by rw [List.length_append, List.length_append, ltd]; rfl, by rw [List.length_append, List.length_cons, List.length_nil]; omega, fun x hx => lc' x (List.mem_cons_of_mem _ hx), hr1, D12.done g12 hcq hm, ok10, g1.snoc g2 g3 ⟨ppre, lmd, brk_none hbk⟩, fun r hr => ?_⟩
          rw [List.length_append,
                  List.length_cons, List.length_nil]
          rcases List.mem_append.1 hr with hr | hr
          · have := rl' r hr
            have : cvs.length = t2.length := lv
            omega
          · rw [List.mem_singleton.1 hr]
            show (md.map Col.name).length ≤ _
            rw [List.length_map]
            omega
        | some j =>
          refine iteND (fun _ => ?_) (fun h => by cases h)
          walk_at "w"
          refine ask e11 fun H12 e12 => ?_
          rw [hbk]
          walk_at "w"
          intro T hT
          have z := iF td.length (some j) (by rw [← et, step2 md et', hbk])
          rw [ltd] at z
          exact fin T (D11.ext e12).ex hT z
    · obtain ⟨x4, x5, x6, x7, x8, x9, td, tr, rs, dvs, rfl, et, ltd, lall, lc', hr0, DD, ok, g1, rl⟩ := h
      cases hr0
      have et : tabsF [] tabs = .inr td := et.symm
      have hud' := dp_ext DD.ex hud
      have hq' := Evl.ex_l DD.ex hq
      walk_at "w"
      refine w_isStr hud' ?_
      have no2 : strD (fun n => decide (n ∈ td.map (·.1))) ud = false → initF ud tabs = some (((tabs.length : Nat) : Int), -1) := fun h => by
        unfold initF
        rw [if_pos l16, et]
        show (if strD (fun n => decide (n ∈ td.map (·.1))) ud = true then none else some _) = _
        rw [if_neg
                (by rw [h]; exact Bool.false_ne_true)]
      cases hs : isStrD ud with
      | false =>
        walk_at "w"
        intro T hT
        rw [lx]
        exact fin T DD.ex hT (no2 (by cases ud <;> first | rfl | cases hs))
      | true =>
        obtain ⟨u, rfl⟩ : ∃ u, ud = .str u := by cases ud <;> first | exact ⟨_, rfl⟩ | cases hs
        cases hud
        walk_at "w"
        refine ⟨dt, _, rfl, DGet.k (k := Sum.inr u) DD.tk.d, ?_⟩
        rw [tk_has DD.tk.rows, ok.ks]
        refine ⟨_, rfl, ?_⟩
        refine iteD (fun hin => ?_) (fun hin => ?_)
        · walk_at "w"
          refine k _ _ DD.ex ?_
          have i0 : initF (.str u) tabs = none := by
            unfold initF
            rw [if_pos l16, et]
            show (if strD (fun n => decide (n ∈ td.map (·.1))) (.str u) = true then none else some _) = _
            rw [if_pos (show strD (fun n => decide (n ∈ td.map (·.1))) (.str u) = true from decide_eq_true hin)]
          rw [i0]
          rfl
        · walk_at "w"
          intro T hT
          rw [lx]
          exact fin T DD.ex hT (no2 (decide_eq_false hin))
end
end LP
namespace LP
open PySem L2
open Evl (Ex)
theorem hu_lt {A : Around} {j : Nat} (hr : Room j A) : A.units < cLine := by have := hr.un; omega
theorem paired_takeN {α β : Type} {R : α → β → Prop} : ∀ {n : Nat} {l : List α} {m : List β}, Paired R l m → Paired R (l.take n) (m.take n)
  | 0, _, _, _ => by rw [List.take_zero, List.take_zero]; exact .nil
  | _ + 1, _, _, .nil => .nil
  | n + 1, _, _, .cons h q => .cons h (paired_takeN (n := n) q)
theorem paired_dropN {α β : Type} {R : α → β → Prop} : ∀ {n : Nat} {l : List α} {m : List β}, Paired R l m → Paired R (l.drop n) (m.drop n)
  | 0, _, _, h => h
  | _ + 1, _, _, .nil => .nil
  | n + 1, _, _, .cons _ q => paired_dropN (n := n) q
theorem TabE.ext {K : PySem.W.Frag} {H H' : Hp} (e : Ex H H') {v : V} {x : PyData × List PyData} (h : TabE K H v x) : TabE K H' v x := by
  obtain ⟨a, cq, cvs, nv, ev, ha, hd, hs, hq, hc⟩ := h
  exact ⟨a, cq, cvs, nv, ev, e _ _ ha, dp_ext e hd, hs, e _ _ hq, paired_imp (fun _ _ h => h.ext e) hc⟩
theorem TabE.tab {K : PySem.W.Frag} {H : Hp} {v : V} {x : PyData × List PyData} (h : TabE K H v x) : TabD K H v x := by
  obtain ⟨a, cq, cvs, nv, ev, ha, hd, hs, hq, hc⟩ := h
  exact ⟨a, cq, cvs, nv, ev, SqT.of ha, hd, hs, SqL.of hq, hc⟩
/-- right tables are tables of any values -/
theorem ColAt.colD {K : PySem.W.Frag} {H : Hp} {v : V} {c : Col} (h : ColAt H v c) (hz : ∀ y ∈ c.ds, ∀ x, y = .str x → x.length ≤ 4000) : ColD K H v c.data := by
  refine ⟨h.dp, fun xs e => ?_, fun c' e => ?_⟩
  · have e : c.ds = xs := by injection e
    rw [← e]
    exact hz
  · obtain ⟨a, rfl, ha⟩ := h
    have e : c.ds = c'.ds := by injection e
    have dp : DpAll K H c.vals c.ds := by
      have z : Dp K H (.ref a) c.data := ColAt.dp ⟨a, rfl, ha⟩
      cases c with
      | plain f n => exact .cons (.str _) (.cons (.str _) .nil)
      | word n o => exact .cons (.str _) (.cons (.str _) (.cons (.bl _) .nil))
      | link n t o l => exact .cons (.str _) (.cons (.str _) (.cons (.str _) (.cons (.bl _) (.cons (dp_opt l) .nil))))
    rw [e] at dp
    exact ⟨a, rfl, by rw [ha, dpAll_vals dp]⟩
theorem good_tabE {K : PySem.W.Frag} {H : Hp} {v : V} {t : Str × List Col} (h : TabAt H v t) (hn : t.1.length ≤ 4000) (hc : ∀ c ∈ t.2, ∀ y ∈ c.ds, ∀ x, y = .str x → x.length ≤ 4000) : TabE K H v (.str t.1, t.2.map Col.data) := by
  obtain ⟨a, p, rfl, ha, cvs, hp, hcv⟩ := h
  refine ⟨a, p, cvs, .str t.1, rfl, ha, .str _, fun y e => by cases e; exact hn, hp, ?_⟩
  have key : ∀ {l : List V} {cs : List Col}, Paired (ColAt H) l cs → (∀ c ∈ cs, ∀ y ∈ c.ds, ∀ x, y = .str x → x.length ≤ 4000) → Paired (ColD K H) l (cs.map Col.data) := fun {l cs} h => by
    induction h with
    | nil => exact fun _ => .nil
    | cons h _ ih => exact fun hz => .cons (h.colD (hz _ List.mem_cons_self)) (ih fun c hc => hz c (List.mem_cons_of_mem _ hc))
  exact key hcv hc
end LP
namespace LP
open PySem L2
open Evl (Ex)
def spOdd (K : PySem.W.Frag) : Sp := fun vs H Q _ => ∃ (b : Addr) (n : Nat), vs = [.ref b] ∧ BagAt H b n ∧ n < 80000000 ∧ ∀ (v : V) (d : PyData) (H' : Hp), Dp K (del b H') v d → AnyOk d → BagAt H' b (n + 20) → Ex (del b H) H' → Q v H'
theorem any_flat {d : PyData} (h : d = .none ∨ (∃ b, d = .bool b) ∨ d = .int 1) : AnyOk d := by
  rcases h with rfl | ⟨b, rfl⟩ | rfl
  · exact ⟨by decide, fun x e => nomatch e⟩
  · exact ⟨by cases b <;> decide, fun x e => nomatch e⟩
  · exact ⟨by decide, fun x e => nomatch e⟩
theorem any_in {x : Str} (h : Asc x) : AnyOk (.tuple [.str x]) ∧ AnyOk (.list [.str x]) := by
  have ok : PyData.strOk x = true := h.ok
  refine ⟨⟨?_, fun x e => nomatch e⟩, ⟨?_, fun x e => nomatch e⟩⟩
  · simp [SeqAt.shaped, PyData.canLay0, PyData.canLayAll0, PyData.depth, PyData.depthAll, ok]
  · simp [SeqAt.shaped, PyData.canLay0, PyData.canLayAll0, PyData.depth, PyData.depthAll, ok]
theorem mapIdx_same {α β : Type} (g : α → β) (l : List α) : l.mapIdx (fun _ c => g c) = l.map g := by
  refine List.ext_getElem (by simp) fun i h1 h2 => by simp
theorem upper_tl (x : Str) : (Txt.upper x).cps.toList = (x.cps.toList.map Unicode.upperOf).flatten := by
  show (Array.flatten (Array.mapIdx (fun i c => (Unicode.upperOf c).toArray) x.cps)).toList = _
  rw [Array.toList_flatten, Array.toList_mapIdx, mapIdx_same (fun c => (Unicode.upperOf c).toArray), List.map_map]
  rfl
theorem up_one : ∀ i < 26, Unicode.upperOf (i + 97) = [i + 65] := by decide +kernel
theorem low_upper {x : Str} (h : Low x) : Asc (Txt.upper x) ∧ (Txt.upper x).length = x.length := by
  have e : (Txt.upper x).cps.toList = x.cps.toList.map fun c => c - 32 := by
    rw [upper_tl]
    have key : ∀ l : List Nat, (∀ c ∈ l, 97 ≤ c ∧ c ≤ 122) → (l.map Unicode.upperOf).flatten = l.map fun c => c - 32 := fun l => by
      induction l with
      | nil => exact fun _ => rfl
      | cons c r ih =>
        intro h
        have h1 := h c List.mem_cons_self
        have h2 := up_one (c - 97) (by omega)
        rw [show c - 97 + 97 = c by omega, show c - 97 + 65 = c - 32 by omega] at h2
        rw [List.map_cons, List.flatten_cons, h2, ih fun x hx => h x (List.mem_cons_of_mem _ hx)]
        rfl
    exact key _ h
  refine ⟨fun c hc => ?_, ?_⟩
  · rw [e] at hc
    obtain ⟨y, hy, rfl⟩ := List.mem_map.mp hc
    have := h y hy
    omega
  · rw [len_tl, len_tl, e, List.length_map]
theorem odd_asc : ∀ x ∈ (["", "abcdefgh", "1", " ", "a_b"] : List Str), (∀ c ∈ x.cps.toList, c < 128) ∧ x.length ≤ 8 := by decide +kernel
section
variable {base : Heap} {mg : Str → Option Value} {K : PySem.W.Frag} {w : World} {P : Program}
theorem ok_odd_name {f : Addr} {fd : FuncData} (D : C8.Def K mg "_law_odd_name" s__law_odd_name f fd) (b : Binds K fd ["bag"] []) (B : Blt mg) (c__law_take : C8.Cal P w K mg base 1 "_law_take" spTake []) (c__law_of : C8.Cal P w K mg base 2 "_law_of" (spOf K) [])
    (c__law_reserved : C8.Cal P w K mg base 1 "_law_reserved" spReserved []) (c__law_draw_letters : C8.Cal P w K mg base 2 "_law_draw_letters" spLetters []) : C8.Cal P w K mg base 3 "_law_odd_name" (spOdd K) [] := by
  have sc : FnScope ["bag", "word", "odd"] ["bag"] (C8.fnScope s__law_odd_name) := C8.fnScope_by (by decide +kernel)
  refine C8.cal0 D b .nil sc (fun vs H Q E h => ?_) (fun cdv A outer s H vs Q E hr h => ?_)
  · obtain ⟨_, _, rfl, _⟩ := h
    rfl
  · obtain ⟨b, n, rfl, hB, hn, k⟩ := h
    refine ⟨_, (pss_cons (ps_set (i := 1) sc.nd rfl (Or.inl rfl) (C8.pe_c c__law_draw_letters hr (by decide) rfl (pa_cons (pv 0) (pa_cons pe_int pa_nil))))
        (pss_cons (ps_if (pt_cmpR op_eq (C8.pe_c c__law_take hr (by decide) rfl (pa_cons (pv 0) (pa_cons pe_int pa_nil))) pe_int (nomark _))
        (pss_one (ps_ret (C8.pe_c c__law_of hr (by decide) rfl (pa_cons (pv 0) (pa_cons (pe_c0 c__law_reserved hr (by decide) rfl) pa_nil)))))
        pss_nil)
        (pss_cons (ps_set (i := 2) sc.nd rfl (Or.inl rfl) (pe_lst (pa_cons pe_str (pa_cons (pe_op op_add_str' (pv 1) pe_str) (pa_cons (pe_op op_add_str' (pv 1) pe_str) (pa_cons (pe_op op_add_str' (pv 1) pe_str) (pa_cons (pe_upper' (pv 1)) (pa_cons pe_str (pa_cons pe_non (pa_cons pe_int (pa_cons pe_bl (pa_cons (pe_tup (pa_cons (pv 1) pa_nil)) (pa_cons (pe_lst (pa_cons (pv 1) pa_nil)) (pa_cons (pv 1) pa_nil))))))))))))))
        (pss_one (ps_ret (C8.pe_c c__law_of hr (by decide) rfl (pa_cons (pv 0) (pa_cons (pv 2) pa_nil)))))))), ?_⟩
    walk_at "w"
    refine ⟨b, 8, n, rfl, hB, by omega, by decide, by decide, fun wd H2 w0 w1 wl hB2 e2 => ?_⟩
    have wa := wl.asc
    have w1 : wd.length ≤ 8 := by omega
    walk_at "w"
    refine ⟨b, 2, _, rfl, hB2, by omega, by decide, by decide, fun z H3 z0 z1 hB3 e3 => ?_⟩
    have e03 : Ex (del b H) H3 := ex_dtrans e2 e3
    have key : ∀ (v : V) (d : PyData) (H' : Hp), Ex (del b H3) H' → (∃ m, m ≤ n + 20 ∧ BagAt H' b m) → Dp K (del b H') v d → AnyOk d → Q v H' := fun v d H' e ⟨m, hm, hb⟩ hd ho => k v d H' hd ho (hb.mono hm) (ex_dtrans e03 e)
    walk_at "w"
    refine iteD (fun _ => ?_) (fun _ => ?_)
    · walk_at "w"
      refine ⟨rfl, fun pl hpl => ?_⟩
      have plb : pl ≠ b := (hB3.ne_none hpl).symm
      walk_at "w"
      refine ⟨b, pl, reservedL.map V.str, _, rfl, hB3.new hpl, by omega, SqL.of (by rw [del_ne plb]; exact upd_same), by decide, by decide, fun v H4 hv hB4 e4 => ?_⟩
      obtain ⟨x, hx, rfl⟩ := List.mem_map.mp hv
      exact key _ _ H4 (ex_dtrans (ex_new_d hpl) e4) ⟨_, by omega, hB4⟩ (.str x) (AnyOk.str (res_asc x hx).1 (Nat.le_trans (res_asc x hx).2 (by decide)))
    · walk_at "w"
      intro pt hpt
      have hB4 := hB3.new (o := .tup [.str wd]) hpt
      have e4 : Ex H3 (upd H3 pt (.tup [.str wd])) := Ex.new hpt
      have g4 : (upd H3 pt (.tup [.str wd])) pt = some (.tup [.str wd]) := upd_same
      generalize (upd H3 pt (.tup [.str wd])) = H4 at hB4 e4 g4 ⊢
      walk_at "w"
      intro pl hpl
      have hB5 := hB4.new (o := .lst [.str wd]) hpl
      have e5 : Ex H4 (upd H4 pl (.lst [.str wd])) := Ex.new hpl
      have g5 : (upd H4 pl (.lst [.str wd])) pl = some (.lst [.str wd]) := upd_same
      have plb : pl ≠ b := (hB4.ne_none hpl).symm
      generalize (upd H4 pl (.lst [.str wd])) = H5 at hB5 e5 g5 ⊢
      have ptb : pt ≠ b := hB4.tup_ne g4
      walk_at "w"
      intro po hpo
      have pob : po ≠ b := (hB5.ne_none hpo).symm
      have e6 : Ex H5 (upd H5 po (.lst [.str "", .str (wd ++ "abcdefgh"), .str (wd ++ "1"), .str (wd ++ " "), .str (Txt.upper wd), .str "a_b", .non, .int 1, .bl true, .ref pt, .ref pl, .str wd])) := Ex.new hpo
      walk_at "w"
      refine ⟨b, po, [.str "", .str (wd ++ "abcdefgh"), .str (wd ++ "1"), .str (wd ++ " "), .str (Txt.upper wd), .str "a_b", .non, .int 1, .bl true, .ref pt, .ref pl, .str wd], _, rfl, hB5.new hpo, by omega, SqL.of (by rw [del_ne pob]; exact upd_same), by simp, by simp, fun v H7 hv hB7 e7 => ?_⟩
      have e37 : Ex (del b H3) H7 := ex_dtrans (ex_del.trans (e4.trans (e5.trans e6))) e7
      have mm : ∃ m, m ≤ n + 20 ∧ BagAt H7 b m := ⟨_, by omega, hB7⟩
      have st : ∀ x : Str, Asc x → x.length ≤ 100 → Q (.str x) H7 := fun x h1 h2 => key _ _ H7 e37 mm (.str x) (AnyOk.str h1 h2)
      have asc : ∀ x ∈ (["", "abcdefgh", "1", " ", "a_b"] : List Str), Asc x ∧ x.length ≤ 8 := odd_asc
      obtain ⟨u1, u2⟩ := low_upper wl
      have g4' : del b H7 pt = some (.tup [.str wd]) := by rw [del_ne ptb]; exact e7 _ _ (by rw [del_ne ptb]; exact e6 _ _ (e5 _ _ g4))
      have g5' : del b H7 pl = some (.lst [.str wd]) := by rw [del_ne plb]; exact e7 _ _ (by rw [del_ne plb]; exact e6 _ _ g5)
      simp only [List.mem_cons, List.not_mem_nil, or_false] at hv
      rcases hv with rfl | rfl | rfl | rfl | rfl | rfl | rfl | rfl | rfl | rfl | rfl | rfl
      · exact st _ (asc _ (by simp)).1 (Nat.le_trans (asc _ (by simp)).2 (by decide))
      · exact st _ (wa.cat (asc "abcdefgh" (by simp)).1) (by have := (asc "abcdefgh" (by simp)).2; rw [len_cat]; omega)
      · exact st _ (wa.cat (asc "1" (by simp)).1) (by have := (asc "1" (by simp)).2; rw [len_cat]; omega)
      · exact st _ (wa.cat (asc " " (by simp)).1) (by have := (asc " " (by simp)).2; rw [len_cat]; omega)
      · exact st _ u1 (by omega)
      · exact st _ (asc _ (by simp)).1 (Nat.le_trans (asc "a_b" (by simp)).2 (by decide))
      · exact key _ _ H7 e37 mm .non (any_flat (.inl rfl))
      · exact key _ _ H7 e37 mm (.int 1) (any_flat (.inr (.inr rfl)))
      · exact key _ _ H7 e37 mm (.bl true) (any_flat (.inr (.inl ⟨_, rfl⟩)))
      · exact key _ _ H7 e37 mm (.tup (SqT.of g4') (.cons (.str wd) .nil)) (any_in wa).1
      · exact key _ _ H7 e37 mm (.lst (SqL.of g5') (.cons (.str wd) .nil)) (any_in wa).2
      · exact st _ wa (by omega)
end
end LP
namespace LP
open PySem L2
open Evl (Ex)
local macro_rules | `(tactic| walk_at "sz1") => `(tactic| first | assumption | (intro x e; cases e; assumption) | (intro x e; cases e; decide) | (intro x e; cases e))
local macro_rules | `(tactic| walk_at "sz4") => `(tactic| ((repeat (refine Sz4.cons (by walk_at "sz1") ?_)); exact Sz4.nil))
def spFindCol (K : PySem.W.Frag) : Sp := fun vs H Q _ => ∃ (b p : Addr) (n : Nat) (ps : List Str), vs = [.ref b, .ref p] ∧ BagAt H b n ∧ n < 75000000 ∧ SqL K (del b H) p (ps.map V.str) ∧ ps ≠ [] ∧ ps.length ≤ 90000 ∧ (∀ x ∈ ps, x.length ≤ 4000) ∧
  ∀ (v : V) (d : PyData) (H' : Hp), ColD K (del b H') v d → BagAt H' b (n + 60) → Ex (del b H) H' → Q v H'
theorem low_sz {x : Str} (h : x.length ≤ 8) : ∀ y, PyData.str x = .str y → y.length ≤ 4000 := fun y e => by cases e; omega
section
variable {base : Heap} {mg : Str → Option Value} {K : PySem.W.Frag} {w : World} {P : Program}
theorem ok_find_column {f : Addr} {fd : FuncData} (D : C8.Def K mg "_law_find_column" s__law_find_column f fd) (b : Binds K fd ["bag", "pool"] []) (B : Blt mg) (c__law_take : C8.Cal P w K mg base 1 "_law_take" spTake []) (c__law_of : C8.Cal P w K mg base 2 "_law_of" (spOf K) [])
    (c__law_odd_name : C8.Cal P w K mg base 3 "_law_odd_name" (spOdd K) []) (c__law_draw_letters : C8.Cal P w K mg base 2 "_law_draw_letters" spLetters []) : C8.Cal P w K mg base 4 "_law_find_column" (spFindCol K) [] := by
  have sc : FnScope ["bag", "pool", "name", "target", "may", "road", "some", "more", "last"] ["bag", "pool"] (C8.fnScope s__law_find_column) := C8.fnScope_by (by decide +kernel)
  refine C8.cal0 D b .nil sc (fun vs H Q E h => ?_) (fun cdv A outer s H vs Q E hr h => ?_)
  · obtain ⟨_, _, _, _, rfl, _⟩ := h
    rfl
  · obtain ⟨b, p, n, ps, rfl, hB, hn, hp, hne, hl, hsz, k⟩ := h
    refine ⟨_, (pss_cons (ps_set (i := 2) sc.nd rfl (Or.inl rfl) (pe_ifExp (pt_cmpR op_eq (C8.pe_c c__law_take hr (by decide) rfl (pa_cons (pv 0) (pa_cons pe_int pa_nil))) pe_int (nomark _)) (C8.pe_c c__law_of hr (by decide) rfl (pa_cons (pv 0) (pa_cons (pv 1) pa_nil))) (C8.pe_c c__law_draw_letters hr (by decide) rfl (pa_cons (pv 0) (pa_cons pe_int pa_nil)))))
        (pss_cons (ps_par (i := 3) (j := 4) (by rfl) sc.nd rfl rfl (by decide) rfl rfl (pa_cons (C8.pe_c c__law_of hr (by decide) rfl (pa_cons (pv 0) (pa_cons (pv 1) pa_nil))) (pa_cons (C8.pe_c c__law_of hr (by decide) rfl (pa_cons (pv 0) (pa_cons (pe_lst (pa_cons pe_bl (pa_cons pe_bl pa_nil))) pa_nil))) pa_nil)) (by rfl))
        (pss_cons (ps_set (i := 5) sc.nd rfl (Or.inl rfl) (C8.pe_c c__law_take hr (by decide) rfl (pa_cons (pv 0) (pa_cons pe_int pa_nil))))
        (pss_cons (ps_if (pt_cmpR op_lt (pv 5) pe_int (nomark _))
        (pss_one (ps_ret (pe_ix (ix_listK (K := K) rfl) (pe_lst (pa_cons (pe_tup (pa_cons pe_str (pa_cons (pv 2) pa_nil))) (pa_cons (pe_tup (pa_cons pe_str (pa_cons (pv 2) pa_nil))) (pa_cons (pe_tup (pa_cons pe_str (pa_cons (pv 2) (pa_cons (pv 4) pa_nil)))) pa_nil)))) (pv 5) (fun _ _ => rfl))))
        pss_nil)
        (pss_cons (ps_if (pt_cmpR op_lt (pv 5) pe_int (nomark _))
        (pss_one (ps_ret (pe_tup (pa_cons pe_str (pa_cons (pv 2) (pa_cons (pv 3) (pa_cons (pv 4) (pa_cons (pe_ifExp (pt_cmpR op_eq (C8.pe_c c__law_take hr (by decide) rfl (pa_cons (pv 0) (pa_cons pe_int pa_nil))) pe_int (nomark _)) (C8.pe_c c__law_of hr (by decide) rfl (pa_cons (pv 0) (pa_cons (pv 1) pa_nil))) pe_non) pa_nil))))))))
        pss_nil)
        (pss_cons (ps_if (pt_cmpR op_eq (pv 5) pe_int (nomark _))
        (pss_one (ps_ret (pe_tup (pa_cons (C8.pe_c c__law_of hr (by decide) rfl (pa_cons (pv 0) (pa_cons (pe_lst (pa_cons pe_str (pa_cons pe_str pa_nil))) pa_nil))) (pa_cons (C8.pe_c c__law_odd_name hr (by decide) rfl (pa_cons (pv 0) pa_nil)) pa_nil)))))
        pss_nil)
        (pss_cons (ps_if (pt_cmpR op_eq (pv 5) pe_int (nomark _))
        (pss_one (ps_ret (pe_tup (pa_cons pe_str (pa_cons (C8.pe_c c__law_odd_name hr (by decide) rfl (pa_cons (pv 0) pa_nil)) (pa_cons (C8.pe_c c__law_of hr (by decide) rfl (pa_cons (pv 0) (pa_cons (pe_lst (pa_cons pe_int (pa_cons pe_int (pa_cons pe_non (pa_cons pe_str (pa_cons (pe_tup pa_nil) (pa_cons pe_bl pa_nil))))))) pa_nil))) pa_nil))))))
        pss_nil)
        (pss_cons (ps_if (pt_cmpR op_eq (pv 5) pe_int (nomark _))
        (pss_one (ps_ret (pe_tup (pa_cons pe_str (pa_cons (pv 2) (pa_cons (C8.pe_c c__law_of hr (by decide) rfl (pa_cons (pv 0) (pa_cons (pe_lst (pa_cons pe_non (pa_cons pe_int (pa_cons pe_str (pa_cons (pe_lst (pa_cons pe_str pa_nil)) (pa_cons (pe_tup pa_nil) (pa_cons (pv 2) pa_nil))))))) pa_nil))) (pa_cons (pv 4) (pa_cons pe_non pa_nil))))))))
        pss_nil)
        (pss_cons (ps_if (pt_cmpR op_eq (pv 5) pe_int (nomark _))
        (pss_one (ps_ret (pe_tup (pa_cons pe_str (pa_cons (pv 2) (pa_cons (pv 3) (pa_cons (C8.pe_c c__law_of hr (by decide) rfl (pa_cons (pv 0) (pa_cons (pe_lst (pa_cons pe_int (pa_cons pe_int (pa_cons pe_non (pa_cons pe_str pa_nil))))) pa_nil))) (pa_cons pe_non pa_nil))))))))
        pss_nil)
        (pss_cons (ps_if (pt_cmpR op_eq (pv 5) pe_int (nomark _))
        (pss_one (ps_ret (pe_tup (pa_cons pe_str (pa_cons (pv 2) (pa_cons (pv 3) (pa_cons (pv 4) (pa_cons (C8.pe_c c__law_odd_name hr (by decide) rfl (pa_cons (pv 0) pa_nil)) pa_nil))))))))
        pss_nil)
        (pss_cons (ps_set (i := 6) sc.nd rfl (Or.inl rfl) (pe_lst (pa_cons (pe_tup (pa_cons pe_str pa_nil)) (pa_cons (pe_tup (pa_cons pe_str (pa_cons (pv 2) (pa_cons (pv 4) pa_nil)))) (pa_cons (pe_tup (pa_cons pe_str (pa_cons (pv 2) (pa_cons pe_non pa_nil)))) (pa_cons (pe_tup (pa_cons pe_str (pa_cons (pv 2) pa_nil))) (pa_cons (pe_tup (pa_cons pe_str (pa_cons (pv 2) (pa_cons (pv 4) (pa_cons pe_non pa_nil))))) (pa_cons (pe_tup pa_nil) (pa_cons pe_non pa_nil)))))))))
        (pss_cons (ps_set (i := 7) sc.nd rfl (Or.inl rfl) (pe_lst (pa_cons (pe_lst (pa_cons pe_str (pa_cons (pv 2) pa_nil))) (pa_cons (pe_tup (pa_cons pe_str (pa_cons (pv 2) pa_nil))) (pa_cons (pe_tup (pa_cons pe_str (pa_cons (pv 2) pa_nil))) (pa_cons (pe_tup (pa_cons pe_non (pa_cons (pv 2) pa_nil))) (pa_cons (pe_tup (pa_cons pe_int (pa_cons (pv 2) pa_nil))) (pa_cons pe_str (pa_cons pe_int (pa_cons (pe_tup (pa_cons pe_str (pa_cons (pv 2) (pa_cons (pv 3) pa_nil)))) pa_nil))))))))))
        (pss_cons (ps_set (i := 8) sc.nd rfl (Or.inl rfl) (pe_lst (pa_cons (pe_tup (pa_cons pe_str (pa_cons (pv 2) (pa_cons (pv 3) (pa_cons (pv 4) pa_nil))))) (pa_cons (pe_tup (pa_cons pe_str (pa_cons (pv 2) (pa_cons (pv 3) (pa_cons (pv 4) (pa_cons pe_non (pa_cons pe_non pa_nil))))))) (pa_cons (pe_tup (pa_cons (pe_lst (pa_cons pe_str pa_nil)) (pa_cons (pv 2) pa_nil))) (pa_cons (pe_tup (pa_cons pe_str (pa_cons (pv 2) pa_nil))) pa_nil))))))
        (pss_one (ps_ret (C8.pe_c c__law_of hr (by decide) rfl (pa_cons (pv 0) (pa_cons (pe_op op_cat (pe_op op_cat (pv 6) (pv 7)) (pv 8)) pa_nil)))))))))))))))))), ?_⟩
    walk_at "w"
    refine ⟨b, 2, n, rfl, hB, by omega, by decide, by decide, fun z0 H1 a0 a1 hB1 e1 => ?_⟩
    have hp1 := Evl.ex_l (ex_dd e1) hp
    walk_at "w"
    refine joinV (R := fun v H2 => ∃ nm : Str, v = .str nm ∧ nm.length ≤ 4000 ∧ BagAt H2 b (n + 11) ∧ Ex (del b H1) H2) (fun he k' hk' => ?_) (fun he k' hk' => ?_) (fun v H2 h2 => ?_)
    · walk_at "w"
      refine ⟨b, p, _, _, rfl, hB1, by omega, hp1, by simpa using hne, by simpa using hl, fun v H2 hv hB2 e2 => ?_⟩
      obtain ⟨x, hx, rfl⟩ := List.mem_map.mp hv
      exact hk' _ _ ⟨x, rfl, hsz x hx, hB2.mono (by omega), e2⟩
    · walk_at "w"
      refine ⟨b, 8, _, rfl, hB1, by omega, by decide, by decide, fun wd H2 w0 w1 wl hB2 e2 => ?_⟩
      exact hk' _ _ ⟨wd, rfl, by omega, hB2.mono (by omega), e2⟩
    obtain ⟨nm, rfl, lnm, hB2, e2⟩ := h2
    have hp2 := Evl.ex_l (ex_dd e2) hp1
    walk_at "w"
    refine ⟨b, p, _, _, rfl, hB2, by omega, hp2, by simpa using hne, by simpa using hl, fun v H3 hv hB3 e3 => ?_⟩
    obtain ⟨tg, htg, rfl⟩ := List.mem_map.mp hv
    have ltg := hsz tg htg
    have hp3 := Evl.ex_l (ex_dd e3) hp2
    walk_at "w"
    intro l1 hl1
    have l1b : l1 ≠ b := (hB3.ne_none hl1).symm
    walk_at "w"
    refine ⟨b, l1, [.bl false, .bl true], _, rfl, hB3.new hl1, by omega, SqL.of (by rw [del_ne l1b]; exact upd_same), by simp, by simp, fun v H4 hv hB4 e4 => ?_⟩
    obtain ⟨may, rfl⟩ : ∃ may, v = V.bl may := by
      simp only [List.mem_cons, List.not_mem_nil, or_false] at hv
      rcases hv with rfl | rfl <;> exact ⟨_, rfl⟩
    have e34 : Ex (del b H3) H4 := (ex_dd (ex_new_d hl1)).trans e4
    have hp4 := Evl.ex_l (ex_dd e34) hp3
    walk_at "w"
    refine ⟨b, 13, _, rfl, hB4, by omega, by decide, by decide, fun road H5 r0 r1 hB5 e5 => ?_⟩
    have hp5 := Evl.ex_l (ex_dd e5) hp4
    have e05 : Ex (del b H) H5 := ex_dtrans e1 (ex_dtrans e2 (ex_dtrans e3 (ex_dtrans e34 e5)))
    have A0 : Al K b (n + 16) H5 H5 [] [] [] := ⟨hB5.mono (by omega), ex_del, fun _ h => absurd h List.not_mem_nil, fun _ h => absurd h List.not_mem_nil, fun _ h => absurd h List.not_mem_nil⟩
    have fin : ∀ {m : Nat} {H' : Hp} {vals : List V} {ls : List (Addr × List V)} {ws : List (V × PyData)} (v : V), Al K b m H5 H' vals ls ws → m ≤ n + 60 → v ∈ vals → Q v H' := fun v A hm hv => by
      obtain ⟨d, hd⟩ := A.s v hv
      exact k v d _ hd (A.hB.mono hm) (ex_dtrans e05 A.e)
    walk_at "w"
    refine iteD (fun h3 => ?_) (fun h3 => ?_)
    · walk_at "w"
      intro q1 hq1
      have A1 := A0.tup (xs := [.str "flag", .str nm]) hq1 (.cons (.str _) (.cons (.str _) .nil)) (by walk_at "sz4")
      generalize (upd H5 q1 (.tup [.str "flag", .str nm])) = G1 at A1 ⊢
      walk_at "w"
      intro q2 hq2
      have A2 := A1.tup (xs := [.str "number", .str nm]) hq2 (.cons (.str _) (.cons (.str _) .nil)) (by walk_at "sz4")
      generalize (upd G1 q2 (.tup [.str "number", .str nm])) = G2 at A2 ⊢
      walk_at "w"
      intro q3 hq3
      have A3 := A2.tup (xs := [.str "word", .str nm, .bl may]) hq3 (.cons (.str _) (.cons (.str _) (.cons (.bl _) .nil))) (by walk_at "sz4")
      generalize (upd G2 q3 (.tup [.str "word", .str nm, .bl may])) = G3 at A3 ⊢
      walk_at "w"
      intro q4 hq4
      have A4 := A3.list (xs := [.ref q1, .ref q2, .ref q3]) hq4 
      generalize (upd G3 q4 (.lst [.ref q1, .ref q2, .ref q3])) = G4 at A4 ⊢
      have hl := (A4.l (q4, [.ref q1, .ref q2, .ref q3]) (by simp)).2
      walk_at "w"
      obtain ⟨j, rfl, hj⟩ : ∃ j : Nat, road = (j : Int) ∧ j < 3 := ⟨road.toNat, by omega, by omega⟩
      have hv : ∃ v ∈ ([.ref q1, .ref q2, .ref q3] : List V), ([.ref q1, .ref q2, .ref q3] : List V)[j]? = some v := by
        match j, hj with
        | 0, _ => exact ⟨_, by simp, rfl⟩
        | 1, _ => exact ⟨.ref q2, by simp, rfl⟩
        | 2, _ => exact ⟨.ref q3, by simp, rfl⟩
      obtain ⟨v, hv, ev⟩ := hv
      refine w_ixL (SqL.of hl) (v := v) (atI_nat ev) ?_
      refine fin v A4 (by omega) ?_
      simp only [List.mem_cons, List.not_mem_nil, or_false] at hv ⊢
      rcases hv with rfl | rfl | rfl <;> simp
    walk_at "w"
    refine iteD (fun h6 => ?_) (fun h6 => ?_)
    · walk_at "w"
      refine ⟨b, 2, _, rfl, hB5, by omega, by decide, by decide, fun z1 H6 b0 b1 hB6 e6 => ?_⟩
      have hp6 := Evl.ex_l (ex_dd e6) hp5
      walk_at "w"
      refine joinV (R := fun v H7 => ∃ o : Option Str, v = vOpt o ∧ (∀ x, o = some x → x.length ≤ 4000) ∧ BagAt H7 b (n + 20) ∧ Ex (del b H6) H7) (fun he k' hk' => ?_) (fun he k' hk' => ?_) (fun v H7 h7 => ?_)
      · walk_at "w"
        refine ⟨b, p, _, _, rfl, hB6, by omega, hp6, by simpa using hne, by simpa using hl, fun v H7 hv hB7 e7 => ?_⟩
        obtain ⟨x, hx, rfl⟩ := List.mem_map.mp hv
        exact hk' _ _ ⟨some x, rfl, fun y e => by cases e; exact hsz x hx, hB7.mono (by omega), e7⟩
      · walk_at "w"
        exact hk' _ _ ⟨none, rfl, (fun y e => by cases e), hB6.mono (by omega), ex_del⟩
      obtain ⟨o, rfl, ho, hB7, e7⟩ := h7
      have A1 := (A0.step hB6 e6).step hB7 e7
      have dO : Dp K (del b H7) (vOpt o) (dOpt o) := dp_opt o
      have zO : ∀ x, dOpt o = .str x → x.length ≤ 4000 := fun x e => by cases o with | none => cases e | some y => cases e; exact ho _ rfl
      walk_at "w"
      intro q1 hq1
      have A2 := A1.tup (xs := [.str "link", .str nm, .str tg, .bl may, vOpt o]) hq1 (.cons (.str _) (.cons (.str _) (.cons (.str _) (.cons (.bl _) (.cons dO .nil))))) (by walk_at "sz4")
      exact fin _ A2 (by omega) (by simp)
    walk_at "w"
    refine iteD (fun h7 => ?_) (fun h7 => ?_)
    · walk_at "w"
      intro q1 hq1
      have A1 := A0.list (xs := [.str "flag", .str "number"]) hq1 
      generalize (upd H5 q1 (.lst [.str "flag", .str "number"])) = G1 at A1 ⊢
      have hl1 := A1.l (q1, [.str "flag", .str "number"]) (by simp)
      walk_at "w"
      refine ⟨b, q1, [.str "flag", .str "number"], _, rfl, A1.hB, by omega, SqL.of (by rw [del_ne hl1.1]; exact hl1.2), by simp, by simp, fun v H6 hv hB6 e6 => ?_⟩
      obtain ⟨kd, rfl, lkd⟩ : ∃ kd : Str, v = .str kd ∧ kd.length ≤ 4000 := by
        simp only [List.mem_cons, List.not_mem_nil, or_false] at hv
        rcases hv with rfl | rfl
        · exact ⟨_, rfl, by decide⟩
        · exact ⟨_, rfl, by decide⟩
      have A2 := A1.step hB6 e6
      walk_at "w"
      refine ⟨b, _, rfl, A2.hB, by omega, fun v1 d1 H7 dv1 any1 hB7 e7 => ?_⟩
      have A3 := A2.step hB7 e7
      have z1 : ∀ x, d1 = .str x → x.length ≤ 4000 := fun x e => Nat.le_trans (any1.st x e) (by decide)
      walk_at "w"
      intro q2 hq2
      exact fin _ (A3.tup (xs := [.str kd, v1]) hq2 (.cons (.str _) (.cons dv1 .nil)) (by walk_at "sz4")) (by omega) (by simp)
    walk_at "w"
    refine iteD (fun h8 => ?_) (fun h8 => ?_)
    · walk_at "w"
      refine ⟨b, _, rfl, A0.hB, by omega, fun v1 d1 H6 dp_v1 any_v1 hB_v1 e_v1 => ?_⟩
      have B1 := (A0.step hB_v1 e_v1).put dp_v1
      have z_v1 : ∀ x, d1 = .str x → x.length ≤ 4000 := fun x e => Nat.le_trans (any_v1.st x e) (by decide)
      walk_at "w"
      intro q1 hq1
      have A1 := B1.tup (xs := []) hq1 .nil (by walk_at "sz4")
      generalize (upd H6 q1 (.tup [])) = G1 at A1 ⊢
      walk_at "w"
      intro q2 hq2
      have A2 := A1.list (xs := [.int 0, .int 1, .non, .str "True", .ref q1, .bl true]) hq2 
      generalize (upd G1 q2 (.lst [.int 0, .int 1, .non, .str "True", .ref q1, .bl true])) = G2 at A2 ⊢
      have hl_q2 := A2.l (q2, [.int 0, .int 1, .non, .str "True", .ref q1, .bl true]) (by simp)
      walk_at "w"
      refine ⟨b, q2, [.int 0, .int 1, .non, .str "True", .ref q1, .bl true], _, rfl, A2.hB, by omega, SqL.of (by rw [del_ne hl_q2.1]; exact hl_q2.2), by simp, by simp, fun v2 H7 hv_v2 hB_v2 e_v2 => ?_⟩
      have B2 := A2.step hB_v2 e_v2
      have hd2 : ∃ d2, Dp K (del b H7) v2 d2 ∧ ∀ x, d2 = .str x → x.length ≤ 4000 := by
        have ct := B2.w (.ref q1, .tuple []) (by simp)
        simp only [List.mem_cons, List.not_mem_nil, or_false] at hv_v2
        rcases hv_v2 with rfl | rfl | rfl | rfl | rfl | rfl
        · exact ⟨_, .int 0, fun x e => by cases e⟩
        · exact ⟨_, .int 1, fun x e => by cases e⟩
        · exact ⟨_, .non, fun x e => by cases e⟩
        · exact ⟨_, .str _, fun x e => by cases e; decide⟩
        · exact ⟨_, ct, fun x e => by cases e⟩
        · exact ⟨_, .bl true, fun x e => by cases e⟩
      obtain ⟨d2, hd2, z2⟩ := hd2
      have dq_v1 := B2.w (v1, d1) (by simp)
      walk_at "w"
      intro qL hqL
      exact fin _ (B2.tup (xs := [.str "word", v1, v2]) hqL (.cons (.str _) (.cons dq_v1 (.cons hd2 .nil))) (by walk_at "sz4")) (by omega) (by simp)
    walk_at "w"
    refine iteD (fun h9 => ?_) (fun h9 => ?_)
    · walk_at "w"
      intro q1 hq1
      have A1 := A0.vlist (xs := [.str "a"]) hq1 (.cons (.str _) .nil)
      generalize (upd H5 q1 (.lst [.str "a"])) = G1 at A1 ⊢
      walk_at "w"
      intro q2 hq2
      have A2 := A1.tup (xs := []) hq2 .nil (by walk_at "sz4")
      generalize (upd G1 q2 (.tup [])) = G2 at A2 ⊢
      walk_at "w"
      intro q3 hq3
      have A3 := A2.list (xs := [.non, .int 0, .str "", .ref q1, .ref q2, .str nm]) hq3 
      generalize (upd G2 q3 (.lst [.non, .int 0, .str "", .ref q1, .ref q2, .str nm])) = G3 at A3 ⊢
      have hl_q3 := A3.l (q3, [.non, .int 0, .str "", .ref q1, .ref q2, .str nm]) (by simp)
      walk_at "w"
      refine ⟨b, q3, [.non, .int 0, .str "", .ref q1, .ref q2, .str nm], _, rfl, A3.hB, by omega, SqL.of (by rw [del_ne hl_q3.1]; exact hl_q3.2), by simp, by simp, fun v2 H7 hv_v2 hB_v2 e_v2 => ?_⟩
      have B2 := A3.step hB_v2 e_v2
      have hd2 : ∃ d2, Dp K (del b H7) v2 d2 ∧ ∀ x, d2 = .str x → x.length ≤ 4000 := by
        have ct := B2.w (.ref q2, .tuple []) (by simp)
        have cl := B2.w (.ref q1, .list [.str "a"]) (by simp)
        simp only [List.mem_cons, List.not_mem_nil, or_false] at hv_v2
        rcases hv_v2 with rfl | rfl | rfl | rfl | rfl | rfl
        · exact ⟨_, .non, fun x e => by cases e⟩
        · exact ⟨_, .int 0, fun x e => by cases e⟩
        · exact ⟨_, .str _, fun x e => by cases e; decide⟩
        · exact ⟨_, cl, fun x e => by cases e⟩
        · exact ⟨_, ct, fun x e => by cases e⟩
        · exact ⟨_, .str _, fun x e => by cases e; exact lnm⟩
      obtain ⟨d2, hd2, z2⟩ := hd2
      walk_at "w"
      intro qL hqL
      exact fin _ (B2.tup (xs := [.str "link", .str nm, v2, .bl may, .non]) hqL (.cons (.str _) (.cons (.str _) (.cons hd2 (.cons (.bl _) (.cons .non .nil))))) (by walk_at "sz4")) (by omega) (by simp)
    walk_at "w"
    refine iteD (fun h10 => ?_) (fun h10 => ?_)
    · walk_at "w"
      intro q1 hq1
      have A1 := A0.list (xs := [.int 0, .int 1, .non, .str "?"]) hq1 
      generalize (upd H5 q1 (.lst [.int 0, .int 1, .non, .str "?"])) = G1 at A1 ⊢
      have hl_q1 := A1.l (q1, [.int 0, .int 1, .non, .str "?"]) (by simp)
      walk_at "w"
      refine ⟨b, q1, [.int 0, .int 1, .non, .str "?"], _, rfl, A1.hB, by omega, SqL.of (by rw [del_ne hl_q1.1]; exact hl_q1.2), by simp, by simp, fun v2 H7 hv_v2 hB_v2 e_v2 => ?_⟩
      have B2 := A1.step hB_v2 e_v2
      have hd2 : ∃ d2, Dp K (del b H7) v2 d2 ∧ ∀ x, d2 = .str x → x.length ≤ 4000 := by
        simp only [List.mem_cons, List.not_mem_nil, or_false] at hv_v2
        rcases hv_v2 with rfl | rfl | rfl | rfl
        · exact ⟨_, .int 0, fun x e => by cases e⟩
        · exact ⟨_, .int 1, fun x e => by cases e⟩
        · exact ⟨_, .non, fun x e => by cases e⟩
        · exact ⟨_, .str _, fun x e => by cases e; decide⟩
      obtain ⟨d2, hd2, z2⟩ := hd2
      walk_at "w"
      intro qL hqL
      exact fin _ (B2.tup (xs := [.str "link", .str nm, .str tg, v2, .non]) hqL (.cons (.str _) (.cons (.str _) (.cons (.str _) (.cons hd2 (.cons .non .nil))))) (by walk_at "sz4")) (by omega) (by simp)
    walk_at "w"
    refine iteD (fun h11 => ?_) (fun h11 => ?_)
    · walk_at "w"
      refine ⟨b, _, rfl, A0.hB, by omega, fun v1 d1 H6 dp_v1 any_v1 hB_v1 e_v1 => ?_⟩
      have B1 := (A0.step hB_v1 e_v1).put dp_v1
      have z_v1 : ∀ x, d1 = .str x → x.length ≤ 4000 := fun x e => Nat.le_trans (any_v1.st x e) (by decide)
      have dq_v1 := B1.w (v1, d1) (by simp)
      walk_at "w"
      intro qL hqL
      exact fin _ (B1.tup (xs := [.str "link", .str nm, .str tg, .bl may, v1]) hqL (.cons (.str _) (.cons (.str _) (.cons (.str _) (.cons (.bl _) (.cons dq_v1 .nil))))) (by walk_at "sz4")) (by omega) (by simp)
    walk_at "w"
    intro q1 hq1
    have A1 := A0.tup (xs := [.str "flag"]) hq1 (.cons (.str _) .nil) (by walk_at "sz4")
    generalize (upd H5 q1 (.tup [.str "flag"])) = G1 at A1 ⊢
    walk_at "w"
    intro q2 hq2
    have A2 := A1.tup (xs := [.str "flag", .str nm, .bl may]) hq2 (.cons (.str _) (.cons (.str _) (.cons (.bl _) .nil))) (by walk_at "sz4")
    generalize (upd G1 q2 (.tup [.str "flag", .str nm, .bl may])) = G2 at A2 ⊢
    walk_at "w"
    intro q3 hq3
    have A3 := A2.tup (xs := [.str "number", .str nm, .non]) hq3 (.cons (.str _) (.cons (.str _) (.cons .non .nil))) (by walk_at "sz4")
    generalize (upd G2 q3 (.tup [.str "number", .str nm, .non])) = G3 at A3 ⊢
    walk_at "w"
    intro q4 hq4
    have A4 := A3.tup (xs := [.str "word", .str nm]) hq4 (.cons (.str _) (.cons (.str _) .nil)) (by walk_at "sz4")
    generalize (upd G3 q4 (.tup [.str "word", .str nm])) = G4 at A4 ⊢
    walk_at "w"
    intro q5 hq5
    have A5 := A4.tup (xs := [.str "word", .str nm, .bl may, .non]) hq5 (.cons (.str _) (.cons (.str _) (.cons (.bl _) (.cons .non .nil)))) (by walk_at "sz4")
    generalize (upd G4 q5 (.tup [.str "word", .str nm, .bl may, .non])) = G5 at A5 ⊢
    walk_at "w"
    intro q6 hq6
    have A6 := A5.tup (xs := []) hq6 .nil (by walk_at "sz4")
    generalize (upd G5 q6 (.tup [])) = G6 at A6 ⊢
    walk_at "w"
    intro q7 hq7
    have A7 := A6.list (xs := [.ref q1, .ref q2, .ref q3, .ref q4, .ref q5, .ref q6, .non]) hq7 
    generalize (upd G6 q7 (.lst [.ref q1, .ref q2, .ref q3, .ref q4, .ref q5, .ref q6, .non])) = G7 at A7 ⊢
    walk_at "w"
    intro q8 hq8
    have A8 := A7.vlist (xs := [.str "flag", .str nm]) hq8 (.cons (.str _) (.cons (.str _) .nil))
    generalize (upd G7 q8 (.lst [.str "flag", .str nm])) = G8 at A8 ⊢
    walk_at "w"
    intro q9 hq9
    have A9 := A8.tup (xs := [.str "text", .str nm]) hq9 (.cons (.str _) (.cons (.str _) .nil)) (by walk_at "sz4")
    generalize (upd G8 q9 (.tup [.str "text", .str nm])) = G9 at A9 ⊢
    walk_at "w"
    intro q10 hq10
    have A10 := A9.tup (xs := [.str "FLAG", .str nm]) hq10 (.cons (.str _) (.cons (.str _) .nil)) (by walk_at "sz4")
    generalize (upd G9 q10 (.tup [.str "FLAG", .str nm])) = G10 at A10 ⊢
    walk_at "w"
    intro q11 hq11
    have A11 := A10.tup (xs := [.non, .str nm]) hq11 (.cons .non (.cons (.str _) .nil)) (by walk_at "sz4")
    generalize (upd G10 q11 (.tup [.non, .str nm])) = G11 at A11 ⊢
    walk_at "w"
    intro q12 hq12
    have A12 := A11.tup (xs := [.int 1, .str nm]) hq12 (.cons (.int _) (.cons (.str _) .nil)) (by walk_at "sz4")
    generalize (upd G11 q12 (.tup [.int 1, .str nm])) = G12 at A12 ⊢
    walk_at "w"
    intro q13 hq13
    have A13 := A12.tup (xs := [.str "link", .str nm, .str tg]) hq13 (.cons (.str _) (.cons (.str _) (.cons (.str _) .nil))) (by walk_at "sz4")
    generalize (upd G12 q13 (.tup [.str "link", .str nm, .str tg])) = G13 at A13 ⊢
    walk_at "w"
    intro q14 hq14
    have A14 := A13.list (xs := [.ref q8, .ref q9, .ref q10, .ref q11, .ref q12, .str "flag", .int 3, .ref q13]) hq14 
    generalize (upd G13 q14 (.lst [.ref q8, .ref q9, .ref q10, .ref q11, .ref q12, .str "flag", .int 3, .ref q13])) = G14 at A14 ⊢
    walk_at "w"
    intro q15 hq15
    have A15 := A14.tup (xs := [.str "link", .str nm, .str tg, .bl may]) hq15 (.cons (.str _) (.cons (.str _) (.cons (.str _) (.cons (.bl _) .nil)))) (by walk_at "sz4")
    generalize (upd G14 q15 (.tup [.str "link", .str nm, .str tg, .bl may])) = G15 at A15 ⊢
    walk_at "w"
    intro q16 hq16
    have A16 := A15.tup (xs := [.str "link", .str nm, .str tg, .bl may, .non, .non]) hq16 (.cons (.str _) (.cons (.str _) (.cons (.str _) (.cons (.bl _) (.cons .non (.cons .non .nil)))))) (by walk_at "sz4")
    generalize (upd G15 q16 (.tup [.str "link", .str nm, .str tg, .bl may, .non, .non])) = G16 at A16 ⊢
    walk_at "w"
    intro q17 hq17
    have A17 := A16.vlist (xs := [.str "flag"]) hq17 (.cons (.str _) .nil)
    generalize (upd G16 q17 (.lst [.str "flag"])) = G17 at A17 ⊢
    walk_at "w"
    have dn3 := A17.w (.ref q17, .list [.str "flag"]) (by simp)
    intro q18 hq18
    have A18 := A17.tup (xs := [.ref q17, .str nm]) hq18 (.cons dn3 (.cons (.str _) .nil)) (by walk_at "sz4")
    generalize (upd G17 q18 (.tup [.ref q17, .str nm])) = G18 at A18 ⊢
    walk_at "w"
    intro q19 hq19
    have A19 := A18.tup (xs := [.str "", .str nm]) hq19 (.cons (.str _) (.cons (.str _) .nil)) (by walk_at "sz4")
    generalize (upd G18 q19 (.tup [.str "", .str nm])) = G19 at A19 ⊢
    walk_at "w"
    intro q20 hq20
    have A20 := A19.list (xs := [.ref q15, .ref q16, .ref q18, .ref q19]) hq20 
    generalize (upd G19 q20 (.lst [.ref q15, .ref q16, .ref q18, .ref q19])) = G20 at A20 ⊢
    have g1 := (A20.l (q7, [.ref q1, .ref q2, .ref q3, .ref q4, .ref q5, .ref q6, .non]) (by simp)).2
    have g2 := (A20.l (q14, [.ref q8, .ref q9, .ref q10, .ref q11, .ref q12, .str "flag", .int 3, .ref q13]) (by simp)).2
    have g3 := (A20.l (q20, [.ref q15, .ref q16, .ref q18, .ref q19]) (by simp)).2
    walk_at "w"
    refine w_cat g1 g2 (Nat.le_trans (m := 100) (by simp) (by decide)) fun C1 hC1 => ?_
    have AC1 := A20.list (xs := [.ref q1, .ref q2, .ref q3, .ref q4, .ref q5, .ref q6, .non] ++ [.ref q8, .ref q9, .ref q10, .ref q11, .ref q12, .str "flag", .int 3, .ref q13]) hC1
    generalize (upd G20 C1 (.lst ([.ref q1, .ref q2, .ref q3, .ref q4, .ref q5, .ref q6, .non] ++ [.ref q8, .ref q9, .ref q10, .ref q11, .ref q12, .str "flag", .int 3, .ref q13]))) = GC1 at AC1 ⊢
    have g4 := (AC1.l (C1, [.ref q1, .ref q2, .ref q3, .ref q4, .ref q5, .ref q6, .non] ++ [.ref q8, .ref q9, .ref q10, .ref q11, .ref q12, .str "flag", .int 3, .ref q13]) (by simp)).2
    have g5 := (AC1.l (q20, [.ref q15, .ref q16, .ref q18, .ref q19]) (by simp)).2
    walk_at "w"
    refine w_cat g4 g5 (Nat.le_trans (m := 100) (by simp) (by decide)) fun C2 hC2 => ?_
    have AC2 := AC1.list (xs := [.ref q1, .ref q2, .ref q3, .ref q4, .ref q5, .ref q6, .non] ++ [.ref q8, .ref q9, .ref q10, .ref q11, .ref q12, .str "flag", .int 3, .ref q13] ++ [.ref q15, .ref q16, .ref q18, .ref q19]) hC2
    generalize (upd GC1 C2 (.lst ([.ref q1, .ref q2, .ref q3, .ref q4, .ref q5, .ref q6, .non] ++ [.ref q8, .ref q9, .ref q10, .ref q11, .ref q12, .str "flag", .int 3, .ref q13] ++ [.ref q15, .ref q16, .ref q18, .ref q19]))) = GC2 at AC2 ⊢
    have g6 := AC2.l (C2, [.ref q1, .ref q2, .ref q3, .ref q4, .ref q5, .ref q6, .non] ++ [.ref q8, .ref q9, .ref q10, .ref q11, .ref q12, .str "flag", .int 3, .ref q13] ++ [.ref q15, .ref q16, .ref q18, .ref q19]) (by simp)
    walk_at "w"
    refine ⟨b, C2, [.ref q1, .ref q2, .ref q3, .ref q4, .ref q5, .ref q6, .non] ++ [.ref q8, .ref q9, .ref q10, .ref q11, .ref q12, .str "flag", .int 3, .ref q13] ++ [.ref q15, .ref q16, .ref q18, .ref q19], _, rfl, AC2.hB, by omega, SqL.of (by rw [del_ne g6.1]; exact g6.2), by simp, by simp, fun v GE hv hBE eE => ?_⟩
    have AE := AC2.step hBE eE
    have flat : ∀ {v : V} {d : PyData}, Dp K (del b GE) v d → (∀ ds, d ≠ .tuple ds) → Q v GE := fun h n => k _ _ _ (ColD.flat h n) (AE.hB.mono (by omega)) (ex_dtrans e05 AE.e)
    simp only [List.mem_append, List.mem_cons, List.not_mem_nil, or_false] at hv
    rcases hv with ((rfl | rfl | rfl | rfl | rfl | rfl | rfl) | (rfl | rfl | rfl | rfl | rfl | rfl | rfl | rfl)) | (rfl | rfl | rfl | rfl)
    · exact fin _ AE (by omega) (by simp)
    · exact fin _ AE (by omega) (by simp)
    · exact fin _ AE (by omega) (by simp)
    · exact fin _ AE (by omega) (by simp)
    · exact fin _ AE (by omega) (by simp)
    · exact fin _ AE (by omega) (by simp)
    · exact flat .non (fun _ z => nomatch z)
    · exact fin _ AE (by omega) (by simp)
    · exact fin _ AE (by omega) (by simp)
    · exact fin _ AE (by omega) (by simp)
    · exact fin _ AE (by omega) (by simp)
    · exact fin _ AE (by omega) (by simp)
    · exact flat (.str _) (fun _ z => nomatch z)
    · exact flat (.int _) (fun _ z => nomatch z)
    · exact fin _ AE (by omega) (by simp)
    · exact fin _ AE (by omega) (by simp)
    · exact fin _ AE (by omega) (by simp)
    · exact fin _ AE (by omega) (by simp)
    · exact fin _ AE (by omega) (by simp)
end
end LP
namespace LP
open PySem L2
open Evl (Ex)
section
variable {K : PySem.W.Frag} {a : Addr} {g : TG} {tt : TT} {te : TE} {vs : List Nat} {σ : L2.St} {H1 : Hp} {D : Addr} {Qd : Hp → Prop}
/-- a comprehension over the signs of a text, whatever its turns make -/
theorem compSG {z : Str} (Pv : Nat → List V → Hp → Prop) (hlen : z.length ≤ 90000) (h0 : Pv 0 [] (upd H1 D (.lst [])))
    (hs : ∀ i c got H, z.cps.toList[i]? = some c → H D = some (.lst got) → got.length = i → Pv i got H → ∀ (k : V → Hp → Prop) (kn : Hp → Prop), (∀ y' H4, H4 D = some (.lst got) → Pv (i + 1) (got ++ [y']) (upd H4 D (.lst (got ++ [y']))) → k y' H4) →
      g (.str ⟨#[c]⟩) (wipe σ vs) H fun σ2 H2 => wipe σ2 vs = wipe σ vs ∧ tt σ2 H2 fun b H3 => if b = true then te σ2 H3 k else kn H3)
    (hd : ∀ got H, H D = some (.lst got) → got.length = z.cps.size → Pv z.cps.size got H → Qd H) :
    ∃ W : Nat →
            Nat → Hp → Prop, (∃ m, W 0 m (upd H1 D (.lst []))) ∧ ∀ i m H, W i m H →
      ((Its z).stop i H ∧ Qd H) ∨ ((Its z).go i H ∧ ∃ Go : Hp → Prop, (∀ H', Go H' → ∃ m', m' < m ∧ W (i + 1) m' H') ∧ ∀ x H', (Its z).yld i H x H' → g x (wipe σ vs) H' fun σ2 H2 => wipe σ2 vs = wipe σ vs ∧ tt σ2 H2 fun b H3 =>
        if b = true then te σ2 H3 fun y H4 => ∃ got, H4 D = some (.lst got) ∧ got.length < sizeLine ∧ Go (upd H4 D (.lst (got ++ [y]))) else Go H3) := by
  have hl0 : z.cps.size ≤ 90000 := hlen
  refine ⟨fun i m H => m = z.cps.size - i ∧ i ≤ z.cps.size ∧ ∃ got, H D = some (.lst got) ∧ got.length = i ∧ Pv i got H, ⟨z.cps.size, by simp, Nat.zero_le _, [], upd_same, rfl, h0⟩, ?_⟩
  rintro i m H ⟨rfl, hi, got, ha, hg, p⟩
  by_cases hlt : i < z.cps.size
  · refine .inr ⟨hlt, fun H => ∃ got, H D = some (.lst got) ∧ got.length = i + 1 ∧ Pv (i + 1) got H, fun H' p' => ⟨z.cps.size - (i + 1), by omega, rfl, hlt, p'⟩, fun x H' y => ?_⟩
    obtain ⟨e', c, hc, rfl⟩ := y
    subst e'
    have hx : z.cps.toList[i]? = some c := by rw [Array.getElem?_toList]; exact hc
    refine hs i c got H' hx ha hg p _ _ fun y' H4 h4 p4 => ?_
    exact ⟨got, h4, Nat.lt_of_le_of_lt (m := 90000) (by omega) (by decide), got ++ [y'], upd_same, by rw [List.length_append, hg]; rfl, p4⟩
  · refine .inl ⟨by show z.cps.size ≤ i; omega, ?_⟩
    have e : i = z.cps.size := by omega
    rw [e] at p hg
    exact hd got H ha hg p
end
end LP
namespace LP
open PySem L2
open Evl (Ex)
/-- what the law's own names of classes hold -/
structure LawB (K : PySem.W.Frag) (mg : Str → Option Value) (CB BL BS LE : Addr) : Prop where
  mgB : mg "BadSchema" = some (.ref CB)
  BadLine_ : ∃ u, mg "BadLine" = some u ∧ RelV (.ref BL) u
  BadStore_ : ∃ u, mg "BadStore" = some u ∧ RelV (.ref BS) u
  ListandpageError_ : ∃ u, mg "ListandpageError" = some u ∧ RelV (.ref LE) u
  ex : ExcK K CB
  xf : XfC K CB
  n1 : PySem.W.findIn K (.ref CB) "table" = some none
  n2 : PySem.W.findIn K (.ref CB) "column" = some none
  k1 : PySem.W.kitAny K (.ref CB) [.ref BL, .ref BS] = some false
  k2 : PySem.W.kitOne K (.ref CB) (.ref LE) = some true
  m1 : PySem.W.exmOne K (.ref CB) (.ref CB) = some true
def spComesG (K : PySem.W.Frag) : Sp := fun vs H Q _ => ∃ (uv : V) (ud : PyData) (q : Addr) (xs : List V) (tabs : List (PyData × List PyData)), vs = [uv, .ref q] ∧ SqL K H q xs ∧ Paired (TabD K H) xs tabs ∧ tabs.length ≤ 1000 ∧ (∀ x ∈ tabs, x.2.length ≤ 1000) ∧ Dp K H uv ud ∧
  ∀ (v : V) (H' : Hp), Ex H H' → DueI H' v (initF ud tabs) → Q v H'
theorem look2' {u v : V} : ([("column", u), ("table", v)] : List (Str × V)).lookup ("table" : Str) = some v := by
  rw [List.lookup_cons, show (("table" : Str) == ("column" : Str)) = false by decide +kernel, List.lookup_cons, show (("table" : Str) == ("table" : Str)) = true from beq_self_eq_true _]
theorem dp_exO' {K : PySem.W.Frag} {H H' : Hp} (e : Ex H H') {v : V} {x : PyData × List PyData} (h : TabD K H v x) : TabD K H' v x := by
  obtain ⟨a, cq, cvs, nv, ev, ha, hd, hs, hq, hc⟩ := h
  exact ⟨a, cq, cvs, nv, ev, Evl.ex_t e ha, dp_ext e hd, hs, Evl.ex_l e hq, paired_imp (fun _ _ h => h.ext e) hc⟩
section
variable {base : Heap} {mg : Str → Option Value} {K : PySem.W.Frag} {w : World} {P : Program} {C CB BL BS LE : Addr}
theorem ok_comesG {f : Addr} {fd : FuncData} (D : C8.Def K mg "_law_what_comes" s__law_what_comes f fd) (b : Binds K fd ["user", "tables"] []) (B : Blt mg) (T : LawB K mg CB BL BS LE) (m_Schema : MakX P w K mg base 7 "Schema" C (spInitG K C CB)) : C8.Cal P w K mg base 9 "_law_what_comes" (spComesG K) [] := by
  have sc : FnScope ["user", "tables", "e", "wrong"] ["user", "tables"] (C8.fnScope s__law_what_comes) := C8.fnScope_by (by decide +kernel)
  refine C8.cal0 D b .nil sc (fun vs H Q E h => ?_) (fun cdv A outer s H vs Q E hr h => ?_)
  · obtain ⟨_, _, _, _, _, rfl, _⟩ := h
    rfl
  · obtain ⟨uv, ud, q, xs, tabs, rfl, hq, hx, l1, lc, hud, k⟩ := h
    refine ⟨_, pss_cons (ps_tryMk (i := 2) (n := 4) (c := .ref CB) (ts := fun a cls d => _) m_Schema hr (by decide) rfl rfl rfl rfl sc.nd rfl rfl ⟨rfl, by decide +kernel, .inl T.mgB⟩
      (fun pn xe => (pa_cons (pv 0) (pa_cons (pv 1) pa_nil)))
      (fun a oe cls d pn hz hf => pss_cons (ps_set (i := 3) sc.nd rfl (Or.inl rfl) (pe_or (pe_callB (call_isXT T.ex hz hf) (by rfl) B.isinstance_ (by decide +kernel) (pa_cons (pv 2) (pa_cons (pe_tup (pa_cons (C8.pe_gc rfl T.BadLine_) (pa_cons (C8.pe_gc rfl T.BadStore_) pa_nil))) pa_nil)))
          (pe_one (pe_not (pe_callB (call_isX T.ex hz hf) (by rfl) B.isinstance_ (by decide +kernel) (pa_cons (pv 2) (pa_cons (C8.pe_gc rfl T.ListandpageError_) pa_nil)))))))
        (pss_one (ps_ret (pe_ifExp (PW.pt (pw_or (pt_val (pv 3)) (pw_or (pt_val (pe_callB (call_isiK1 (K := K) rfl) (by rfl) B.isinstance_ (by decide +kernel) (pa_cons (pe_xf T.xf T.n1 hz hf (pv 2)) (pa_cons (pe_bltn (v := .ty "bool") (u := .type "bool") (by rfl) B.bool_ (by decide +kernel) rfl) pa_nil))))
            (pw_or1 (pt_val (pe_callB (call_isiK1 (K := K) rfl) (by rfl) B.isinstance_ (by decide +kernel) (pa_cons (pe_xf T.xf T.n2 hz hf (pv 2)) (pa_cons (pe_bltn (v := .ty "bool") (u := .type "bool") (by rfl) B.bool_ (by decide +kernel) rfl) pa_nil))))))))
          pe_str (pe_tup (pa_cons (pe_xf T.xf T.n1 hz hf (pv 2)) (pa_cons (pe_xf T.xf T.n2 hz hf (pv 2)) pa_nil))))))))
      (pss_one (ps_ret pe_non)), ?_⟩
    walk_at "w"
    refine w_tryMk (fun cls d H' => cls = .ref CB ∧ ∃ dd k0 i0, d = some dd ∧ initF ud tabs = some (k0, i0) ∧ Ex H H' ∧ H' dd = some (.xd [("column", .int i0), ("table", .int k0)])) (fun cls d σ' H' hl he => ?_) ?_
    · obtain ⟨rfl, dd, kk, i, rfl, hd, e, hdd⟩ := he
      obtain ⟨x0, x1, x2, x3, rfl⟩ : ∃ x0 x1 x2 x3, σ' = [x0, x1, x2, x3] := by
        match σ', hl with
        | [x0, x1, x2, x3], _ => exact ⟨x0, x1, x2, x3, rfl⟩
      refine ⟨true, T.m1, fun _ a ha => ?_, fun z => by cases z⟩
      walk_at "w"
      intro p hp
      have e1 : Ex H' (upd H' p (.tup [.ref BL, .ref BS])) := Ex.new hp
      have hp1 : (upd H' p (.tup [.ref BL, .ref BS])) p = some (.tup [.ref BL, .ref BS]) := upd_same
      generalize (upd H' p (.tup [.ref BL, .ref BS])) = H1 at e1 hp1 ⊢
      have hd1 := e1 _ _ hdd
      walk_at "w"
      refine ⟨p, _, [.ref BL, .ref BS], false, rfl, ⟨rfl, dd, _, rfl, hd1⟩, hp1, .cons (.own _) (.cons (.own _) .nil), T.k1, ?_⟩
      walk_at "w"
      refine ⟨.ref LE, _, true, rfl, ⟨rfl, dd, _, rfl, hd1⟩, .own _, T.k2, ?_⟩
      walk_at "w"
      refine ⟨.ref a, rfl, rfl, rfl, dd, _, .int kk, rfl, hd1, look2', ?_⟩
      walk_at "w"
      refine w_isBoQ (.int kk) ?_
      unfold isBoQ
      walk_at "w"
      refine ⟨.ref a, rfl, rfl, rfl, dd, _, .int i, rfl, hd1, rfl, ?_⟩
      walk_at "w"
      refine w_isBoQ (.int i) ?_
      unfold isBoQ
      walk_at "w"
      refine ⟨.ref a, rfl, rfl, rfl, dd, _, .int kk, rfl, hd1, look2', ?_⟩
      walk_at "w"
      refine ⟨.ref a, rfl, rfl, rfl, dd, _, .int i, rfl, hd1, rfl, ?_⟩
      walk_at "w"
      intro TT hT'
      refine k _ _ (e.trans (e1.trans (Ex.new hT'))) ?_
      rw [hd]
      exact ⟨TT, rfl, upd_same⟩
    · walk_at "w"
      intro x dx hx' hdx hnex
      have eNx : Ex H (upd (upd H dx (.own x)) x (.ins C dx [])) := (Ex.new hdx).trans (Ex.new (by rw [upd_ne (Ne.symm hnex)]; exact hx'))
      have back : ∀ {H6 : Hp}, ExO [x] (upd (upd H dx (.own x)) x (.ins C dx [])) H6 → Ex H H6 := fun hO c o h => hO c o (eNx c o h) fun z => by rw [List.mem_singleton.mp z, hx'] at h; cases h
      refine ⟨x, q, dx, uv, ud, xs, tabs, rfl, upd_same, Evl.ex_l eNx hq, paired_imp (fun _ _ h => dp_exO' eNx h) hx, l1, lc, dp_ext eNx hud, fun u ts _ _ _ hi H6 hO _ => ⟨rfl, ?_⟩, fun kk i hi dd H6 hO h6 => ⟨rfl, dd, kk, i, rfl, hi, back hO, h6⟩⟩
      walk_at "w"
      refine k _ _ (back hO) ?_
      rw [hi]
      rfl
end
end LP
namespace LP
open PySem L2
/-! ### right tables are taken -/
theorem colOf_data (c : Col) : colOf c.data = some c := by
  cases c with
  | plain f n =>
    cases f
    · show (if ("number" : Str) = "flag" then some (Col.plain true n) else if ("number" : Str) = "number" then some (.plain false n) else none) = _
      rw [if_neg (by decide +kernel), if_pos rfl]
    · show (if ("flag" : Str) = "flag" then some (Col.plain true n) else if ("flag" : Str) = "number" then some (.plain false n) else none) = _
      rw [if_pos rfl]
  | word n o =>
    show (if ("word" : Str) = "word" then some (Col.word n o) else none) = _
    rw [if_pos rfl]
  | link n t o l =>
    cases l with
    | none =>
      show (if ("link" : Str) = "link" then some (Col.link n t o none) else none) = _
      rw [if_pos rfl]
    | some x =>
      show (if ("link" : Str) = "link" then some (Col.link n t o (some x)) else none) = _
      rw [if_pos rfl]
theorem colB_of {ns : List Str} {m : List (Str × Lists)} {ts : Tabs} {c : Col} (h : ColIn c ns m ts) : colB ns m ts c.data = true := by
  have hn : strD nameB (.str c.name) = true := (nameB_iff _).mpr h.nm
  have hw : strD (fun x => decide (x ∈ ns)) (.str c.name) = false := decide_eq_false h.nw
  cases c with
  | plain f n =>
    cases f
    · have hn : strD nameB (.str n) = true := hn
      have hw : strD (fun x => decide (x ∈ ns)) (.str n) = false := hw
      show (decide (lenD "number" = 0 + 2) && (strD nameB (.str n) && (!strD (fun x => decide (x ∈ ns)) (.str n) && restB m ts "number" []))) = true
      rw [hn, hw, show decide (lenD "number" = 0 + 2) = true by decide +kernel]
      unfold restB
      rw [if_neg (by decide +kernel), show decide (("number" : Str) = "word") = false by decide +kernel]
      rfl
    · have hn : strD nameB (.str n) = true := hn
      have hw : strD (fun x => decide (x ∈ ns)) (.str n) = false := hw
      show (decide (lenD "flag" = 0 + 2) && (strD nameB (.str n) && (!strD (fun x => decide (x ∈ ns)) (.str n) && restB m ts "flag" []))) = true
      rw [hn, hw, show decide (lenD "flag" = 0 + 2) = true by decide +kernel]
      unfold restB
      rw [if_neg (by decide +kernel), show decide (("flag" : Str) = "word") = false by decide +kernel]
      rfl
  | word n o =>
    have hn : strD nameB (.str n) = true := hn
    have hw : strD (fun x => decide (x ∈ ns)) (.str n) = false := hw
    show (decide (lenD "word" = 1 + 2) && (strD nameB (.str n) && (!strD (fun x => decide (x ∈ ns)) (.str n) && restB m ts "word" [.bool o]))) = true
    rw [hn, hw, show decide (lenD "word" = 1 + 2) = true by decide +kernel]
    unfold restB
    rw [if_neg
            (by decide +kernel)]
    cases decide (("word" : Str) = "word") <;> rfl
  | link n t o l =>
    have hn : strD nameB (.str n) = true := hn
    have hw : strD (fun x => decide (x ∈ ns)) (.str n) = false := hw
    obtain ⟨cs, ls, g1, g2, _, _, g5⟩ := h.lk rfl
    have g1 : ts.lookup t = some cs := g1
    have g2 : m.lookup t = some ls := g2
    have g5 : isListB cs ls l = true := g5
    have mem : t ∈ ts.map (·.1) := List.mem_map.mpr ⟨_, PySem.mem_of_lookup g1, rfl⟩
    show (decide (lenD "link" = 3 + 2) && (strD nameB (.str n) && (!strD (fun x => decide (x ∈ ns)) (.str n) && restB m ts "link" [.str t, .bool o, dOpt l]))) = true
    rw [hn, hw, show decide (lenD "link" = 3 + 2) = true by decide +kernel]
    unfold restB
    rw [if_pos rfl]
    have e3 : tgtD m ts (dOpt l) (.str t) = true := by
      show (match ts.lookup t, m.lookup t with | some cs, some ls => isListD cs ls (dOpt l) | _, _ => false) = true
      rw [show ts.lookup t = some cs from g1, show m.lookup t = some ls from g2]
      clear g1 g2 h hn hw
      cases l with
      | none => rfl
      | some x => exact g5
    show (true && (true && (!false && (strD (fun x => decide (x ∈ ts.map (·.1))) (.str t) && (isBoQ (.bool o) && tgtD m ts (dOpt l) (.str t)))))) = true
    rw [show strD (fun x => decide (x ∈ ts.map (·.1))) (.str t) = true from decide_eq_true mem, e3]
    rfl
theorem takeF_of {t : Str} {m : List (Str × Lists)} {ts : Tabs} : ∀ {r d : List Col}, ColsIn t (d ++ r) m ts → takeF t m ts d (r.map Col.data) = .inr (d ++ r)
  | [], d, _ => by rw [List.append_nil]; rfl
  | c :: r, d, h => by
    rw [List.map_cons, takeF_cons (colB_of (h d c r rfl)) (colOf_data c), takeF_of (r := r) (d := d ++ [c]) (by rw [List.append_assoc]; exact h), List.append_assoc]
    rfl
theorem tabsF_of : ∀ {tr td : Tabs}, GoodTabs (td ++ tr) → tabsF td (tr.map fun t => (PyData.str t.1, t.2.map Col.data)) = .inr (td ++ tr)
  | [], td, _ => by rw [List.append_nil]; rfl
  | t :: tr, td, g => by
    have q : ∀ {ts : Tabs}, GoodTabs ts → ∀ (td : Tabs) (t : Str × List Col) (tr : Tabs), ts = td ++ t :: tr → GoodTabs td ∧ IsName t.1 ∧ t.1 ∉ td.map (·.1) ∧ GoodCols td t.2 := by
      intro ts g
      induction g with
      | nil => intro td t tr e; cases td <;> cases e
      | @snoc ts n cs g hn hx hc ih =>
        intro td t tr e
        rcases List.eq_nil_or_concat tr with rfl | ⟨tr', z, rfl⟩
        · have e2 : ts ++ [(n, cs)] = td ++ [t] := e
          obtain ⟨rfl, e3⟩ := List.append_inj' e2 rfl
          cases e3
          exact ⟨g, hn, hx, hc⟩
        · have e2 : ts ++ [(n, cs)] = (td ++ t :: tr') ++ [z] := by rw [e]; simp
          obtain ⟨e3, e4⟩ := List.append_inj' e2 rfl
          exact ih td t tr' e3
    obtain ⟨g0, g1, g2, g3⟩ := q g td t tr rfl
    have ht : takeF t.1 (mirOf td) td [] (t.2.map Col.data) = .inr t.2 := takeF_of (d := []) (good_colsIn g0 g3)
    have hb : brk td t.2 = none := brk_some g3.r6
    have hn : nmOk td (.str t.1) = true := by
      unfold nmOk
      rw [show strD nameB (.str t.1) = true from (nameB_iff _).mpr g1, show strD (fun x => decide (x ∈ td.map (·.1))) (.str t.1) = false from decide_eq_false g2]
      rfl
    rw [List.map_cons, tabsF, if_pos (by rw [hn, decide_eq_true (by rw [List.length_map]; exact g3.few)]; rfl)]
    show (match takeF t.1 (mirOf td) td [] (t.2.map Col.data) with | .inl j => _ | .inr cs => _) = _
    rw [ht]
    show (match brk td t.2 with | some j => _ | none => tabsF (td ++ [(t.1, t.2)]) (tr.map fun t : Str × List Col => (PyData.str t.1, t.2.map Col.data))) = _
    rw [hb]
    show tabsF (td ++ [t]) _ = _
    rw [tabsF_of (tr := tr) (td := td ++ [t]) (by rw [List.append_assoc]; exact g), List.append_assoc]
    rfl
theorem initF_of {ts : Tabs} {u : Str} (g : GoodTabs ts) (h1 : 1 ≤ ts.length) (h6 : ts.length ≤ 6) (hu : u ∈ ts.map (·.1)) : initF (.str u) (ts.map fun t => (PyData.str t.1, t.2.map Col.data)) = none := by
  unfold initF
  rw [List.length_map, if_pos ⟨h1, h6⟩, tabsF_of (td := []) g]
  show (if strD (fun n => decide (n ∈ ts.map (·.1))) (.str u) = true then none else some _) = _
  rw [if_pos (show strD (fun n => decide (n ∈ ts.map (·.1))) (.str u) = true from decide_eq_true hu)]
end LP
namespace LP
open PySem L2
open Evl (Ex)
local macro_rules | `(tactic| walk_at "sz1") => `(tactic| first | assumption | (intro x e; cases e; assumption) | (intro x e; cases e; decide) | (intro x e; cases e))
local macro_rules | `(tactic| walk_at "sz4") => `(tactic| ((repeat (refine Sz4.cons (by walk_at "sz1") ?_)); exact Sz4.nil))
def spSpoilt (K : PySem.W.Frag) : Sp := fun vs H Q _ => ∃ (b q : Addr) (n m : Nat) (xs : List V) (tabs : List (PyData × List PyData)), vs = [.ref b, .ref q] ∧ BagAt H b n ∧ n < 60000000 ∧ del b H q = some (.lst xs) ∧ Paired (TabE K (del b H)) xs tabs ∧ tabs.length ≤ m ∧ (∀ x ∈ tabs, x.2.length ≤ m) ∧ m ≤ 100 ∧
  ∀ (q' : Addr) (H' : Hp) (xs' : List V) (tabs' : List (PyData × List PyData)), del b H' q' = some (.lst xs') → Paired (TabE K (del b H')) xs' tabs' → tabs'.length ≤ m + 8 → (∀ x ∈ tabs', x.2.length ≤ m + 8) → BagAt H' b (n + 200) → Ex (del b H) H' → Q (.ref q') H'
theorem paired_rev {α β : Type} {R : α → β → Prop} {l : List α} {m : List β} (h : Paired R l m) : Paired R l.reverse m.reverse := by
  induction h with
  | nil => exact .nil
  | cons h _ ih =>
    rw [List.reverse_cons,
            List.reverse_cons]
    exact paired_app ih (.cons h .nil)
theorem one_sz {ch : Nat} {x : Str} (h : x.length = 1) : (⟨#[ch]⟩ : Str).length + x.length ≤ sizeLine := Nat.le_trans (m := 100) (by rw [h]; show 1 + 1 ≤ 100; omega) (by decide)
theorem one_le {ch : Nat} {x : Str} (h : x.length = 1) : ((⟨#[ch]⟩ : Str) ++ x).length ≤ 4000 := by rw [len_cat, h]; show 1 + 1 ≤ 4000; omega
def TagV (H : Hp) (v : V) : Prop := ∃ (a : Addr) (s : Str), v = .ref a ∧ H a = some (.tup [.str "flag", .str s]) ∧ s.length ≤ 4000
theorem tagV_colD {K : PySem.W.Frag} {H : Hp} {b : Addr} {n : Nat} (hB : BagAt H b n) : ∀ {got : List V}, (∀ v ∈ got, TagV H v) → ∃ ds, Paired (ColD K (del b H)) got ds ∧ ds.length = got.length
  | [], _ => ⟨[], .nil, rfl⟩
  | v :: r, h => by
    obtain ⟨ds, p, l⟩ := tagV_colD (K := K) hB (got := r) fun x hx => h x (List.mem_cons_of_mem _ hx)
    obtain ⟨a, s, rfl, ha, hs⟩ := h v List.mem_cons_self
    exact ⟨_, .cons (ColD.tup (by rw [del_ne (hB.tup_ne ha)]; exact ha) (.cons (.str _) (.cons (.str _) .nil)) (by walk_at "sz4")) p, by rw [List.length_cons, List.length_cons, l]⟩
def TagT (D : Addr) (H : Hp) (v : V) : Prop := ∃ (a l : Addr) (s : Str), v = .ref a ∧ H a = some (.tup [.str s, .ref l]) ∧ H l = some (.lst []) ∧ l ≠ D ∧ s.length ≤ 4000
theorem tagT_tabE {K : PySem.W.Frag} {D : Addr} {H : Hp} {b : Addr} {n : Nat} (hB : BagAt H b n) : ∀ {got : List V}, (∀ v ∈ got, TagT D H v) → ∃ ts : List (PyData × List PyData), Paired (TabE K (del b H)) got ts ∧ ts.length = got.length ∧ ∀ x ∈ ts, x.2 = []
  | [], _ => ⟨[], .nil, rfl, fun _ h => absurd h List.not_mem_nil⟩
  | v :: r, h => by
    obtain ⟨ds, p, l, z⟩ := tagT_tabE (K := K) hB (got := r) fun x hx => h x (List.mem_cons_of_mem _ hx)
    obtain ⟨a, la, s, rfl, ha, hl, _, hs⟩ := h v List.mem_cons_self
    refine ⟨(.str s, []) :: ds, .cons ⟨a, la, [], .str s, rfl, by rw [del_ne (hB.tup_ne ha)]; exact ha, .str _, fun y e => by cases e; exact hs, by rw [del_ne (hB.ne hl fun i j k e => by cases e)]; exact hl, .nil⟩ p, by rw [List.length_cons, List.length_cons, l], fun x hx => ?_⟩
    rcases List.mem_cons.1 hx with rfl | hx
    · rfl
    · exact z x hx
def nmS (x : PyData × List PyData) : Option Str := match x.1 with
  | .str y => some y
  | _ => none
def c1S : PyData → Option Str
  | .tuple (_ :: .str y :: _) => some y
  | _ => none
theorem paired_all {α β : Type} {R : α → β → Prop} {l : List α} {m : List β} (h : Paired R l m) : ∀ y ∈ m, ∃ x, R x y := by
  induction h with
  | nil => exact fun _ h => absurd h List.not_mem_nil
  | cons h _ ih =>
    intro y hy
    rcases List.mem_cons.1 hy with rfl | hy
    · exact ⟨_, h⟩
    · exact ih y hy
theorem w_slQ {K : PySem.W.Frag} {H : Hp} {p : Addr} {xs : List V} {lo hi : Option Int} {Q : VK} (h : SqL K H p xs) (q : ∀ l, H l = none → Q (.ref l) (upd H l (.lst (cutV xs lo hi)))) : rSlL K (.ref p) lo hi H Q := ⟨p, xs, rfl, h, q⟩
theorem cut_dropN (xs : List V) (n : Nat) : cutV xs (some (n : Int)) none = xs.drop n := by
  unfold cutV
  rw [HT.sIx_none, HT.sIx_nat]
  by_cases h : n ≤ xs.length
  · rw [Nat.min_eq_left h]
    exact List.take_of_length_le (by rw [List.length_drop]; exact Nat.le_refl _)
  · rw [Nat.min_eq_right (by omega), List.drop_eq_nil_of_le (Nat.le_refl _), List.drop_eq_nil_of_le (by omega)]
    simp
theorem cut_takeN (xs : List V) (n : Nat) : cutV xs none (some (n : Int)) = xs.take n := by
  unfold cutV
  rw [HT.sIx_none, HT.sIx_nat, List.drop_zero, Nat.sub_zero]
  by_cases h : n ≤ xs.length
  · rw [Nat.min_eq_left h]
  · rw [Nat.min_eq_right
          (by omega), List.take_of_length_le (Nat.le_refl _), List.take_of_length_le (by omega)]
section
variable {base : Heap} {mg : Str → Option Value} {K : PySem.W.Frag} {w : World} {P : Program}
theorem ok_spoilt {f : Addr} {fd : FuncData} (D : C8.Def K mg "_law_spoilt" s__law_spoilt f fd) (b : Binds K fd ["bag", "tables"] []) (B : Blt mg) (c__law_take : C8.Cal P w K mg base 1 "_law_take" spTake []) (c__law_of : C8.Cal P w K mg base 2 "_law_of" (spOf K) [])
    (c__law_odd_name : C8.Cal P w K mg base 3 "_law_odd_name" (spOdd K) []) (c__law_find_column : C8.Cal P w K mg base 4 "_law_find_column" (spFindCol K) []) : C8.Cal P w K mg base 5 "_law_spoilt" (spSpoilt K) [] := by
  have sc : FnScope ["bag", "tables", "at", "pool", "one", "name", "columns", "place", "road", "new", "more", "letter"] ["bag", "tables"] (C8.fnScope s__law_spoilt) := C8.fnScope_by (by decide +kernel)
  refine C8.cal0 D b .nil sc (fun vs H Q E h => ?_) (fun cdv A outer s H vs Q E hr h => ?_)
  · obtain ⟨_, _, _, _, _, _, rfl, _⟩ := h
    rfl
  · obtain ⟨b, q, n, m, xs, tabs, rfl, hB, hn, hq, hx, l1, lc, hm, k⟩ := h
    have lx := paired_len hx
    have hq0 := ex_del _ _ hq
    refine ⟨_, (pss_cons (ps_if (pt_cmpR (op_eqEK (K := K) rfl (hu_lt hr)) (pv 1) (pe_lst pa_nil) (nomark _))
        (pss_one (ps_ret (pe_lst (pa_cons (pe_tup (pa_cons (C8.pe_c c__law_odd_name hr (by decide) rfl (pa_cons (pv 0) pa_nil)) (pa_cons (pe_lst pa_nil) pa_nil))) pa_nil))))
        pss_nil)
        (pss_cons (ps_par (i := 2) (j := 3) (by rfl) sc.nd rfl rfl (by decide) rfl rfl (pa_cons (C8.pe_c c__law_take hr (by decide) rfl (pa_cons (pv 0) (pa_cons (pe_callB (call_len_seqK (K := K) rfl) (by rfl) B.len_ (by decide +kernel) (pa_cons (pv 1) pa_nil)) pa_nil))) (pa_cons (pe_op op_cat (pe_lc (own := [("one", 4)]) (g := (gName 4)) (by rfl) sc.nd (pi_listK (K := K) rfl (pv 1)) (blkOk_by (own := [("one", 4)]) (N := ["bag", "tables", "at", "pool", "one", "name", "columns", "place", "road", "new", "more", "letter"]) (sc := C8.fnScope s__law_spoilt) (by decide +kernel)) (fun _ _ _ _ _ => (pg_name (i := 4) sc.nd rfl (Or.inl rfl))) (fun _ _ _ _ _ => pts_one (pt_val (pe_callB (call_isiK1 (K := K) rfl) (by rfl) B.isinstance_ (by decide +kernel) (pa_cons (pe_ix (ix_tupK (K := K) rfl) (pv 4) pe_int (fun _ _ => rfl)) (pa_cons (pe_bltn (v := .ty "str") (u := .type "str") (by rfl) B.str_ (by decide +kernel) rfl) pa_nil))))) (fun _ _ _ _ _ => (pe_ix (ix_tupK (K := K) rfl) (pv 4) pe_int (fun _ _ => rfl)))) (pe_lst (pa_cons pe_str (pa_cons pe_str pa_nil)))) pa_nil)) (by rfl))
        (pss_cons (ps_asg (pe_ix (ix_listK (K := K) rfl) (pv 1) (pv 2) (fun _ _ => rfl)) (pg_tupK (K := K) (n := 2) rfl rfl (pgs_cons (pg_name (i := 5) sc.nd rfl (Or.inl rfl)) (pgs_cons (pg_name (i := 6) sc.nd rfl (Or.inl rfl)) pgs_nil))))
        (pss_cons (ps_set (i := 3) sc.nd rfl (Or.inl rfl) (pe_op op_cat (pv 3) (pe_lc (own := [("one", 4)]) (g := (gName 4)) (by rfl) sc.nd (pi_listK (K := K) rfl (pv 6)) (blkOk_by (own := [("one", 4)]) (N := ["bag", "tables", "at", "pool", "one", "name", "columns", "place", "road", "new", "more", "letter"]) (sc := C8.fnScope s__law_spoilt) (by decide +kernel)) (fun _ _ _ _ _ => (pg_name (i := 4) sc.nd rfl (Or.inl rfl))) (fun _ _ _ _ _ => pts_one (PW.pt (pw_and (pt_val (pe_callB (call_isiK1 (K := K) rfl) (by rfl) B.isinstance_ (by decide +kernel) (pa_cons (pv 4) (pa_cons (pe_bltn (v := .ty "tuple") (u := .type "tuple") (by rfl) B.tuple_ (by decide +kernel) rfl) pa_nil)))) (pw_and (pt_cmpR op_gt (pe_callB (call_len_seqK (K := K) rfl) (by rfl) B.len_ (by decide +kernel) (pa_cons (pv 4) pa_nil)) pe_int (nomark _)) (pw_and1 (pt_val (pe_callB (call_isiK1 (K := K) rfl) (by rfl) B.isinstance_ (by decide +kernel) (pa_cons (pe_ix (ix_tupK (K := K) rfl) (pv 4) pe_int (fun _ _ => rfl)) (pa_cons (pe_bltn (v := .ty "str") (u := .type "str") (by rfl) B.str_ (by decide +kernel) rfl) pa_nil))))))))) (fun _ _ _ _ _ => (pe_ix (ix_tupK (K := K) rfl) (pv 4) pe_int (fun _ _ => rfl))))))
        (pss_cons (ps_par (i := 7) (j := 8) (by rfl) sc.nd rfl rfl (by decide) rfl rfl (pa_cons (C8.pe_c c__law_take hr (by decide) rfl (pa_cons (pv 0) (pa_cons (pe_op op_add (pe_callB (call_len_seqK (K := K) rfl) (by rfl) B.len_ (by decide +kernel) (pa_cons (pv 6) pa_nil)) pe_int) pa_nil))) (pa_cons (C8.pe_c c__law_take hr (by decide) rfl (pa_cons (pv 0) (pa_cons pe_int pa_nil))) pa_nil)) (by rfl))
        (pss_cons (ps_set (i := 9) sc.nd rfl (Or.inl rfl) (C8.pe_c c__law_find_column hr (by decide) rfl (pa_cons (pv 0) (pa_cons (pv 3) pa_nil))))
        (pss_cons (ps_if (pt_cmpR op_lt (pv 8) pe_int (nomark _))
        (pss_one (ps_ret (pe_op op_cat (pe_op op_cat (pe_slice (sl_listK (K := K) rfl) (pv 1) po_none (po_some (pv 2))) (pe_lst (pa_cons (pe_tup (pa_cons (pv 5) (pa_cons (pe_op op_cat (pe_op op_cat (pe_slice (sl_listK (K := K) rfl) (pv 6) po_none (po_some (pv 7))) (pe_lst (pa_cons (pv 9) pa_nil))) (pe_slice (sl_listK (K := K) rfl) (pv 6) (po_some (pe_op op_add (pv 7) pe_int)) po_none)) pa_nil))) pa_nil))) (pe_slice (sl_listK (K := K) rfl) (pv 1) (po_some (pe_op op_add (pv 2) pe_int)) po_none))))
        pss_nil)
        (pss_cons (ps_if (pt_cmpR op_lt (pv 8) pe_int (nomark _))
        (pss_one (ps_ret (pe_op op_cat (pe_op op_cat (pe_slice (sl_listK (K := K) rfl) (pv 1) po_none (po_some (pv 2))) (pe_lst (pa_cons (pe_tup (pa_cons (pv 5) (pa_cons (pe_op op_cat (pe_op op_cat (pe_slice (sl_listK (K := K) rfl) (pv 6) po_none (po_some (pv 7))) (pe_lst (pa_cons (pv 9) pa_nil))) (pe_slice (sl_listK (K := K) rfl) (pv 6) (po_some (pv 7)) po_none)) pa_nil))) pa_nil))) (pe_slice (sl_listK (K := K) rfl) (pv 1) (po_some (pe_op op_add (pv 2) pe_int)) po_none))))
        pss_nil)
        (pss_cons (ps_if (pt_cmpR op_eq (pv 8) pe_int (nomark _))
        (pss_one (ps_ret (pe_op op_cat (pe_op op_cat (pe_slice (sl_listK (K := K) rfl) (pv 1) po_none (po_some (pv 2))) (pe_lst (pa_cons (pe_tup (pa_cons (C8.pe_c c__law_odd_name hr (by decide) rfl (pa_cons (pv 0) pa_nil)) (pa_cons (pv 6) pa_nil))) pa_nil))) (pe_slice (sl_listK (K := K) rfl) (pv 1) (po_some (pe_op op_add (pv 2) pe_int)) po_none))))
        pss_nil)
        (pss_cons (ps_if (pt_cmpR op_eq (pv 8) pe_int (nomark _))
        (pss_one (ps_ret (pe_op op_cat (pe_op op_cat (pe_slice (sl_listK (K := K) rfl) (pv 1) po_none (po_some (pv 2))) (pe_lst (pa_cons (pe_tup (pa_cons (C8.pe_c c__law_of hr (by decide) rfl (pa_cons (pv 0) (pa_cons (pv 3) pa_nil))) (pa_cons (pv 6) pa_nil))) pa_nil))) (pe_slice (sl_listK (K := K) rfl) (pv 1) (po_some (pe_op op_add (pv 2) pe_int)) po_none))))
        pss_nil)
        (pss_cons (ps_if (pt_cmpR op_eq (pv 8) pe_int (nomark _))
        (pss_cons (ps_set (i := 10) sc.nd rfl (Or.inl rfl) (pe_slice (sl_listK (K := K) rfl) (pe_lc (own := [("letter", 11)]) (g := (gName 11)) (by rfl) sc.nd (pi_str pe_str) (blkOk_by (own := [("letter", 11)]) (N := ["bag", "tables", "at", "pool", "one", "name", "columns", "place", "road", "new", "more", "letter"]) (sc := C8.fnScope s__law_spoilt) (by decide +kernel)) (fun _ _ _ _ _ => (pg_name (i := 11) sc.nd rfl (Or.inl rfl))) (fun _ _ _ _ _ => pts_nil) (fun _ _ _ _ _ => (pe_tup (pa_cons pe_str (pa_cons (pe_op op_add_str' (pv 11) pe_str) pa_nil))))) po_none (po_some (C8.pe_c c__law_take hr (by decide) rfl (pa_cons (pv 0) (pa_cons pe_int pa_nil))))))
        (pss_one (ps_ret (pe_op op_cat (pe_op op_cat (pe_slice (sl_listK (K := K) rfl) (pv 1) po_none (po_some (pv 2))) (pe_lst (pa_cons (pe_tup (pa_cons (pv 5) (pa_cons (pe_op op_cat (pv 6) (pv 10)) pa_nil))) pa_nil))) (pe_slice (sl_listK (K := K) rfl) (pv 1) (po_some (pe_op op_add (pv 2) pe_int)) po_none)))))
        pss_nil)
        (pss_cons (ps_set (i := 10) sc.nd rfl (Or.inl rfl) (pe_slice (sl_listK (K := K) rfl) (pe_lc (own := [("letter", 11)]) (g := (gName 11)) (by rfl) sc.nd (pi_str pe_str) (blkOk_by (own := [("letter", 11)]) (N := ["bag", "tables", "at", "pool", "one", "name", "columns", "place", "road", "new", "more", "letter"]) (sc := C8.fnScope s__law_spoilt) (by decide +kernel)) (fun _ _ _ _ _ => (pg_name (i := 11) sc.nd rfl (Or.inl rfl))) (fun _ _ _ _ _ => pts_nil) (fun _ _ _ _ _ => (pe_tup (pa_cons (pe_op op_add_str' (pv 11) pe_str) (pa_cons (pe_lst pa_nil) pa_nil))))) po_none (po_some (C8.pe_c c__law_take hr (by decide) rfl (pa_cons (pv 0) (pa_cons pe_int pa_nil))))))
        (pss_one (ps_ret (C8.pe_c c__law_of hr (by decide) rfl (pa_cons (pv 0) (pa_cons (pe_lst (pa_cons (pe_op op_cat (pv 1) (pv 10)) (pa_cons (pe_op op_cat (pe_slice (sl_listK (K := K) rfl) (pv 1) po_none (po_some (pv 2))) (pe_slice (sl_listK (K := K) rfl) (pv 1) (po_some (pe_op op_add (pv 2) pe_int)) po_none)) (pa_cons ((pe_revLK (K := K) rfl (pv 1))) (pa_cons (pe_lst pa_nil) pa_nil))))) pa_nil))))))))))))))))), ?_⟩
    walk_at "w"
    intro pe hpe
    have hB1 := hB.new (o := .lst []) hpe
    have e1 : Ex H (upd H pe (.lst [])) := Ex.new hpe
    have g1 : (upd H pe (.lst [])) pe = some (.lst []) := upd_same
    generalize (upd H pe (.lst [])) = H1 at hB1 e1 g1 ⊢
    have ed1 : Ex (del b H) (del b H1) := ex_dd (ex_del.trans e1)
    have hq1 := e1 _ _ hq0
    walk_at "w"
    refine w_eqE (SqL.of hq1) (SqL.of g1) ?_
    walk_at "w"
    refine iteB (fun h0 => ?_) (fun h0 => ?_)
    · walk_at "w"
      refine ⟨b, _, rfl, hB1, by omega, fun v d H2 dv any hB2 e2 => ?_⟩
      walk_at "w"
      intro pl hpl
      have plb : pl ≠ b := (hB2.ne_none hpl).symm
      have hB3 := hB2.new (o := .lst []) hpl
      have e3 : Ex H2 (upd H2 pl (.lst [])) := Ex.new hpl
      have g3 : (upd H2 pl (.lst [])) pl = some (.lst []) := upd_same
      generalize (upd H2 pl (.lst [])) = H3 at hB3 e3 g3 ⊢
      walk_at "w"
      intro T hT
      have hB4 := hB3.new (o := .tup [v, .ref pl]) hT
      have e4 : Ex H3 (upd H3 T (.tup [v, .ref pl])) := Ex.new hT
      have g4 : (upd H3 T (.tup [v, .ref pl])) T = some (.tup [v, .ref pl]) := upd_same
      have Tb : T ≠ b := (hB3.ne_none hT).symm
      generalize (upd H3 T (.tup [v, .ref pl])) = H4 at hB4 e4 g4 ⊢
      walk_at "w"
      intro qq hqq
      have qqb : qq ≠ b := (hB4.ne_none hqq).symm
      have hB5 := hB4.new (o := .lst [.ref T]) hqq
      have e5 : Ex H4 (upd H4 qq (.lst [.ref T])) := Ex.new hqq
      have g5 : (upd H4 qq (.lst [.ref T])) qq = some (.lst [.ref T]) := upd_same
      generalize (upd H4 qq (.lst [.ref T])) = H5 at hB5 e5 g5 ⊢
      have e25 : Ex (del b H2) (del b H5) := ex_dd (ex_del.trans (e3.trans (e4.trans e5)))
      walk_at "w"
      refine k qq H5 [.ref T] [(d, [])] (by rw [del_ne qqb]; exact g5) (.cons ⟨T, pl, [], v, rfl, by rw [del_ne Tb]; exact e5 _ _ g4, dp_ext e25 dv, fun y e => Nat.le_trans (any.st y e) (by decide), by rw [del_ne plb]; exact e5 _ _ (e4 _ _ g3), .nil⟩ .nil) (by simp) (fun x hx => by rw [List.mem_singleton.1 hx]; simp) (hB5.mono (by omega)) ?_
      exact (ed1.trans e2).trans (e3.trans (e4.trans e5))
    have l0 : 0 < xs.length := by
      cases xs with
      | nil => cases h0
      | cons _ _ => simp
    walk_at "w"
    refine ⟨b, _, _, rfl, hB1, by omega, by omega, by omega, fun at_ H2 a0 a1 hB2 e2 => ?_⟩
    have ed2 : Ex (del b H) (del b H2) := ed1.trans (ex_dd e2)
    have hq2 := ex_del _ _ (ed2 _ _ hq)
    have hx2 : Paired (TabE K (del b H2)) xs tabs := paired_imp (fun _ _ h => h.ext ed2) hx
    walk_at "w"
    intro D0 hD0
    refine compQ tabs (TabE K H2) nmS (fun v y => v = V.str y) hD0 (SqL.of hq2) (by omega) (paired_imp (fun _ _ h => h.ext ex_del) hx2) (fun y z hy hmz H3 e3 kk kn hk hkn => ?_) (fun acc H3 e3 hacc hp3 => ?_)
    · obtain ⟨a, cq, cvs, nv, rfl, ha, hd, hs, _, _⟩ := hy
      have ha3 := e3 _ _ ha
      walk_at "w"
      refine w_isStr (dp_ext e3 hd) ?_
      obtain ⟨z1, z2⟩ := z
      cases hd with
      | str x =>
        unfold isStrD
        walk_at "w"
        exact hk _ x _ (Ex.refl _) rfl rfl
      | _ =>
        unfold isStrD
        walk_at "w"
        exact hkn _ (Ex.refl _) rfl
    have ev3 := vals_strs hp3
    have lac : acc.length ≤ 100 := by
      rw [ev3, List.length_map]
      exact Nat.le_trans (List.length_filterMap_le _ _) (by omega)
    have hB3 := hB2.ext e3
    walk_at "w"
    intro la hla
    have e4 : Ex H3 (upd H3 la (.lst [.str "a", .str "user"])) := Ex.new hla
    have g4 : (upd H3 la (.lst [.str "a", .str "user"])) la = some (.lst [.str "a", .str "user"]) := upd_same
    have hB4 := hB3.ext e4
    have hacc4 := e4 _ _ hacc
    generalize (upd H3 la (.lst [.str "a", .str "user"])) = H4 at e4 g4 hB4 hacc4 ⊢
    walk_at "w"
    refine w_cat hacc4 g4 (Nat.le_trans (m := 1000) (by simp; omega) (by decide)) fun p1 hp1 => ?_
    have hB5 := hB4.new (o := .lst (acc ++ [.str "a", .str "user"])) hp1
    have e5 : Ex H4 (upd H4 p1 (.lst (acc ++ [.str "a", .str "user"]))) := Ex.new hp1
    have g5 : (upd H4 p1 (.lst (acc ++ [.str "a", .str "user"]))) p1 = some (.lst (acc ++ [.str "a", .str "user"])) := upd_same
    generalize (upd H4 p1 (.lst (acc ++ [.str "a", .str "user"]))) = H5 at hB5 e5 g5 ⊢
    have ed5 : Ex (del b H2) (del b H5) := ex_dd (ex_del.trans (e3.trans (e4.trans e5)))
    have hq5 := ex_del _ _ (ed5 _ _ (ed2 _ _ hq))
    obtain ⟨j, rfl, hj⟩ : ∃ j : Nat, at_ = (j : Int) ∧ j < xs.length := ⟨at_.toNat, by omega, by omega⟩
    have hx5 : Paired (TabE K (del b H5)) xs tabs := paired_imp (fun _ _ h => h.ext ed5) hx2
    have exs : xs = xs.take j ++ xs[j] :: xs.drop (j + 1) := by
      rw [← List.drop_eq_getElem_cons hj, List.take_append_drop]
    have hjt : j < tabs.length := by omega
    have ets : tabs = tabs.take j ++ tabs[j] :: tabs.drop (j + 1) := by
      rw [← List.drop_eq_getElem_cons hjt, List.take_append_drop]
    have pd := paired_takeN (n := j) hx5
    have pr := paired_dropN (n := j) hx5
    rw [List.drop_eq_getElem_cons hj, List.drop_eq_getElem_cons hjt] at pr
    generalize ht0 : tabs[j] = t at ets pr
    cases pr with
    | cons hy pr =>
    obtain ⟨ya, cq, cvs, nv, ey, hya, hnv, hns, hcq, hcs⟩ := id hy
    have lcv := paired_len hcs
    have tin : t ∈ tabs := by rw [← ht0]; exact List.getElem_mem hjt
    have lt2 := lc t tin
    walk_at "w"
    refine w_ixL (SqL.of hq5) (v := .ref ya) (atI_nat (j := j) (by rw [List.getElem?_eq_getElem hj, ey])) ?_
    have hya5 := ex_del _ _ hya
    have hcq5 := ex_del _ _ hcq
    walk_at "w"
    intro D1 hD1
    refine compQ t.2 (ColD K H5) c1S (fun v y => v = V.str y) hD1 (SqL.of hcq5) (by omega) (paired_imp (fun _ _ h => h.ext ex_del) hcs) (fun y z hy hmz H6 e6 kk kn hk hkn => ?_) (fun acc6 H6 e6 hacc6 hp6 => ?_)
    · obtain ⟨hd, _, _⟩ := hy
      walk_at "w"
      refine w_isTuQ (dp_ext e6 hd) ?_
      cases hd with
      | @tup a ys ds tt hds =>
        have tt6 := Evl.ex_t e6 tt
        unfold isTuQ
        walk_at "w"
        cases hds with
        | nil =>
          refine iteD (fun h => absurd h (by decide)) (fun h => ?_)
          walk_at "w"
          exact hkn _ (Ex.refl _) rfl
        | @cons x0 xr0 d0 dr0 hd0 hr0 =>
        cases hr0 with
        | nil =>
          refine iteD (fun h => absurd h (by simp)) (fun h => ?_)
          walk_at "w"
          exact hkn _ (Ex.refl _) rfl
        | @cons x1 xr d1 dr hd1 hr1 =>
        refine iteD (fun h => ?_) (fun h => absurd (by simp only [List.length_cons]; omega) h)
        walk_at "w"
        refine w_ixT (i := 1) (v := x1) tt6 (atI_nat (j := 1) (xs := x0 :: x1 :: xr) rfl) ?_
        walk_at "w"
        refine w_isStr (dp_ext e6 hd1) ?_
        cases hd1 with
        | str x =>
          unfold isStrD
          walk_at "w"
          refine w_ixT (i := 1) (v := .str x) tt6 (atI_nat (j := 1) (xs := x0 :: .str x :: xr) rfl) ?_
          exact hk _ x _ (Ex.refl _) rfl rfl
        | _ =>
          unfold isStrD
          walk_at "w"
          exact hkn _ (Ex.refl _) rfl
      | _ =>
        unfold isTuQ
        walk_at "w"
        exact hkn _ (Ex.refl _) rfl
    have ev6 := vals_strs hp6
    have lac6 : acc6.length ≤ 100 := by
      rw [ev6, List.length_map]
      exact Nat.le_trans (List.length_filterMap_le _ _) (by omega)
    have g6 := e6 _ _ g5
    walk_at "w"
    refine w_cat g6 hacc6 (Nat.le_trans (m := 1000) (by simp; omega) (by decide)) fun p2 hp2 => ?_
    have hB6 := hB5.ext e6
    have p2b : p2 ≠ b := (hB6.ne_none hp2).symm
    have hB7 := hB6.new (o := .lst (acc ++ [.str "a", .str "user"] ++ acc6)) hp2
    have e7 : Ex H6 (upd H6 p2 (.lst (acc ++ [.str "a", .str "user"] ++ acc6))) := Ex.new hp2
    have g7 : (upd H6 p2 (.lst (acc ++ [.str "a", .str "user"] ++ acc6))) p2 = some (.lst (acc ++ [.str "a", .str "user"] ++ acc6)) := upd_same
    generalize (upd H6 p2 (.lst (acc ++ [.str "a", .str "user"] ++ acc6))) = H7 at hB7 e7 g7 ⊢
    obtain ⟨ps, eps⟩ : ∃ ps : List Str, ps = tabs.filterMap nmS ++ (["a", "user"] : List Str) ++ t.2.filterMap c1S := ⟨_, rfl⟩
    have eg7 : H7 p2 = some (.lst (ps.map V.str)) := by rw [g7, eps, ev3, ev6]; simp
    have pne : ps ≠ [] := by rw [eps]; simp
    have psl : ps.length ≤ 1000 := by
      have a1 := List.length_filterMap_le nmS tabs
      have a2 := List.length_filterMap_le c1S t.2
      rw [eps]
      simp only [List.length_append, List.length_cons, List.length_nil]
      omega
    have psz : ∀ x ∈ ps, x.length ≤ 4000 := by
      intro x hx'
      rw [eps] at hx'
      rcases List.mem_append.1 hx' with hx' | hx'
      · rcases List.mem_append.1 hx' with hx' | hx'
        · obtain ⟨y, hy', e'⟩ := List.mem_filterMap.mp hx'
          obtain ⟨_, _, _, _, _, _, _, _, hs', _⟩ := paired_all hx y hy'
          refine hs' x ?_
          unfold nmS at e'
          split at e'
          · rename_i q' hq'
            rw [hq', Option.some.inj e']
          · cases e'
        · simp only [List.mem_cons, List.not_mem_nil, or_false] at hx'
          rcases hx' with rfl | rfl
          · decide
          · decide
      · obtain ⟨y, hy', e'⟩ := List.mem_filterMap.mp hx'
        obtain ⟨_, hc'⟩ := paired_all hcs y hy'
        unfold c1S at e'
        split at e'
        · rename_i d0' y' r'
          have := hc'.sz _ rfl (.str y') (by simp) y' rfl
          rw [← Option.some.inj e']
          exact this
        · cases e'
    have ed7 : Ex (del b H5) (del b H7) := ex_dd (ex_del.trans (e6.trans e7))
    have hcq7 := (e6.trans e7) _ _ hcq5
    walk_at "w"
    refine ⟨b, _, _, rfl, hB7, by omega, by omega, by omega, fun pl_ H8 a0' a1' hB8 e8 => ?_⟩
    walk_at "w"
    refine ⟨b, 9, _, rfl, hB8, by omega, by decide, by decide, fun road H9 r0 r1 hB9 e9 => ?_⟩
    have ed9 : Ex (del b H7) (del b H9) := (ex_dd e8).trans (ex_dd e9)
    walk_at "w"
    refine ⟨b, p2, _, ps, rfl, hB9, by omega, SqL.of (ed9 _ _ (by rw [del_ne p2b]; exact eg7)), pne, by omega, psz, fun nv2 nd H10 hnd hB10 e10 => ?_⟩
    have edA : Ex (del b H5) (del b H10) := ed7.trans (ed9.trans (ex_dd e10))
    have hqA : H10 q = some (.lst xs) := ex_del _ _ (edA _ _ (ed5 _ _ (ed2 _ _ hq)))
    have hcqA : H10 cq = some (.lst cvs) := ex_del _ _ (edA _ _ hcq)
    have pdA : Paired (TabE K (del b H10)) (xs.take j) (tabs.take j) := paired_imp (fun _ _ h => h.ext edA) pd
    have prA : Paired (TabE K (del b H10)) (xs.drop (j + 1)) (tabs.drop (j + 1)) := paired_imp (fun _ _ h => h.ext edA) pr
    have hcsA : Paired (ColD K (del b H10)) cvs t.2 := paired_imp (fun _ _ h => h.ext edA) hcs
    have hnvA := dp_ext edA hnv
    have exA : Ex (del b H) H10 := (ed2.trans ed5).trans (edA.trans ex_del)
    have ltk : (tabs.take j).length + (tabs.drop (j + 1)).length ≤ m := by rw [List.length_take, List.length_drop]; omega
    have lcA : ∀ x ∈ tabs.take j ++ tabs.drop (j + 1), x.2.length ≤ m := fun x hx' => by
      rcases List.mem_append.1 hx' with h | h
      · exact lc x (List.mem_of_mem_take h)
      · exact lc x (List.mem_of_mem_drop h)
    have lxt : xs.length ≤ 100 := by omega
    have lcq : cvs.length ≤ 100 := by omega
    obtain ⟨c0, rfl, hc0⟩ : ∃ c0 : Nat, pl_ = (c0 : Int) ∧ c0 ≤ cvs.length := ⟨pl_.toNat, by omega, by omega⟩
    -- what every road ends with
    have fin : ∀ {HZ : Hp} {q' cl T : Addr} {N : V} {nd' : PyData} {cs' : List V} {ds' : List PyData}, BagAt HZ b (n + 200) → Ex (del b H10) (del b HZ) → q' ≠ b → T ≠ b → cl ≠ b → HZ q' = some (.lst (xs.take j ++ [.ref T] ++ xs.drop (j + 1))) → HZ T = some (.tup [N, .ref cl]) → HZ cl = some (.lst cs') →
        Dp K (del b HZ) N nd' → (∀ y, nd' = .str y → y.length ≤ 4000) → Paired (ColD K (del b HZ)) cs' ds' → ds'.length ≤ m + 8 → Q (.ref q') HZ := fun {HZ q' cl T N nd' cs' ds'} hBZ eZ n1 n2 n3 h1 h2 h3 hN hNs hC hl => by
      refine k q' HZ _ (tabs.take j ++ [(nd', ds')] ++ tabs.drop (j + 1)) (by rw [del_ne n1]; exact h1) (paired_app (paired_app (paired_imp (fun _ _ h => h.ext eZ) pdA) (.cons ⟨T, cl, cs', N, rfl, by rw [del_ne n2]; exact h2, hN, hNs, by rw [del_ne n3]; exact h3, hC⟩ .nil)) (paired_imp (fun _ _ h => h.ext eZ) prA)) ?_ (fun x hx' => ?_) hBZ ((ex_dd exA).trans (eZ.trans ex_del))
      · rw [List.length_append, List.length_append, List.length_cons, List.length_nil]
        omega
      · rcases List.mem_append.1 hx' with h | h
        · rcases List.mem_append.1 h with h | h
          · exact Nat.le_trans (lcA x (List.mem_append.mpr (.inl h))) (by omega)
          · rw [List.mem_singleton.1 h]
            exact hl
        · exact Nat.le_trans (lcA x (List.mem_append.mpr (.inr h))) (by omega)
    have dqA : del b H10 q = some (.lst xs) := edA _ _ (ed5 _ _ (ed2 _ _ hq))
    have dcqA : del b H10 cq = some (.lst cvs) := edA _ _ hcq
    have nbcq : cq ≠ b := (del_some hcq).1
    have dp2A : del b H10 p2 = some (.lst (ps.map V.str)) := (ex_dd e10) _ _ (ed9 _ _ (by rw [del_ne p2b]; exact eg7))
    walk_at "w"
    refine iteD (fun h3 => ?_) (fun h3 => ?_)
    · walk_at "w"
      refine w_slQ (SqL.of (ex_del _ _ dqA)) fun M1 hM1 => ?_
      rw [cut_takeN]
      have nbM1 : M1 ≠ b := (hB10.ne_none hM1).symm
      have Ba1 := hB10.new (o := .lst (xs.take j)) hM1
      have eda1 : Ex (del b H10) (del b (upd H10 M1 (.lst (xs.take j)))) := ex_dd (ex_del.trans (Ex.new hM1))
      have da1 : del b (upd H10 M1 (.lst (xs.take j))) M1 = some (.lst (xs.take j)) := by rw [del_ne nbM1]; exact upd_same
      generalize (upd H10 M1 (.lst (xs.take j))) = Ha1 at Ba1 eda1 da1 ⊢
      walk_at "w"
      refine w_slQ (SqL.of (ex_del _ _ (eda1 _ _ dcqA))) fun C1 hC1 => ?_
      rw [cut_takeN]
      have nbC1 : C1 ≠ b := (Ba1.ne_none hC1).symm
      have Ba2 := Ba1.new (o := .lst (cvs.take c0)) hC1
      have eda2 : Ex (del b Ha1) (del b (upd Ha1 C1 (.lst (cvs.take c0)))) := ex_dd (ex_del.trans (Ex.new hC1))
      have da2 : del b (upd Ha1 C1 (.lst (cvs.take c0))) C1 = some (.lst (cvs.take c0)) := by rw [del_ne nbC1]; exact upd_same
      generalize (upd Ha1 C1 (.lst (cvs.take c0))) = Ha2 at Ba2 eda2 da2 ⊢
      walk_at "w"
      intro C2 hC2
      have nbC2 : C2 ≠ b := (Ba2.ne_none hC2).symm
      have Ba3 := Ba2.new (o := .lst [nv2]) hC2
      have eda3 : Ex (del b Ha2) (del b (upd Ha2 C2 (.lst [nv2]))) := ex_dd (ex_del.trans (Ex.new hC2))
      have da3 : del b (upd Ha2 C2 (.lst [nv2])) C2 = some (.lst [nv2]) := by rw [del_ne nbC2]; exact upd_same
      generalize (upd Ha2 C2 (.lst [nv2])) = Ha3 at Ba3 eda3 da3 ⊢
      walk_at "w"
      refine w_cat (ex_del _ _ (eda3 _ _ da2)) (ex_del _ _ da3) (Nat.le_trans (m := 1000) (by simp only [List.length_append, List.length_take, List.length_drop, List.length_cons, List.length_nil]; omega) (by decide)) fun C3 hC3 => ?_
      have nbC3 : C3 ≠ b := (Ba3.ne_none hC3).symm
      have Ba4 := Ba3.new (o := .lst (cvs.take c0 ++ [nv2])) hC3
      have eda4 : Ex (del b Ha3) (del b (upd Ha3 C3 (.lst (cvs.take c0 ++ [nv2])))) := ex_dd (ex_del.trans (Ex.new hC3))
      have da4 : del b (upd Ha3 C3 (.lst (cvs.take c0 ++ [nv2]))) C3 = some (.lst (cvs.take c0 ++ [nv2])) := by rw [del_ne nbC3]; exact upd_same
      generalize (upd Ha3 C3 (.lst (cvs.take c0 ++ [nv2]))) = Ha4 at Ba4 eda4 da4 ⊢
      walk_at "w"
      refine w_slQ (SqL.of (ex_del _ _ ((eda1.trans (eda2.trans (eda3.trans eda4))) _ _ dcqA))) fun C4 hC4 => ?_
      rw [show ((c0 : Int) + 1) = ((c0 + 1 : Nat) : Int) by omega, cut_dropN]
      have nbC4 : C4 ≠ b := (Ba4.ne_none hC4).symm
      have Ba5 := Ba4.new (o := .lst (cvs.drop (c0 + 1))) hC4
      have eda5 : Ex (del b Ha4) (del b (upd Ha4 C4 (.lst (cvs.drop (c0 + 1))))) := ex_dd (ex_del.trans (Ex.new hC4))
      have da5 : del b (upd Ha4 C4 (.lst (cvs.drop (c0 + 1)))) C4 = some (.lst (cvs.drop (c0 + 1))) := by rw [del_ne nbC4]; exact upd_same
      generalize (upd Ha4 C4 (.lst (cvs.drop (c0 + 1)))) = Ha5 at Ba5 eda5 da5 ⊢
      walk_at "w"
      refine w_cat (ex_del _ _ (eda5 _ _ da4)) (ex_del _ _ da5) (Nat.le_trans (m := 1000) (by simp only [List.length_append, List.length_take, List.length_drop, List.length_cons, List.length_nil]; omega) (by decide)) fun C5 hC5 => ?_
      have nbC5 : C5 ≠ b := (Ba5.ne_none hC5).symm
      have Ba6 := Ba5.new (o := .lst (cvs.take c0 ++ [nv2] ++ cvs.drop (c0 + 1))) hC5
      have eda6 : Ex (del b Ha5) (del b (upd Ha5 C5 (.lst (cvs.take c0 ++ [nv2] ++ cvs.drop (c0 + 1))))) := ex_dd (ex_del.trans (Ex.new hC5))
      have da6 : del b (upd Ha5 C5 (.lst (cvs.take c0 ++ [nv2] ++ cvs.drop (c0 + 1)))) C5 = some (.lst (cvs.take c0 ++ [nv2] ++ cvs.drop (c0 + 1))) := by rw [del_ne nbC5]; exact upd_same
      generalize (upd Ha5 C5 (.lst (cvs.take c0 ++ [nv2] ++ cvs.drop (c0 + 1)))) = Ha6 at Ba6 eda6 da6 ⊢
      walk_at "w"
      intro T hT
      have nbT : T ≠ b := (Ba6.ne_none hT).symm
      have Ba7 := Ba6.new (o := .tup [nv, .ref C5]) hT
      have eda7 : Ex (del b Ha6) (del b (upd Ha6 T (.tup [nv, .ref C5]))) := ex_dd (ex_del.trans (Ex.new hT))
      have da7 : del b (upd Ha6 T (.tup [nv, .ref C5])) T = some (.tup [nv, .ref C5]) := by rw [del_ne nbT]; exact upd_same
      generalize (upd Ha6 T (.tup [nv, .ref C5])) = Ha7 at Ba7 eda7 da7 ⊢
      walk_at "w"
      intro M2 hM2
      have nbM2 : M2 ≠ b := (Ba7.ne_none hM2).symm
      have Ba8 := Ba7.new (o := .lst [.ref T]) hM2
      have eda8 : Ex (del b Ha7) (del b (upd Ha7 M2 (.lst [.ref T]))) := ex_dd (ex_del.trans (Ex.new hM2))
      have da8 : del b (upd Ha7 M2 (.lst [.ref T])) M2 = some (.lst [.ref T]) := by rw [del_ne nbM2]; exact upd_same
      generalize (upd Ha7 M2 (.lst [.ref T])) = Ha8 at Ba8 eda8 da8 ⊢
      walk_at "w"
      refine w_cat (ex_del _ _ ((eda2.trans (eda3.trans (eda4.trans (eda5.trans (eda6.trans (eda7.trans eda8)))))) _ _ da1)) (ex_del _ _ da8) (Nat.le_trans (m := 1000) (by simp only [List.length_append, List.length_take, List.length_drop, List.length_cons, List.length_nil]; omega) (by decide)) fun M3 hM3 => ?_
      have nbM3 : M3 ≠ b := (Ba8.ne_none hM3).symm
      have Ba9 := Ba8.new (o := .lst (xs.take j ++ [.ref T])) hM3
      have eda9 : Ex (del b Ha8) (del b (upd Ha8 M3 (.lst (xs.take j ++ [.ref T])))) := ex_dd (ex_del.trans (Ex.new hM3))
      have da9 : del b (upd Ha8 M3 (.lst (xs.take j ++ [.ref T]))) M3 = some (.lst (xs.take j ++ [.ref T])) := by rw [del_ne nbM3]; exact upd_same
      generalize (upd Ha8 M3 (.lst (xs.take j ++ [.ref T]))) = Ha9 at Ba9 eda9 da9 ⊢
      walk_at "w"
      refine w_slQ (SqL.of (ex_del _ _ ((eda1.trans (eda2.trans (eda3.trans (eda4.trans (eda5.trans (eda6.trans (eda7.trans (eda8.trans eda9)))))))) _ _ dqA))) fun M4 hM4 => ?_
      rw [show ((j : Int) + 1) = ((j + 1 : Nat) : Int) by omega, cut_dropN]
      have nbM4 : M4 ≠ b := (Ba9.ne_none hM4).symm
      have Ba10 := Ba9.new (o := .lst (xs.drop (j + 1))) hM4
      have eda10 : Ex (del b Ha9) (del b (upd Ha9 M4 (.lst (xs.drop (j + 1))))) := ex_dd (ex_del.trans (Ex.new hM4))
      have da10 : del b (upd Ha9 M4 (.lst (xs.drop (j + 1)))) M4 = some (.lst (xs.drop (j + 1))) := by rw [del_ne nbM4]; exact upd_same
      generalize (upd Ha9 M4 (.lst (xs.drop (j + 1)))) = Ha10 at Ba10 eda10 da10 ⊢
      walk_at "w"
      refine w_cat (ex_del _ _ (eda10 _ _ da9)) (ex_del _ _ da10) (Nat.le_trans (m := 1000) (by simp only [List.length_append, List.length_take, List.length_drop, List.length_cons, List.length_nil]; omega) (by decide)) fun M5 hM5 => ?_
      have nbM5 : M5 ≠ b := (Ba10.ne_none hM5).symm
      have Ba11 := Ba10.new (o := .lst (xs.take j ++ [.ref T] ++ xs.drop (j + 1))) hM5
      have eda11 : Ex (del b Ha10) (del b (upd Ha10 M5 (.lst (xs.take j ++ [.ref T] ++ xs.drop (j + 1))))) := ex_dd (ex_del.trans (Ex.new hM5))
      have da11 : del b (upd Ha10 M5 (.lst (xs.take j ++ [.ref T] ++ xs.drop (j + 1)))) M5 = some (.lst (xs.take j ++ [.ref T] ++ xs.drop (j + 1))) := by rw [del_ne nbM5]; exact upd_same
      generalize (upd Ha10 M5 (.lst (xs.take j ++ [.ref T] ++ xs.drop (j + 1)))) = Ha11 at Ba11 eda11 da11 ⊢
      walk_at "w"
      have eZ := (eda1.trans (eda2.trans (eda3.trans (eda4.trans (eda5.trans (eda6.trans (eda7.trans (eda8.trans (eda9.trans (eda10.trans eda11))))))))))
      exact fin (nd' := t.1) (ds' := t.2.take c0 ++ [nd] ++ t.2.drop (c0 + 1)) (Ba11.mono (by omega)) eZ nbM5 nbT nbC5 (ex_del _ _ da11) (ex_del _ _ ((eda8.trans (eda9.trans (eda10.trans eda11))) _ _ da7)) (ex_del _ _ ((eda7.trans (eda8.trans (eda9.trans (eda10.trans eda11)))) _ _ da6)) (dp_ext eZ hnvA) hns (paired_app (paired_app (paired_imp (fun _ _ h => h.ext eZ) (paired_takeN hcsA)) (.cons (hnd.ext eZ) .nil)) (paired_imp (fun _ _ h => h.ext eZ) (paired_dropN hcsA))) (by simp only [List.length_append, List.length_take, List.length_drop, List.length_cons, List.length_nil]; omega)
    walk_at "w"
    refine iteD (fun h5 => ?_) (fun h5 => ?_)
    · walk_at "w"
      refine w_slQ (SqL.of (ex_del _ _ dqA)) fun M1 hM1 => ?_
      rw [cut_takeN]
      have nbM1 : M1 ≠ b := (hB10.ne_none hM1).symm
      have Bc1 := hB10.new (o := .lst (xs.take j)) hM1
      have edc1 : Ex (del b H10) (del b (upd H10 M1 (.lst (xs.take j)))) := ex_dd (ex_del.trans (Ex.new hM1))
      have dc1 : del b (upd H10 M1 (.lst (xs.take j))) M1 = some (.lst (xs.take j)) := by rw [del_ne nbM1]; exact upd_same
      generalize (upd H10 M1 (.lst (xs.take j))) = Hc1 at Bc1 edc1 dc1 ⊢
      walk_at "w"
      refine w_slQ (SqL.of (ex_del _ _ (edc1 _ _ dcqA))) fun C1 hC1 => ?_
      rw [cut_takeN]
      have nbC1 : C1 ≠ b := (Bc1.ne_none hC1).symm
      have Bc2 := Bc1.new (o := .lst (cvs.take c0)) hC1
      have edc2 : Ex (del b Hc1) (del b (upd Hc1 C1 (.lst (cvs.take c0)))) := ex_dd (ex_del.trans (Ex.new hC1))
      have dc2 : del b (upd Hc1 C1 (.lst (cvs.take c0))) C1 = some (.lst (cvs.take c0)) := by rw [del_ne nbC1]; exact upd_same
      generalize (upd Hc1 C1 (.lst (cvs.take c0))) = Hc2 at Bc2 edc2 dc2 ⊢
      walk_at "w"
      intro C2 hC2
      have nbC2 : C2 ≠ b := (Bc2.ne_none hC2).symm
      have Bc3 := Bc2.new (o := .lst [nv2]) hC2
      have edc3 : Ex (del b Hc2) (del b (upd Hc2 C2 (.lst [nv2]))) := ex_dd (ex_del.trans (Ex.new hC2))
      have dc3 : del b (upd Hc2 C2 (.lst [nv2])) C2 = some (.lst [nv2]) := by rw [del_ne nbC2]; exact upd_same
      generalize (upd Hc2 C2 (.lst [nv2])) = Hc3 at Bc3 edc3 dc3 ⊢
      walk_at "w"
      refine w_cat (ex_del _ _ (edc3 _ _ dc2)) (ex_del _ _ dc3) (Nat.le_trans (m := 1000) (by simp only [List.length_append, List.length_take, List.length_drop, List.length_cons, List.length_nil]; omega) (by decide)) fun C3 hC3 => ?_
      have nbC3 : C3 ≠ b := (Bc3.ne_none hC3).symm
      have Bc4 := Bc3.new (o := .lst (cvs.take c0 ++ [nv2])) hC3
      have edc4 : Ex (del b Hc3) (del b (upd Hc3 C3 (.lst (cvs.take c0 ++ [nv2])))) := ex_dd (ex_del.trans (Ex.new hC3))
      have dc4 : del b (upd Hc3 C3 (.lst (cvs.take c0 ++ [nv2]))) C3 = some (.lst (cvs.take c0 ++ [nv2])) := by rw [del_ne nbC3]; exact upd_same
      generalize (upd Hc3 C3 (.lst (cvs.take c0 ++ [nv2]))) = Hc4 at Bc4 edc4 dc4 ⊢
      walk_at "w"
      refine w_slQ (SqL.of (ex_del _ _ ((edc1.trans (edc2.trans (edc3.trans edc4))) _ _ dcqA))) fun C4 hC4 => ?_
      rw [cut_dropN]
      have nbC4 : C4 ≠ b := (Bc4.ne_none hC4).symm
      have Bc5 := Bc4.new (o := .lst (cvs.drop c0)) hC4
      have edc5 : Ex (del b Hc4) (del b (upd Hc4 C4 (.lst (cvs.drop c0)))) := ex_dd (ex_del.trans (Ex.new hC4))
      have dc5 : del b (upd Hc4 C4 (.lst (cvs.drop c0))) C4 = some (.lst (cvs.drop c0)) := by rw [del_ne nbC4]; exact upd_same
      generalize (upd Hc4 C4 (.lst (cvs.drop c0))) = Hc5 at Bc5 edc5 dc5 ⊢
      walk_at "w"
      refine w_cat (ex_del _ _ (edc5 _ _ dc4)) (ex_del _ _ dc5) (Nat.le_trans (m := 1000) (by simp only [List.length_append, List.length_take, List.length_drop, List.length_cons, List.length_nil]; omega) (by decide)) fun C5 hC5 => ?_
      have nbC5 : C5 ≠ b := (Bc5.ne_none hC5).symm
      have Bc6 := Bc5.new (o := .lst (cvs.take c0 ++ [nv2] ++ cvs.drop c0)) hC5
      have edc6 : Ex (del b Hc5) (del b (upd Hc5 C5 (.lst (cvs.take c0 ++ [nv2] ++ cvs.drop c0)))) := ex_dd (ex_del.trans (Ex.new hC5))
      have dc6 : del b (upd Hc5 C5 (.lst (cvs.take c0 ++ [nv2] ++ cvs.drop c0))) C5 = some (.lst (cvs.take c0 ++ [nv2] ++ cvs.drop c0)) := by rw [del_ne nbC5]; exact upd_same
      generalize (upd Hc5 C5 (.lst (cvs.take c0 ++ [nv2] ++ cvs.drop c0))) = Hc6 at Bc6 edc6 dc6 ⊢
      walk_at "w"
      intro T hT
      have nbT : T ≠ b := (Bc6.ne_none hT).symm
      have Bc7 := Bc6.new (o := .tup [nv, .ref C5]) hT
      have edc7 : Ex (del b Hc6) (del b (upd Hc6 T (.tup [nv, .ref C5]))) := ex_dd (ex_del.trans (Ex.new hT))
      have dc7 : del b (upd Hc6 T (.tup [nv, .ref C5])) T = some (.tup [nv, .ref C5]) := by rw [del_ne nbT]; exact upd_same
      generalize (upd Hc6 T (.tup [nv, .ref C5])) = Hc7 at Bc7 edc7 dc7 ⊢
      walk_at "w"
      intro M2 hM2
      have nbM2 : M2 ≠ b := (Bc7.ne_none hM2).symm
      have Bc8 := Bc7.new (o := .lst [.ref T]) hM2
      have edc8 : Ex (del b Hc7) (del b (upd Hc7 M2 (.lst [.ref T]))) := ex_dd (ex_del.trans (Ex.new hM2))
      have dc8 : del b (upd Hc7 M2 (.lst [.ref T])) M2 = some (.lst [.ref T]) := by rw [del_ne nbM2]; exact upd_same
      generalize (upd Hc7 M2 (.lst [.ref T])) = Hc8 at Bc8 edc8 dc8 ⊢
      walk_at "w"
      refine w_cat (ex_del _ _ ((edc2.trans (edc3.trans (edc4.trans (edc5.trans (edc6.trans (edc7.trans edc8)))))) _ _ dc1)) (ex_del _ _ dc8) (Nat.le_trans (m := 1000) (by simp only [List.length_append, List.length_take, List.length_drop, List.length_cons, List.length_nil]; omega) (by decide)) fun M3 hM3 => ?_
      have nbM3 : M3 ≠ b := (Bc8.ne_none hM3).symm
      have Bc9 := Bc8.new (o := .lst (xs.take j ++ [.ref T])) hM3
      have edc9 : Ex (del b Hc8) (del b (upd Hc8 M3 (.lst (xs.take j ++ [.ref T])))) := ex_dd (ex_del.trans (Ex.new hM3))
      have dc9 : del b (upd Hc8 M3 (.lst (xs.take j ++ [.ref T]))) M3 = some (.lst (xs.take j ++ [.ref T])) := by rw [del_ne nbM3]; exact upd_same
      generalize (upd Hc8 M3 (.lst (xs.take j ++ [.ref T]))) = Hc9 at Bc9 edc9 dc9 ⊢
      walk_at "w"
      refine w_slQ (SqL.of (ex_del _ _ ((edc1.trans (edc2.trans (edc3.trans (edc4.trans (edc5.trans (edc6.trans (edc7.trans (edc8.trans edc9)))))))) _ _ dqA))) fun M4 hM4 => ?_
      rw [show ((j : Int) + 1) = ((j + 1 : Nat) : Int) by omega, cut_dropN]
      have nbM4 : M4 ≠ b := (Bc9.ne_none hM4).symm
      have Bc10 := Bc9.new (o := .lst (xs.drop (j + 1))) hM4
      have edc10 : Ex (del b Hc9) (del b (upd Hc9 M4 (.lst (xs.drop (j + 1))))) := ex_dd (ex_del.trans (Ex.new hM4))
      have dc10 : del b (upd Hc9 M4 (.lst (xs.drop (j + 1)))) M4 = some (.lst (xs.drop (j + 1))) := by rw [del_ne nbM4]; exact upd_same
      generalize (upd Hc9 M4 (.lst (xs.drop (j + 1)))) = Hc10 at Bc10 edc10 dc10 ⊢
      walk_at "w"
      refine w_cat (ex_del _ _ (edc10 _ _ dc9)) (ex_del _ _ dc10) (Nat.le_trans (m := 1000) (by simp only [List.length_append, List.length_take, List.length_drop, List.length_cons, List.length_nil]; omega) (by decide)) fun M5 hM5 => ?_
      have nbM5 : M5 ≠ b := (Bc10.ne_none hM5).symm
      have Bc11 := Bc10.new (o := .lst (xs.take j ++ [.ref T] ++ xs.drop (j + 1))) hM5
      have edc11 : Ex (del b Hc10) (del b (upd Hc10 M5 (.lst (xs.take j ++ [.ref T] ++ xs.drop (j + 1))))) := ex_dd (ex_del.trans (Ex.new hM5))
      have dc11 : del b (upd Hc10 M5 (.lst (xs.take j ++ [.ref T] ++ xs.drop (j + 1)))) M5 = some (.lst (xs.take j ++ [.ref T] ++ xs.drop (j + 1))) := by rw [del_ne nbM5]; exact upd_same
      generalize (upd Hc10 M5 (.lst (xs.take j ++ [.ref T] ++ xs.drop (j + 1)))) = Hc11 at Bc11 edc11 dc11 ⊢
      walk_at "w"
      have eZ := (edc1.trans (edc2.trans (edc3.trans (edc4.trans (edc5.trans (edc6.trans (edc7.trans (edc8.trans (edc9.trans (edc10.trans edc11))))))))))
      exact fin (nd' := t.1) (ds' := t.2.take c0 ++ [nd] ++ t.2.drop c0) (Bc11.mono (by omega)) eZ nbM5 nbT nbC5 (ex_del _ _ dc11) (ex_del _ _ ((edc8.trans (edc9.trans (edc10.trans edc11))) _ _ dc7)) (ex_del _ _ ((edc7.trans (edc8.trans (edc9.trans (edc10.trans edc11)))) _ _ dc6)) (dp_ext eZ hnvA) hns (paired_app (paired_app (paired_imp (fun _ _ h => h.ext eZ) (paired_takeN hcsA)) (.cons (hnd.ext eZ) .nil)) (paired_imp (fun _ _ h => h.ext eZ) (paired_dropN hcsA))) (by simp only [List.length_append, List.length_take, List.length_drop, List.length_cons, List.length_nil]; omega)
    walk_at "w"
    refine iteD (fun h6 => ?_) (fun h6 => ?_)
    · walk_at "w"
      refine w_slQ (SqL.of (ex_del _ _ dqA)) fun M1 hM1 => ?_
      rw [cut_takeN]
      have nbM1 : M1 ≠ b := (hB10.ne_none hM1).symm
      have Bd1 := hB10.new (o := .lst (xs.take j)) hM1
      have edd1 : Ex (del b H10) (del b (upd H10 M1 (.lst (xs.take j)))) := ex_dd (ex_del.trans (Ex.new hM1))
      have dd1 : del b (upd H10 M1 (.lst (xs.take j))) M1 = some (.lst (xs.take j)) := by rw [del_ne nbM1]; exact upd_same
      generalize (upd H10 M1 (.lst (xs.take j))) = Hd1 at Bd1 edd1 dd1 ⊢
      walk_at "w"
      refine ⟨b, _, rfl, Bd1, by omega, fun v1 d1 HO dp1 any1 hBO eO => ?_⟩
      have edd2 : Ex (del b Hd1) (del b HO) := ex_dd eO
      walk_at "w"
      intro T hT
      have nbT : T ≠ b := (hBO.ne_none hT).symm
      have Bd3 := hBO.new (o := .tup [v1, .ref cq]) hT
      have edd3 : Ex (del b HO) (del b (upd HO T (.tup [v1, .ref cq]))) := ex_dd (ex_del.trans (Ex.new hT))
      have dd3 : del b (upd HO T (.tup [v1, .ref cq])) T = some (.tup [v1, .ref cq]) := by rw [del_ne nbT]; exact upd_same
      generalize (upd HO T (.tup [v1, .ref cq])) = Hd3 at Bd3 edd3 dd3 ⊢
      walk_at "w"
      intro M2 hM2
      have nbM2 : M2 ≠ b := (Bd3.ne_none hM2).symm
      have Bd4 := Bd3.new (o := .lst [.ref T]) hM2
      have edd4 : Ex (del b Hd3) (del b (upd Hd3 M2 (.lst [.ref T]))) := ex_dd (ex_del.trans (Ex.new hM2))
      have dd4 : del b (upd Hd3 M2 (.lst [.ref T])) M2 = some (.lst [.ref T]) := by rw [del_ne nbM2]; exact upd_same
      generalize (upd Hd3 M2 (.lst [.ref T])) = Hd4 at Bd4 edd4 dd4 ⊢
      walk_at "w"
      refine w_cat (ex_del _ _ ((edd2.trans (edd3.trans edd4)) _ _ dd1)) (ex_del _ _ dd4) (Nat.le_trans (m := 1000) (by simp only [List.length_append, List.length_take, List.length_drop, List.length_cons, List.length_nil]; omega) (by decide)) fun M3 hM3 => ?_
      have nbM3 : M3 ≠ b := (Bd4.ne_none hM3).symm
      have Bd5 := Bd4.new (o := .lst (xs.take j ++ [.ref T])) hM3
      have edd5 : Ex (del b Hd4) (del b (upd Hd4 M3 (.lst (xs.take j ++ [.ref T])))) := ex_dd (ex_del.trans (Ex.new hM3))
      have dd5 : del b (upd Hd4 M3 (.lst (xs.take j ++ [.ref T]))) M3 = some (.lst (xs.take j ++ [.ref T])) := by rw [del_ne nbM3]; exact upd_same
      generalize (upd Hd4 M3 (.lst (xs.take j ++ [.ref T]))) = Hd5 at Bd5 edd5 dd5 ⊢
      walk_at "w"
      refine w_slQ (SqL.of (ex_del _ _ ((edd1.trans (edd2.trans (edd3.trans (edd4.trans edd5)))) _ _ dqA))) fun M4 hM4 => ?_
      rw [show ((j : Int) + 1) = ((j + 1 : Nat) : Int) by omega, cut_dropN]
      have nbM4 : M4 ≠ b := (Bd5.ne_none hM4).symm
      have Bd6 := Bd5.new (o := .lst (xs.drop (j + 1))) hM4
      have edd6 : Ex (del b Hd5) (del b (upd Hd5 M4 (.lst (xs.drop (j + 1))))) := ex_dd (ex_del.trans (Ex.new hM4))
      have dd6 : del b (upd Hd5 M4 (.lst (xs.drop (j + 1)))) M4 = some (.lst (xs.drop (j + 1))) := by rw [del_ne nbM4]; exact upd_same
      generalize (upd Hd5 M4 (.lst (xs.drop (j + 1)))) = Hd6 at Bd6 edd6 dd6 ⊢
      walk_at "w"
      refine w_cat (ex_del _ _ (edd6 _ _ dd5)) (ex_del _ _ dd6) (Nat.le_trans (m := 1000) (by simp only [List.length_append, List.length_take, List.length_drop, List.length_cons, List.length_nil]; omega) (by decide)) fun M5 hM5 => ?_
      have nbM5 : M5 ≠ b := (Bd6.ne_none hM5).symm
      have Bd7 := Bd6.new (o := .lst (xs.take j ++ [.ref T] ++ xs.drop (j + 1))) hM5
      have edd7 : Ex (del b Hd6) (del b (upd Hd6 M5 (.lst (xs.take j ++ [.ref T] ++ xs.drop (j + 1))))) := ex_dd (ex_del.trans (Ex.new hM5))
      have dd7 : del b (upd Hd6 M5 (.lst (xs.take j ++ [.ref T] ++ xs.drop (j + 1)))) M5 = some (.lst (xs.take j ++ [.ref T] ++ xs.drop (j + 1))) := by rw [del_ne nbM5]; exact upd_same
      generalize (upd Hd6 M5 (.lst (xs.take j ++ [.ref T] ++ xs.drop (j + 1)))) = Hd7 at Bd7 edd7 dd7 ⊢
      walk_at "w"
      have eZ := (edd1.trans (edd2.trans (edd3.trans (edd4.trans (edd5.trans (edd6.trans edd7))))))
      exact fin (nd' := d1) (ds' := t.2) (Bd7.mono (by omega)) eZ nbM5 nbT nbcq (ex_del _ _ dd7) (ex_del _ _ ((edd4.trans (edd5.trans (edd6.trans edd7))) _ _ dd3)) (ex_del _ _ ((edd1.trans (edd2.trans (edd3.trans (edd4.trans (edd5.trans (edd6.trans edd7)))))) _ _ dcqA)) (dp_ext (edd3.trans (edd4.trans (edd5.trans (edd6.trans edd7)))) dp1) (fun y e => Nat.le_trans (any1.st y e) (by decide)) (paired_imp (fun _ _ h => h.ext eZ) hcsA) (by omega)
    walk_at "w"
    refine iteD (fun h7 => ?_) (fun h7 => ?_)
    · walk_at "w"
      refine w_slQ (SqL.of (ex_del _ _ dqA)) fun M1 hM1 => ?_
      rw [cut_takeN]
      have nbM1 : M1 ≠ b := (hB10.ne_none hM1).symm
      have Bf1 := hB10.new (o := .lst (xs.take j)) hM1
      have edf1 : Ex (del b H10) (del b (upd H10 M1 (.lst (xs.take j)))) := ex_dd (ex_del.trans (Ex.new hM1))
      have df1 : del b (upd H10 M1 (.lst (xs.take j))) M1 = some (.lst (xs.take j)) := by rw [del_ne nbM1]; exact upd_same
      generalize (upd H10 M1 (.lst (xs.take j))) = Hf1 at Bf1 edf1 df1 ⊢
      walk_at "w"
      refine ⟨b, p2, ps.map V.str, _, rfl, Bf1, by omega, SqL.of (edf1 _ _ dp2A), by simpa using pne, by rw [List.length_map]; omega, fun v1 HO hv1 hBO eO => ?_⟩
      obtain ⟨s1, hs1, rfl⟩ := List.mem_map.mp hv1
      have edf2 : Ex (del b Hf1) (del b HO) := ex_dd eO
      walk_at "w"
      intro T hT
      have nbT : T ≠ b := (hBO.ne_none hT).symm
      have Bf3 := hBO.new (o := .tup [.str s1, .ref cq]) hT
      have edf3 : Ex (del b HO) (del b (upd HO T (.tup [.str s1, .ref cq]))) := ex_dd (ex_del.trans (Ex.new hT))
      have df3 : del b (upd HO T (.tup [.str s1, .ref cq])) T = some (.tup [.str s1, .ref cq]) := by rw [del_ne nbT]; exact upd_same
      generalize (upd HO T (.tup [.str s1, .ref cq])) = Hf3 at Bf3 edf3 df3 ⊢
      walk_at "w"
      intro M2 hM2
      have nbM2 : M2 ≠ b := (Bf3.ne_none hM2).symm
      have Bf4 := Bf3.new (o := .lst [.ref T]) hM2
      have edf4 : Ex (del b Hf3) (del b (upd Hf3 M2 (.lst [.ref T]))) := ex_dd (ex_del.trans (Ex.new hM2))
      have df4 : del b (upd Hf3 M2 (.lst [.ref T])) M2 = some (.lst [.ref T]) := by rw [del_ne nbM2]; exact upd_same
      generalize (upd Hf3 M2 (.lst [.ref T])) = Hf4 at Bf4 edf4 df4 ⊢
      walk_at "w"
      refine w_cat (ex_del _ _ ((edf2.trans (edf3.trans edf4)) _ _ df1)) (ex_del _ _ df4) (Nat.le_trans (m := 1000) (by simp only [List.length_append, List.length_take, List.length_drop, List.length_cons, List.length_nil]; omega) (by decide)) fun M3 hM3 => ?_
      have nbM3 : M3 ≠ b := (Bf4.ne_none hM3).symm
      have Bf5 := Bf4.new (o := .lst (xs.take j ++ [.ref T])) hM3
      have edf5 : Ex (del b Hf4) (del b (upd Hf4 M3 (.lst (xs.take j ++ [.ref T])))) := ex_dd (ex_del.trans (Ex.new hM3))
      have df5 : del b (upd Hf4 M3 (.lst (xs.take j ++ [.ref T]))) M3 = some (.lst (xs.take j ++ [.ref T])) := by rw [del_ne nbM3]; exact upd_same
      generalize (upd Hf4 M3 (.lst (xs.take j ++ [.ref T]))) = Hf5 at Bf5 edf5 df5 ⊢
      walk_at "w"
      refine w_slQ (SqL.of (ex_del _ _ ((edf1.trans (edf2.trans (edf3.trans (edf4.trans edf5)))) _ _ dqA))) fun M4 hM4 => ?_
      rw [show ((j : Int) + 1) = ((j + 1 : Nat) : Int) by omega, cut_dropN]
      have nbM4 : M4 ≠ b := (Bf5.ne_none hM4).symm
      have Bf6 := Bf5.new (o := .lst (xs.drop (j + 1))) hM4
      have edf6 : Ex (del b Hf5) (del b (upd Hf5 M4 (.lst (xs.drop (j + 1))))) := ex_dd (ex_del.trans (Ex.new hM4))
      have df6 : del b (upd Hf5 M4 (.lst (xs.drop (j + 1)))) M4 = some (.lst (xs.drop (j + 1))) := by rw [del_ne nbM4]; exact upd_same
      generalize (upd Hf5 M4 (.lst (xs.drop (j + 1)))) = Hf6 at Bf6 edf6 df6 ⊢
      walk_at "w"
      refine w_cat (ex_del _ _ (edf6 _ _ df5)) (ex_del _ _ df6) (Nat.le_trans (m := 1000) (by simp only [List.length_append, List.length_take, List.length_drop, List.length_cons, List.length_nil]; omega) (by decide)) fun M5 hM5 => ?_
      have nbM5 : M5 ≠ b := (Bf6.ne_none hM5).symm
      have Bf7 := Bf6.new (o := .lst (xs.take j ++ [.ref T] ++ xs.drop (j + 1))) hM5
      have edf7 : Ex (del b Hf6) (del b (upd Hf6 M5 (.lst (xs.take j ++ [.ref T] ++ xs.drop (j + 1))))) := ex_dd (ex_del.trans (Ex.new hM5))
      have df7 : del b (upd Hf6 M5 (.lst (xs.take j ++ [.ref T] ++ xs.drop (j + 1)))) M5 = some (.lst (xs.take j ++ [.ref T] ++ xs.drop (j + 1))) := by rw [del_ne nbM5]; exact upd_same
      generalize (upd Hf6 M5 (.lst (xs.take j ++ [.ref T] ++ xs.drop (j + 1)))) = Hf7 at Bf7 edf7 df7 ⊢
      walk_at "w"
      have eZ := (edf1.trans (edf2.trans (edf3.trans (edf4.trans (edf5.trans (edf6.trans edf7))))))
      exact fin (nd' := .str s1) (ds' := t.2) (Bf7.mono (by omega)) eZ nbM5 nbT nbcq (ex_del _ _ df7) (ex_del _ _ ((edf4.trans (edf5.trans (edf6.trans edf7))) _ _ df3)) (ex_del _ _ ((edf1.trans (edf2.trans (edf3.trans (edf4.trans (edf5.trans (edf6.trans edf7)))))) _ _ dcqA)) (.str s1) (fun y e => by cases e; exact psz _ hs1) (paired_imp (fun _ _ h => h.ext eZ) hcsA) (by omega)
    walk_at "w"
    refine iteD (fun h8 => ?_) (fun h8 => ?_)
    · walk_at "w"
      intro D hD
      have Db : D ≠ b := (hB10.ne_none hD).symm
      have DH : ∀ {H' : Hp} {x : Addr} {o : HO}, H10 x = some o → x ≠ D := fun h => ne_of_none h hD
      refine compSG (z := "abcdefg") (fun i got H' => Ex H10 H' ∧ ∀ v ∈ got, TagV H' v) (by decide) ⟨Ex.new hD, fun _ h => absurd h List.not_mem_nil⟩ (fun i ch got H' hc hat hg h kk kn hk => ?_) (fun got HC hat hg h => ?_)
      · obtain ⟨e', hv⟩ := h
        walk_at "w"
        refine w_addS (one_sz (by decide)) ?_
        walk_at "w"
        intro T1 hT1
        have e4 : Ex H' (upd H' T1 (.tup [.str "flag", .str ((⟨#[ch]⟩ : Str) ++ "q")])) := Ex.new hT1
        refine hk _ _ (e4 _ _ hat) ⟨(e'.trans e4).mut hD, fun v hx' => ?_⟩
        rcases List.mem_append.1 hx' with hx' | hx'
        · obtain ⟨a, s, rfl, ha, hs⟩ := hv v hx'
          exact ⟨a, s, rfl, by rw [upd_ne (ne_of (e4 _ _ ha) (e4 _ _ hat) (by intro z; cases z))]; exact e4 _ _ ha, hs⟩
        · rw [List.mem_singleton.1 hx']
          exact ⟨T1, _, rfl, by rw [upd_ne (ne_of upd_same (e4 _ _ hat) (by intro z; cases z))]; exact upd_same, one_le (by decide)⟩
      obtain ⟨eC, hvC⟩ := h
      have hgl : got.length = 7 := hg.trans (by decide)
      have hBC := hB10.ext eC
      have edg0 : Ex (del b H10) (del b HC) := ex_dd (ex_del.trans eC)
      have dD : del b HC D = some (.lst got) := by rw [del_ne Db]; exact hat
      obtain ⟨dsg, hPg, lPg⟩ := tagV_colD (K := K) hBC hvC
      walk_at "w"
      refine ⟨b, 8, _, rfl, hBC, by omega, by decide, by decide, fun z8 HT y0 y1 hBT eT => ?_⟩
      have edg1 : Ex (del b HC) (del b HT) := ex_dd eT
      obtain ⟨z9, rfl, hz9⟩ : ∃ z9 : Nat, z8 = (z9 : Int) ∧ z9 < 8 := ⟨z8.toNat, by omega, by omega⟩
      walk_at "w"
      refine w_slQ (SqL.of (ex_del _ _ (edg1 _ _ dD))) fun mo hmo => ?_
      rw [cut_takeN]
      have nbmo : mo ≠ b := (hBT.ne_none hmo).symm
      have Bg2 := hBT.new (o := .lst (got.take z9)) hmo
      have edg2 : Ex (del b HT) (del b (upd HT mo (.lst (got.take z9)))) := ex_dd (ex_del.trans (Ex.new hmo))
      have dg2 : del b (upd HT mo (.lst (got.take z9))) mo = some (.lst (got.take z9)) := by rw [del_ne nbmo]; exact upd_same
      generalize (upd HT mo (.lst (got.take z9))) = Hg2 at Bg2 edg2 dg2 ⊢
      walk_at "w"
      refine w_slQ (SqL.of (ex_del _ _ ((edg0.trans (edg1.trans edg2)) _ _ dqA))) fun M1 hM1 => ?_
      rw [cut_takeN]
      have nbM1 : M1 ≠ b := (Bg2.ne_none hM1).symm
      have Bg3 := Bg2.new (o := .lst (xs.take j)) hM1
      have edg3 : Ex (del b Hg2) (del b (upd Hg2 M1 (.lst (xs.take j)))) := ex_dd (ex_del.trans (Ex.new hM1))
      have dg3 : del b (upd Hg2 M1 (.lst (xs.take j))) M1 = some (.lst (xs.take j)) := by rw [del_ne nbM1]; exact upd_same
      generalize (upd Hg2 M1 (.lst (xs.take j))) = Hg3 at Bg3 edg3 dg3 ⊢
      walk_at "w"
      refine w_cat (ex_del _ _ ((edg0.trans (edg1.trans (edg2.trans edg3))) _ _ dcqA)) (ex_del _ _ (edg3 _ _ dg2)) (Nat.le_trans (m := 1000) (by simp only [List.length_append, List.length_take, List.length_drop, List.length_cons, List.length_nil]; omega) (by decide)) fun C5 hC5 => ?_
      have nbC5 : C5 ≠ b := (Bg3.ne_none hC5).symm
      have Bg4 := Bg3.new (o := .lst (cvs ++ got.take z9)) hC5
      have edg4 : Ex (del b Hg3) (del b (upd Hg3 C5 (.lst (cvs ++ got.take z9)))) := ex_dd (ex_del.trans (Ex.new hC5))
      have dg4 : del b (upd Hg3 C5 (.lst (cvs ++ got.take z9))) C5 = some (.lst (cvs ++ got.take z9)) := by rw [del_ne nbC5]; exact upd_same
      generalize (upd Hg3 C5 (.lst (cvs ++ got.take z9))) = Hg4 at Bg4 edg4 dg4 ⊢
      walk_at "w"
      intro T hT
      have nbT : T ≠ b := (Bg4.ne_none hT).symm
      have Bg5 := Bg4.new (o := .tup [nv, .ref C5]) hT
      have edg5 : Ex (del b Hg4) (del b (upd Hg4 T (.tup [nv, .ref C5]))) := ex_dd (ex_del.trans (Ex.new hT))
      have dg5 : del b (upd Hg4 T (.tup [nv, .ref C5])) T = some (.tup [nv, .ref C5]) := by rw [del_ne nbT]; exact upd_same
      generalize (upd Hg4 T (.tup [nv, .ref C5])) = Hg5 at Bg5 edg5 dg5 ⊢
      walk_at "w"
      intro M2 hM2
      have nbM2 : M2 ≠ b := (Bg5.ne_none hM2).symm
      have Bg6 := Bg5.new (o := .lst [.ref T]) hM2
      have edg6 : Ex (del b Hg5) (del b (upd Hg5 M2 (.lst [.ref T]))) := ex_dd (ex_del.trans (Ex.new hM2))
      have dg6 : del b (upd Hg5 M2 (.lst [.ref T])) M2 = some (.lst [.ref T]) := by rw [del_ne nbM2]; exact upd_same
      generalize (upd Hg5 M2 (.lst [.ref T])) = Hg6 at Bg6 edg6 dg6 ⊢
      walk_at "w"
      refine w_cat (ex_del _ _ ((edg4.trans (edg5.trans edg6)) _ _ dg3)) (ex_del _ _ dg6) (Nat.le_trans (m := 1000) (by simp only [List.length_append, List.length_take, List.length_drop, List.length_cons, List.length_nil]; omega) (by decide)) fun M3 hM3 => ?_
      have nbM3 : M3 ≠ b := (Bg6.ne_none hM3).symm
      have Bg7 := Bg6.new (o := .lst (xs.take j ++ [.ref T])) hM3
      have edg7 : Ex (del b Hg6) (del b (upd Hg6 M3 (.lst (xs.take j ++ [.ref T])))) := ex_dd (ex_del.trans (Ex.new hM3))
      have dg7 : del b (upd Hg6 M3 (.lst (xs.take j ++ [.ref T]))) M3 = some (.lst (xs.take j ++ [.ref T])) := by rw [del_ne nbM3]; exact upd_same
      generalize (upd Hg6 M3 (.lst (xs.take j ++ [.ref T]))) = Hg7 at Bg7 edg7 dg7 ⊢
      walk_at "w"
      refine w_slQ (SqL.of (ex_del _ _ ((edg0.trans (edg1.trans (edg2.trans (edg3.trans (edg4.trans (edg5.trans (edg6.trans edg7))))))) _ _ dqA))) fun M4 hM4 => ?_
      rw [show ((j : Int) + 1) = ((j + 1 : Nat) : Int) by omega, cut_dropN]
      have nbM4 : M4 ≠ b := (Bg7.ne_none hM4).symm
      have Bg8 := Bg7.new (o := .lst (xs.drop (j + 1))) hM4
      have edg8 : Ex (del b Hg7) (del b (upd Hg7 M4 (.lst (xs.drop (j + 1))))) := ex_dd (ex_del.trans (Ex.new hM4))
      have dg8 : del b (upd Hg7 M4 (.lst (xs.drop (j + 1)))) M4 = some (.lst (xs.drop (j + 1))) := by rw [del_ne nbM4]; exact upd_same
      generalize (upd Hg7 M4 (.lst (xs.drop (j + 1)))) = Hg8 at Bg8 edg8 dg8 ⊢
      walk_at "w"
      refine w_cat (ex_del _ _ (edg8 _ _ dg7)) (ex_del _ _ dg8) (Nat.le_trans (m := 1000) (by simp only [List.length_append, List.length_take, List.length_drop, List.length_cons, List.length_nil]; omega) (by decide)) fun M5 hM5 => ?_
      have nbM5 : M5 ≠ b := (Bg8.ne_none hM5).symm
      have Bg9 := Bg8.new (o := .lst (xs.take j ++ [.ref T] ++ xs.drop (j + 1))) hM5
      have edg9 : Ex (del b Hg8) (del b (upd Hg8 M5 (.lst (xs.take j ++ [.ref T] ++ xs.drop (j + 1))))) := ex_dd (ex_del.trans (Ex.new hM5))
      have dg9 : del b (upd Hg8 M5 (.lst (xs.take j ++ [.ref T] ++ xs.drop (j + 1)))) M5 = some (.lst (xs.take j ++ [.ref T] ++ xs.drop (j + 1))) := by rw [del_ne nbM5]; exact upd_same
      generalize (upd Hg8 M5 (.lst (xs.take j ++ [.ref T] ++ xs.drop (j + 1)))) = Hg9 at Bg9 edg9 dg9 ⊢
      walk_at "w"
      have eZ := (edg0.trans (edg1.trans (edg2.trans (edg3.trans (edg4.trans (edg5.trans (edg6.trans (edg7.trans (edg8.trans edg9)))))))))
      exact fin (nd' := t.1) (ds' := t.2 ++ dsg.take z9) (Bg9.mono (by omega)) eZ nbM5 nbT nbC5 (ex_del _ _ dg9) (ex_del _ _ ((edg6.trans (edg7.trans (edg8.trans edg9))) _ _ dg5)) (ex_del _ _ ((edg5.trans (edg6.trans (edg7.trans (edg8.trans edg9)))) _ _ dg4)) (dp_ext eZ hnvA) hns (paired_app (paired_imp (fun _ _ h => h.ext eZ) hcsA) (paired_imp (fun _ _ h => h.ext (edg1.trans (edg2.trans (edg3.trans (edg4.trans (edg5.trans (edg6.trans (edg7.trans (edg8.trans edg9))))))))) (paired_takeN hPg))) (by (rw [List.length_append, List.length_take]; omega))
    walk_at "w"
    intro D hD
    have Db : D ≠ b := (hB10.ne_none hD).symm
    have DH : ∀ {H' : Hp} {x : Addr} {o : HO}, H10 x = some o → x ≠ D := fun h => ne_of_none h hD
    refine compSG (z := "abcdefg") (fun i got H' => Ex H10 H' ∧ ∀ v ∈ got, TagT D H' v) (by decide) ⟨Ex.new hD, fun _ h => absurd h List.not_mem_nil⟩ (fun i ch got H' hc hat hg h kk kn hk => ?_) (fun got HC hat hg h => ?_)
    · obtain ⟨e', hv⟩ := h
      walk_at "w"
      refine w_addS (one_sz (by decide)) ?_
      walk_at "w"
      intro L1 hL1
      have LD : L1 ≠ D := (ne_of_none hat hL1).symm
      have e4 : Ex H' (upd H' L1 (.lst [])) := Ex.new hL1
      have gL : (upd H' L1 (.lst [])) L1 = some (.lst []) := upd_same
      generalize (upd H' L1 (.lst [])) = HL at e4 gL ⊢
      walk_at "w"
      intro T1 hT1
      have e5 : Ex HL (upd HL T1 (.tup [.str ((⟨#[ch]⟩ : Str) ++ "z"), .ref L1])) := Ex.new hT1
      have e6 := e4.trans e5
      refine hk _ _ (e6 _ _ hat) ⟨(e'.trans e6).mut hD, fun v hx' => ?_⟩
      rcases List.mem_append.1 hx' with hx' | hx'
      · obtain ⟨a, l, s, rfl, ha, hl, nl, hs⟩ := hv v hx'
        exact ⟨a, l, s, rfl, by rw [upd_ne (ne_of (e6 _ _ ha) (e6 _ _ hat) (by intro z; cases z))]; exact e6 _ _ ha, by rw [upd_ne nl]; exact e6 _ _ hl, nl, hs⟩
      · rw [List.mem_singleton.1 hx']
        refine ⟨T1, L1, _, rfl, by rw [upd_ne (ne_of upd_same (e6 _ _ hat) (by intro z; cases z))]; exact upd_same, by rw [upd_ne LD]; exact e5 _ _ gL, LD, ?_⟩
        exact one_le (by decide)
    obtain ⟨eC, hvC⟩ := h
    have hgl : got.length = 7 := hg.trans (by decide)
    have hBC := hB10.ext eC
    have edh0 : Ex (del b H10) (del b HC) := ex_dd (ex_del.trans eC)
    have dD : del b HC D = some (.lst got) := by rw [del_ne Db]; exact hat
    obtain ⟨tsg, hPg, lPg, zPg⟩ := tagT_tabE (K := K) hBC hvC
    walk_at "w"
    refine ⟨b, 8, _, rfl, hBC, by omega, by decide, by decide, fun z8 HT y0 y1 hBT eT => ?_⟩
    have edh1 : Ex (del b HC) (del b HT) := ex_dd eT
    obtain ⟨z9, rfl, hz9⟩ : ∃ z9 : Nat, z8 = (z9 : Int) ∧ z9 < 8 := ⟨z8.toNat, by omega, by omega⟩
    walk_at "w"
    refine w_slQ (SqL.of (ex_del _ _ (edh1 _ _ dD))) fun mo hmo => ?_
    rw [cut_takeN]
    have nbmo : mo ≠ b := (hBT.ne_none hmo).symm
    have Bh2 := hBT.new (o := .lst (got.take z9)) hmo
    have edh2 : Ex (del b HT) (del b (upd HT mo (.lst (got.take z9)))) := ex_dd (ex_del.trans (Ex.new hmo))
    have dh2 : del b (upd HT mo (.lst (got.take z9))) mo = some (.lst (got.take z9)) := by rw [del_ne nbmo]; exact upd_same
    generalize (upd HT mo (.lst (got.take z9))) = Hh2 at Bh2 edh2 dh2 ⊢
    walk_at "w"
    refine w_cat (ex_del _ _ ((edh0.trans (edh1.trans edh2)) _ _ dqA)) (ex_del _ _ dh2) (Nat.le_trans (m := 1000) (by simp only [List.length_append, List.length_take, List.length_drop, List.length_cons, List.length_nil]; omega) (by decide)) fun N1 hN1 => ?_
    have nbN1 : N1 ≠ b := (Bh2.ne_none hN1).symm
    have Bh3 := Bh2.new (o := .lst (xs ++ got.take z9)) hN1
    have edh3 : Ex (del b Hh2) (del b (upd Hh2 N1 (.lst (xs ++ got.take z9)))) := ex_dd (ex_del.trans (Ex.new hN1))
    have dh3 : del b (upd Hh2 N1 (.lst (xs ++ got.take z9))) N1 = some (.lst (xs ++ got.take z9)) := by rw [del_ne nbN1]; exact upd_same
    generalize (upd Hh2 N1 (.lst (xs ++ got.take z9))) = Hh3 at Bh3 edh3 dh3 ⊢
    walk_at "w"
    refine w_slQ (SqL.of (ex_del _ _ ((edh0.trans (edh1.trans (edh2.trans edh3))) _ _ dqA))) fun M1 hM1 => ?_
    rw [cut_takeN]
    have nbM1 : M1 ≠ b := (Bh3.ne_none hM1).symm
    have Bh4 := Bh3.new (o := .lst (xs.take j)) hM1
    have edh4 : Ex (del b Hh3) (del b (upd Hh3 M1 (.lst (xs.take j)))) := ex_dd (ex_del.trans (Ex.new hM1))
    have dh4 : del b (upd Hh3 M1 (.lst (xs.take j))) M1 = some (.lst (xs.take j)) := by rw [del_ne nbM1]; exact upd_same
    generalize (upd Hh3 M1 (.lst (xs.take j))) = Hh4 at Bh4 edh4 dh4 ⊢
    walk_at "w"
    refine w_slQ (SqL.of (ex_del _ _ ((edh0.trans (edh1.trans (edh2.trans (edh3.trans edh4)))) _ _ dqA))) fun M4 hM4 => ?_
    rw [show ((j : Int) + 1) = ((j + 1 : Nat) : Int) by omega, cut_dropN]
    have nbM4 : M4 ≠ b := (Bh4.ne_none hM4).symm
    have Bh5 := Bh4.new (o := .lst (xs.drop (j + 1))) hM4
    have edh5 : Ex (del b Hh4) (del b (upd Hh4 M4 (.lst (xs.drop (j + 1))))) := ex_dd (ex_del.trans (Ex.new hM4))
    have dh5 : del b (upd Hh4 M4 (.lst (xs.drop (j + 1)))) M4 = some (.lst (xs.drop (j + 1))) := by rw [del_ne nbM4]; exact upd_same
    generalize (upd Hh4 M4 (.lst (xs.drop (j + 1)))) = Hh5 at Bh5 edh5 dh5 ⊢
    walk_at "w"
    refine w_cat (ex_del _ _ (edh5 _ _ dh4)) (ex_del _ _ dh5) (Nat.le_trans (m := 1000) (by simp only [List.length_append, List.length_take, List.length_drop, List.length_cons, List.length_nil]; omega) (by decide)) fun N2 hN2 => ?_
    have nbN2 : N2 ≠ b := (Bh5.ne_none hN2).symm
    have Bh6 := Bh5.new (o := .lst (xs.take j ++ xs.drop (j + 1))) hN2
    have edh6 : Ex (del b Hh5) (del b (upd Hh5 N2 (.lst (xs.take j ++ xs.drop (j + 1))))) := ex_dd (ex_del.trans (Ex.new hN2))
    have dh6 : del b (upd Hh5 N2 (.lst (xs.take j ++ xs.drop (j + 1)))) N2 = some (.lst (xs.take j ++ xs.drop (j + 1))) := by rw [del_ne nbN2]; exact upd_same
    generalize (upd Hh5 N2 (.lst (xs.take j ++ xs.drop (j + 1)))) = Hh6 at Bh6 edh6 dh6 ⊢
    walk_at "w"
    refine ⟨.ref q, rfl, q, xs, rfl, SqL.of (ex_del _ _ ((edh0.trans (edh1.trans (edh2.trans (edh3.trans (edh4.trans (edh5.trans edh6)))))) _ _ dqA)), fun N3 hN3 => ?_⟩
    have nbN3 : N3 ≠ b := (Bh6.ne_none hN3).symm
    have Bh7 := Bh6.new (o := .lst xs.reverse) hN3
    have edh7 : Ex (del b Hh6) (del b (upd Hh6 N3 (.lst xs.reverse))) := ex_dd (ex_del.trans (Ex.new hN3))
    have dh7 : del b (upd Hh6 N3 (.lst xs.reverse)) N3 = some (.lst xs.reverse) := by rw [del_ne nbN3]; exact upd_same
    generalize (upd Hh6 N3 (.lst xs.reverse)) = Hh7 at Bh7 edh7 dh7 ⊢
    walk_at "w"
    intro N4 hN4
    have nbN4 : N4 ≠ b := (Bh7.ne_none hN4).symm
    have Bh8 := Bh7.new (o := .lst []) hN4
    have edh8 : Ex (del b Hh7) (del b (upd Hh7 N4 (.lst []))) := ex_dd (ex_del.trans (Ex.new hN4))
    have dh8 : del b (upd Hh7 N4 (.lst [])) N4 = some (.lst []) := by rw [del_ne nbN4]; exact upd_same
    generalize (upd Hh7 N4 (.lst [])) = Hh8 at Bh8 edh8 dh8 ⊢
    walk_at "w"
    intro N5 hN5
    have nbN5 : N5 ≠ b := (Bh8.ne_none hN5).symm
    have Bh9 := Bh8.new (o := .lst [.ref N1, .ref N2, .ref N3, .ref N4]) hN5
    have edh9 : Ex (del b Hh8) (del b (upd Hh8 N5 (.lst [.ref N1, .ref N2, .ref N3, .ref N4]))) := ex_dd (ex_del.trans (Ex.new hN5))
    have dh9 : del b (upd Hh8 N5 (.lst [.ref N1, .ref N2, .ref N3, .ref N4])) N5 = some (.lst [.ref N1, .ref N2, .ref N3, .ref N4]) := by rw [del_ne nbN5]; exact upd_same
    generalize (upd Hh8 N5 (.lst [.ref N1, .ref N2, .ref N3, .ref N4])) = Hh9 at Bh9 edh9 dh9 ⊢
    walk_at "w"
    refine ⟨b, N5, [.ref N1, .ref N2, .ref N3, .ref N4], _, rfl, Bh9, by omega, SqL.of dh9, by simp, by simp, fun v HO hv1 hBO eO => ?_⟩
    have edh10 : Ex (del b Hh9) (del b HO) := ex_dd eO
    have eZ := (edh0.trans (edh1.trans (edh2.trans (edh3.trans (edh4.trans (edh5.trans (edh6.trans (edh7.trans (edh8.trans (edh9.trans edh10))))))))))
    have eC1 := (edh1.trans (edh2.trans (edh3.trans (edh4.trans (edh5.trans (edh6.trans (edh7.trans (edh8.trans (edh9.trans edh10)))))))))
    have xZ : Paired (TabE K (del b HO)) xs tabs := paired_imp (fun _ _ h => h.ext (edA.trans eZ)) hx5
    have ex9 : Ex (del b H) HO := (ex_dd exA).trans (eZ.trans ex_del)
    simp only [List.mem_cons, List.not_mem_nil, or_false] at hv1
    rcases hv1 with rfl | rfl | rfl | rfl
    · refine k N1 HO _ (tabs ++ tsg.take z9) ((edh4.trans (edh5.trans (edh6.trans (edh7.trans (edh8.trans (edh9.trans edh10)))))) _ _ dh3) (paired_app xZ (paired_imp (fun _ _ h => h.ext eC1) (paired_takeN hPg))) (by rw [List.length_append, List.length_take]; omega) (fun x hx' => ?_) (hBO.mono (by omega)) ex9
      rcases List.mem_append.1 hx' with h | h
      · exact Nat.le_trans (lc x h) (by omega)
      · rw [zPg x (List.mem_of_mem_take h)]; simp
    · exact k N2 HO _ (tabs.take j ++ tabs.drop (j + 1)) ((edh7.trans (edh8.trans (edh9.trans edh10))) _ _ dh6) (paired_app (paired_imp (fun _ _ h => h.ext eZ) pdA) (paired_imp (fun _ _ h => h.ext eZ) prA)) (by rw [List.length_append]; omega) (fun x hx' => Nat.le_trans (lcA x hx') (by omega)) (hBO.mono (by omega)) ex9
    · exact k N3 HO _ tabs.reverse ((edh8.trans (edh9.trans edh10)) _ _ dh7) (paired_rev xZ) (by rw [List.length_reverse]; omega) (fun x hx' => Nat.le_trans (lc x (List.mem_reverse.mp hx')) (by omega)) (hBO.mono (by omega)) ex9
    · exact k N4 HO _ [] ((edh9.trans edh10) _ _ dh8) .nil (by simp) (fun _ h => absurd h List.not_mem_nil) (hBO.mono (by omega)) ex9
end
end LP
namespace LP
open PySem L2
open Evl (Ex)
def spLaw2 (K : PySem.W.Frag) : Sp := fun vs H Q _ => ∃ (p : Addr) (is : List Int), vs = [.ref p] ∧ SqL K H p (is.map V.int) ∧ is.length ≤ 1000 ∧ ∀ H', Q (.bl true) H'
def dI : Option (Int × Int) → PyData
  | none => .none
  | some (k, i) => .tuple [.int k, .int i]
theorem DueI.dp {K : PySem.W.Frag} {H : Hp} {v : V} {o : Option (Int × Int)} (h : DueI H v o) : Dp K H v (dI o) := by
  cases o with
  | none =>
    have h : v = .non := h
    subst h
    exact .non
  | some p =>
    obtain ⟨k, i⟩ := p
    obtain ⟨T, rfl, hT⟩ := h
    exact .tup (SqT.of hT) (.cons (.int k) (.cons (.int i) .nil))
theorem DueI.ext {H H' : Hp} (e : Ex H H') {v : V} {o : Option (Int × Int)} (h : DueI H v o) : DueI H' v o := by
  cases o with
  | none => exact h
  | some p =>
    obtain ⟨k, i⟩ := p
    obtain ⟨T, rfl, hT⟩ := h
    exact ⟨T, rfl, e _ _ hT⟩
theorem dI_eqv (o : Option (Int × Int)) : PyData.eqv (dI o) (dI o) = true := by
  cases o with
  | none => rfl
  | some p => obtain ⟨k, i⟩ := p; simp [dI, PyData.eqv, PyData.eqvAll]
theorem dI_shaped (o : Option (Int × Int)) : SeqAt.shaped (dI o) = true := by
  cases o with
  | none => rfl
  | some p => obtain ⟨k, i⟩ := p; simp [dI, SeqAt.shaped, PyData.canLay0, PyData.canLayAll0, PyData.depth, PyData.depthAll]
theorem good_szs {ts : Tabs} (g : GoodTabs ts) : ∀ t ∈ ts, ∀ c ∈ t.2, ∀ y ∈ c.ds, ∀ x, y = .str x → x.length ≤ 4000 := by
  intro t ht c hc y hy x e
  obtain ⟨td, tr, ets⟩ := List.append_of_mem ht
  obtain ⟨g0, _, _, g3⟩ := g.split td t tr ets
  have n1 := (g3.nm c hc).short
  have kl : ∀ k ∈ (["flag", "number", "word", "link"] : List Str), k.length ≤ 4000 := by decide +kernel
  subst e
  cases c with
  | plain f n =>
    have n1 : n.length ≤ 8 := n1
    simp only [Col.ds, List.mem_cons, List.not_mem_nil, or_false, PyData.str.injEq] at hy
    rcases hy with rfl | rfl
    · cases f
      · exact kl _ (by simp)
      · exact kl _ (by simp)
    · omega
  | word n o =>
    have n1 : n.length ≤ 8 := n1
    simp only [Col.ds, List.mem_cons, List.not_mem_nil, or_false, PyData.str.injEq, reduceCtorEq] at hy
    rcases hy with rfl | rfl
    · exact kl _ (by simp)
    · omega
  | link n tg o l =>
    have n1 : n.length ≤ 8 := n1
    have n2 : tg.length ≤ 8 := by
      obtain ⟨t', ht', e'⟩ := List.mem_map.mp (g3.tg _ hc rfl)
      have e' : t'.1 = tg := e'
      rw [← e']
      exact (g0.names _ ht').short
    cases l with
    | none =>
      simp only [Col.ds, dOpt, List.mem_cons, List.not_mem_nil, or_false, PyData.str.injEq, reduceCtorEq] at hy
      rcases hy with rfl | rfl | rfl
      · exact kl _ (by simp)
      · omega
      · omega
    | some z =>
      have n3 : z.length ≤ 8 := (g3.ls _ hc z rfl).short
      simp only [Col.ds, dOpt, List.mem_cons, List.not_mem_nil, or_false, false_or, PyData.str.injEq, reduceCtorEq] at hy
      rcases hy with rfl | rfl | rfl | rfl
      · exact kl _ (by simp)
      · omega
      · omega
      · omega
theorem good_tabsE {K : PySem.W.Frag} {H : Hp} {ts0 : Tabs} (g : GoodTabs ts0) {xs : List V} (h : TabsV H xs ts0) : Paired (TabE K H) xs (ts0.map fun t => (PyData.str t.1, t.2.map Col.data)) := by
  have key : ∀ {xs : List V} {ts : Tabs}, Paired (TabAt H) xs ts → (∀ t ∈ ts, t ∈ ts0) → Paired (TabE K H) xs (ts.map fun t => (PyData.str t.1, t.2.map Col.data)) := fun {xs ts} h => by
    induction h with
    | nil => exact fun _ => .nil
    | @cons v t xs ts h _ ih =>
      intro hin
      have ht := hin t List.mem_cons_self
      exact .cons (good_tabE h (Nat.le_trans (g.names t ht).short (by decide)) (good_szs g t ht)) (ih fun t h => hin t (List.mem_cons_of_mem _ h))
  exact key h fun _ h => h
/-- a table of the copy: its tuple and its list are new -/
def TabG (K : PySem.W.Frag) (H0 : Hp) (D : Addr) (H' : Hp) (v : V) (x : PyData × List PyData) : Prop := ∃ (a cl : Addr) (cvs : List V) (nv : V), v = .ref a ∧ H' a = some (.tup [nv, .ref cl]) ∧ Dp K H0 nv x.1 ∧ (∀ y, x.1 = .str y → y.length ≤ 4000) ∧ H' cl = some (.lst cvs) ∧ cl ≠ D ∧ Paired (ColD K H0) cvs x.2
section
variable {K : PySem.W.Frag} {H0 H' : Hp} {D : Addr} {v : V} {x : PyData × List PyData}
theorem TabG.ext {H2 : Hp} (e : Ex H' H2) (h : TabG K H0 D H' v x) : TabG K H0 D H2 v x := by
  obtain ⟨a, cl, cvs, nv, ev, ha, hd, hs, hq, hn, hc⟩ := h
  exact ⟨a, cl, cvs, nv, ev, e _ _ ha, hd, hs, e _ _ hq, hn, hc⟩
theorem TabG.put {xs : List V} {o : HO} (hD : H' D = some (.lst xs)) (h : TabG K H0 D H' v x) : TabG K H0 D (upd H' D o) v x := by
  obtain ⟨a, cl, cvs, nv, ev, ha, hd, hs, hq, hn, hc⟩ := h
  exact ⟨a, cl, cvs, nv, ev, by rw [upd_ne (ne_of ha hD (by intro z; cases z))]; exact ha, hd, hs, by rw [upd_ne hn]; exact hq, hn, hc⟩
theorem TabG.tab (e : Ex H0 H') (h : TabG K H0 D H' v x) : TabD K H' v x := by
  obtain ⟨a, cl, cvs, nv, ev, ha, hd, hs, hq, hn, hc⟩ := h
  exact ⟨a, cl, cvs, nv, ev, SqT.of ha, dp_ext e hd, hs, SqL.of hq, paired_imp (fun _ _ h => h.ext e) hc⟩
end
section
variable {base : Heap} {mg : Str → Option Value} {K : PySem.W.Frag} {w : World} {P : Program}
theorem ok_law2 {f : Addr} {fd : FuncData} (DL : C8.Def K mg "law" s_law f fd) (B : Blt mg)
    (c__law_start : C8.Cal P w K mg base 1 "_law_start" (spStart K) []) (c__law_of : C8.Cal P w K mg base 2 "_law_of" (spOf K) []) (c__law_draw_tables : C8.Cal P w K mg base 6 "_law_draw_tables" (spDrawTables K) [])
    (c__law_what_is_due : C8.Cal P w K mg base 5 "_law_what_is_due" (spDueG K) []) (c__law_what_comes : C8.Cal P w K mg base 9 "_law_what_comes" (spComesG K) []) (c__law_spoilt : C8.Cal P w K mg base 5 "_law_spoilt" (spSpoilt K) []) (c__law_odd_name : C8.Cal P w K mg base 3 "_law_odd_name" (spOdd K) []) :
    FnOk P w K mg base C8.CX0 10 f fd ["script"] (spLaw2 K) := by
  have sc : FnScope ["script", "at", "bag", "turn", "tables", "user", "plain", "one", "spoil", "given"] ["script"] (C8.fnScope s_law) := C8.fnScope_by (by decide +kernel)
  refine C8.fn0 DL.fn sc (fun vs H Q E h => ?_) (fun cdv A outer s H vs Q E hr h => ?_)
  · obtain ⟨_, _, rfl, _⟩ := h
    rfl
  · obtain ⟨p, is, rfl, hp, hn, k⟩ := h
    refine ⟨_, (pss_cons (ps_for PassesOwn.never rfl (pi_range1 (by rfl) B.range_ (pa_cons (pe_callB (call_max2' rfl) (by rfl) B.max_ (by decide +kernel) (pa_cons pe_int (pa_cons (pe_callB (call_min2' rfl) (by rfl) B.min_ (by decide +kernel) (pa_cons pe_int (pa_cons (pe_callB (call_len_seqK (K := K) rfl) (by rfl) B.len_ (by decide +kernel) (pa_cons (pv 0) pa_nil)) pa_nil))) pa_nil))) pa_nil)) (pg_name (i := 1) sc.nd rfl (Or.inl rfl))
        (pss_cons (ps_set (i := 2) sc.nd rfl (Or.inl rfl) (C8.pe_c c__law_start hr (by decide) rfl (pa_cons (pv 0) (pa_cons (pv 1) pa_nil))))
        (pss_one (ps_for PassesOwn.never rfl (pi_range1 (by rfl) B.range_ (pa_cons pe_int pa_nil)) (pg_name (i := 3) sc.nd rfl (Or.inl rfl))
        (pss_cons (ps_set (i := 4) sc.nd rfl (Or.inl rfl) (C8.pe_c c__law_draw_tables hr (by decide) rfl (pa_cons (pv 2) (pa_cons pe_int (pa_cons (C8.pe_c c__law_of hr (by decide) rfl (pa_cons (pv 2) (pa_cons (pe_lst (pa_cons pe_int (pa_cons pe_int (pa_cons pe_int pa_nil)))) pa_nil))) pa_nil)))))
        (pss_cons (ps_par (i := 5) (j := 6) (by rfl) sc.nd rfl rfl (by decide) rfl rfl (pa_cons (C8.pe_c c__law_of hr (by decide) rfl (pa_cons (pv 2) (pa_cons (pe_lc (own := [("one", 7)]) (g := (gName 7)) (by rfl) sc.nd (pi_listK (K := K) rfl (pv 4)) (blkOk_by (own := [("one", 7)]) (N := ["script", "at", "bag", "turn", "tables", "user", "plain", "one", "spoil", "given"]) (sc := C8.fnScope s_law) (by decide +kernel)) (fun _ _ _ _ _ => (pg_name (i := 7) sc.nd rfl (Or.inl rfl))) (fun _ _ _ _ _ => pts_nil) (fun _ _ _ _ _ => (pe_ix (ix_tupK (K := K) rfl) (pv 7) pe_int (fun _ _ => rfl)))) pa_nil))) (pa_cons (pe_callTy (call_list_ofK (K := K) rfl) (by rfl) B.list_ (by decide +kernel) (pa_cons (pv 4) pa_nil)) pa_nil)) (by rfl))
        (pss_cons (ps_for PassesOwn.never rfl (pi_range1 (by rfl) B.range_ (pa_cons (C8.pe_c c__law_of hr (by decide) rfl (pa_cons (pv 2) (pa_cons (pe_lst (pa_cons pe_int (pa_cons pe_int (pa_cons pe_int (pa_cons pe_int (pa_cons pe_int (pa_cons pe_int pa_nil))))))) pa_nil))) pa_nil)) (pg_name (i := 8) sc.nd rfl (Or.inl rfl))
        (pss_one (ps_set (i := 4) sc.nd rfl (Or.inl rfl) (C8.pe_c c__law_spoilt hr (by decide) rfl (pa_cons (pv 2) (pa_cons (pv 4) pa_nil))))))
        (pss_cons (ps_set (i := 5) sc.nd rfl (Or.inl rfl) (C8.pe_c c__law_of hr (by decide) rfl (pa_cons (pv 2) (pa_cons (pe_op op_cat ((pe_op op_rep (pe_lst (pa_cons (pv 5) pa_nil)) pe_int)) (pe_lst (pa_cons (C8.pe_c c__law_odd_name hr (by decide) rfl (pa_cons (pv 2) pa_nil)) (pa_cons (pe_slice sl_str (pv 5) (po_some pe_int) po_none) (pa_cons (pe_tup (pa_cons (pv 5) pa_nil)) pa_nil))))) pa_nil))))
        (pss_cons (ps_setLc (i := 9) (own := [("one", 7)]) (g := (gName 7)) (by rfl) sc.nd rfl rfl (sw_true rfl rfl rfl (by decide +kernel)) (pi_listK (K := K) rfl (pv 4)) (blkOk_by (own := [("one", 7)]) (N := ["script", "at", "bag", "turn", "tables", "user", "plain", "one", "spoil", "given"]) (sc := C8.fnScope s_law) (by decide +kernel)) (fun _ _ _ _ _ => (pg_name (i := 7) sc.nd rfl (Or.inl rfl))) (fun _ _ _ _ _ => pts_nil) (fun _ _ _ _ _ => (pe_tup (pa_cons (pe_ix (ix_tupK (K := K) rfl) (pv 7) pe_int (fun _ _ => rfl)) (pa_cons (pe_callTy (call_list_ofK (K := K) rfl) (by rfl) B.list_ (by decide +kernel) (pa_cons (pe_ix (ix_tupK (K := K) rfl) (pv 7) pe_int (fun _ _ => rfl)) pa_nil)) pa_nil)))))
        (pss_cons (ps_if (pt_cmpR (op_neDK (K := K) rfl (hu64 hr)) (C8.pe_c c__law_what_comes hr (by decide) rfl (pa_cons (pv 5) (pa_cons (pv 9) pa_nil))) (C8.pe_c c__law_what_is_due hr (by decide) rfl (pa_cons (pv 5) (pa_cons (pv 4) pa_nil))) (nomark _))
        (pss_one (ps_ret pe_bl))
        pss_nil)
        (pss_one (ps_if (pt_cmpR op_notN' (C8.pe_c c__law_what_comes hr (by decide) rfl (pa_cons (pe_ix (ix_tupK (K := K) rfl) (pe_ix (ix_listK (K := K) rfl) (pv 6) pe_int (fun _ _ => rfl)) pe_int (fun _ _ => rfl)) (pa_cons (pv 6) pa_nil))) pe_non (nomark _))
        (pss_one (ps_ret pe_bl))
        pss_nil))))))))))))
        (pss_one
                (ps_ret pe_bl))), ?_⟩
    walk_at "w"
    generalize hN : ((if (if ((is.map V.int).length : Int) < 4 then ((is.map V.int).length : Int) else 4) > 1 then (if ((is.map V.int).length : Int) < 4 then ((is.map V.int).length : Int) else 4) else 1) : Int).toNat = N4
    have hN4 : N4 ≤ 4 := by
      rw [← hN]
      split <;> split <;> omega
    refine loopR (fun i σ' H' => ∃ x1 x2 x3 x4 x5 x6 x7 x8 x9, σ' = [some (.ref p), x1, x2, x3, x4, x5, x6, x7, x8, x9] ∧ Ex H H') ⟨_, _, _, _, _, _, _, _, _, rfl, Ex.refl _⟩ (fun i σ' HA hi h => ?_) (fun σ' H' h => ?_)
    · obtain ⟨x1, x2, x3, x4, x5, x6, x7, x8, x9, rfl, n0⟩ := h
      have hp1 : SqL K HA p (is.map V.int) := Evl.ex_l n0 hp
      walk_at "w"
      refine ⟨p, is, i, rfl, hp1, hn, by omega, fun b H1 hb0 hB1 e1 => ?_⟩
      walk_at "w"
      refine loopR (fun j σ' H' => ∃ x3 x4 x5 x6 x7 x8 x9, σ' = [some (.ref p), some (.int (i : Int)), some (.ref b), x3, x4, x5, x6, x7, x8, x9] ∧ BagAt H' b (3000 * j) ∧ Ex HA H') ⟨_, _, _, _, _, _, _, rfl, hB1, e1⟩ (fun j σ' HB hj h => ?_) (fun σ' H' h => ?_)
      · obtain ⟨x3, x4, x5, x6, x7, x8, x9, rfl, hBB, eAB⟩ := h
        have eAd : ∀ {H' : Hp}, Ex (del b HB) H' → Ex HA H' := fun e a o h => e _ _ (by rw [del_ne (ne_of_none h hb0)]; exact eAB _ _ h)
        walk_at "w"
        intro pa hpa
        have pab : pa ≠ b := (hBB.ne_none hpa).symm
        have hB1 := hBB.new (o := .lst [.int 2, .int 4, .int 6]) hpa
        have eB1 : Ex (del b HB) (upd HB pa (.lst [.int 2, .int 4, .int 6])) := ex_del.trans (Ex.new hpa)
        walk_at "w"
        refine ⟨b, pa, [.int 2, .int 4, .int 6], _, rfl, hB1, by omega, SqL.of (by rw [del_ne pab]; exact upd_same), by simp, by decide, fun v H2 hv hB2 e2 => ?_⟩
        obtain ⟨z, rfl, z1, z6⟩ : ∃ z : Int, v = .int z ∧ 1 ≤ z ∧ z ≤ 6 := by
          simp only [List.mem_cons, List.not_mem_nil, or_false] at hv
          rcases hv with rfl | rfl | rfl <;> exact ⟨_, rfl, by decide, by decide⟩
        have eB2 : Ex (del b HB) H2 := (ex_dd eB1).trans e2
        clear hB1 eB1 e2
        walk_at "w"
        refine ⟨b, _, _, _, rfl, hB2, by omega, by omega, by omega, by omega, fun q0 H3 ts0 hT0 hG0 l0 m0 hB3 e3 => ?_⟩
        have eB3 : Ex (del b HB) H3 := (ex_dd eB2).trans e3
        have ts3 : TabsAt H3 q0 ts0 := hT0.ext ex_del
        obtain ⟨tvs, hq3, htv3⟩ := id ts3
        have lv := paired_len htv3
        walk_at "w"
        intro D0 hD0
        refine compQ ts0 (TabAt H3) (fun t => some t.1) (fun v x => v = V.str x) hD0 (SqL.of hq3) (by omega) htv3 (fun y t hy hm H4 e4 kk kn hk hkn => ?_) (fun acc H4 e4 hacc hp4 => ?_)
        · obtain ⟨a, pc, rfl, ha, _⟩ := hy
          have ha4 := e4 _ _ ha
          walk_at "w"
          exact hk _ _ _ (Ex.refl _) rfl rfl
        have ev : acc = (ts0.map (·.1)).map V.str := by
          have z := vals_strs hp4
          rw [filterMap_some] at z
          exact z
        have Db : D0 ≠ b := (hB3.ne_none hD0).symm
        have hB4 := hB3.ext e4
        walk_at "w"
        refine ⟨b, D0, acc, _, rfl, hB4, by omega, SqL.of (by rw [del_ne Db]; exact hacc), (fun z => by rw [z] at ev; have := congrArg List.length ev; simp at this; omega), by rw [ev, List.length_map, List.length_map]; omega, fun v H5 hv hB5 e5 => ?_⟩
        obtain ⟨u, hu, rfl⟩ : ∃ u, u ∈ ts0.map (·.1) ∧ v = V.str u := by
          rw [ev] at hv
          obtain ⟨u, h, e⟩ := List.mem_map.mp hv
          exact ⟨u, h, e.symm⟩
        have d35 : Ex (del b H3) (del b H5) := (ex_dd (ex_del.trans e4)).trans (ex_dd e5)
        have T5 : TabsAt (del b H5) q0 ts0 := hT0.ext d35
        obtain ⟨tvs0, hq5, htv5⟩ := id T5
        have lv5 := paired_len htv5
        have hq5' := ex_del _ _ hq5
        have ul : u.length ≤ 8 := by
          obtain ⟨t, ht, rfl⟩ := List.mem_map.mp hu
          exact (hG0.names t ht).short
        walk_at "w"
        refine w_listL (SqL.of hq5') fun L0 hL0 => ?_
        have L0b : L0 ≠ b := (hB5.ne_none hL0).symm
        have hB6 := hB5.new (o := .lst tvs0) hL0
        have e6 : Ex H5 (upd H5 L0 (.lst tvs0)) := Ex.new hL0
        have gL0 : del b (upd H5 L0 (.lst tvs0)) L0 = some (.lst tvs0) := by rw [del_ne L0b]; exact upd_same
        change tNil _ (upd H5 L0 (.lst tvs0)) _
        generalize (upd H5 L0 (.lst tvs0)) = H6 at hB6 e6 gL0 ⊢
        have d56 : Ex (del b H5) (del b H6) := ex_dd (ex_del.trans e6)
        have eB6 : Ex (del b HB) H6 := ((ex_dd eB3).trans (d35.trans d56)).trans ex_del
        have htv6 : TabsV (del b H6) tvs0 ts0 := TabsV.ext d56 htv5
        have hq6 := d56 _ _ hq5
        obtain ⟨ds0, eds0⟩ : ∃ ds0, ds0 = ts0.map fun t : Str × List Col => (PyData.str t.1, t.2.map Col.data) := ⟨_, rfl⟩
        have P0 : Paired (TabE K (del b H6)) tvs0 ds0 := by rw [eds0]; exact good_tabsE hG0 htv6
        have len0 : ds0.length = ts0.length := by rw [eds0, List.length_map]
        have col0 : ∀ x ∈ ds0, x.2.length ≤ 6 := fun x hx => by
          rw [eds0] at hx
          obtain ⟨t, ht, rfl⟩ := List.mem_map.mp hx
          show (t.2.map Col.data).length ≤ 6
          rw [List.length_map]
          exact hG0.cols t ht
        clear hT0 hB2 hB3 hB4 hB5 hq3 htv3 ts3 e3 e4 e5 eB2 eB3 T5 hacc hp4 hq5 hq5' htv5 d35 d56 e6
        walk_at "w"
        intro pb hpb
        have pbb : pb ≠ b := (hB6.ne_none hpb).symm
        have hB7 := hB6.new (o := .lst [.int 0, .int 1, .int 1, .int 1, .int 2, .int 3]) hpb
        have d67 : Ex (del b H6) (del b (upd H6 pb (.lst [.int 0, .int 1, .int 1, .int 1, .int 2, .int 3]))) := ex_dd (ex_del.trans (Ex.new hpb))
        walk_at "w"
        refine ⟨b, pb, [.int 0, .int 1, .int 1, .int 1, .int 2, .int 3], _, rfl, hB7, by omega, SqL.of (by rw [del_ne pbb]; exact upd_same), by simp, by decide, fun v H8 hv hB8 e8 => ?_⟩
        obtain ⟨z, rfl, z0, z3⟩ : ∃ z : Int, v = .int z ∧ 0 ≤ z ∧ z ≤ 3 := by
          simp only [List.mem_cons, List.not_mem_nil, or_false] at hv; rcases hv with rfl | rfl | rfl | rfl | rfl | rfl
          · exact ⟨0, rfl, by decide, by decide⟩
          · exact ⟨1, rfl, by decide, by decide⟩
          · exact ⟨1, rfl, by decide, by decide⟩
          · exact ⟨1, rfl, by decide, by decide⟩
          · exact ⟨2, rfl, by decide, by decide⟩
          · exact ⟨3, rfl, by decide, by decide⟩
        have d68 : Ex (del b H6) (del b H8) := d67.trans (ex_dd e8)
        clear hB7 d67 e8
        walk_at "w"
        generalize hZ : z.toNat = Z
        have hZ3 : Z ≤ 3 := by omega
        refine loopR (fun m σ' H' => ∃ x8 q xs ds, σ' = [some (.ref p), some (.int (i : Int)), some (.ref b), some (.int (j : Int)), some (.ref q), some (.str u), some (.ref L0), x7, x8, x9] ∧ del b H' q = some (.lst xs) ∧ Paired (TabE K (del b H')) xs ds ∧ ds.length ≤ 6 + 8 * m ∧ (∀ x ∈ ds, x.2.length ≤ 6 + 8 * m) ∧ BagAt H' b (3000 * j + 2003 + 200 * m) ∧ Ex (del b H6) (del b H'))
          ⟨_, q0, tvs0, ds0, rfl, d68 _ _ hq6, paired_imp (fun _ _ h => h.ext d68) P0, by omega, fun x hx => Nat.le_trans (col0 x hx) (by omega), hB8.mono (by omega), d68⟩ (fun m σ' H9 hm h => ?_) (fun σ' H9 h => ?_)
        · obtain ⟨x8, q, xs, ds, rfl, hq9, P9, l9, c9, hB9, d69⟩ := h
          walk_at "w"
          refine ⟨b, q, _, 6 + 8 * m, xs, ds, rfl, hB9, by omega, hq9, P9, l9, c9, by omega, fun q' H10 xs' ds' hq10 P10 l10 c10 hB10 e10 => ?_⟩
          walk_at "w"
          exact ⟨_, q', xs', ds', rfl, hq10, P10, by omega, fun x hx => Nat.le_trans (c10 x hx) (by omega), hB10.mono (by omega), d69.trans (ex_dd e10)⟩
        obtain ⟨x8, q, xs, ds, rfl, hq9, P9, l9, c9, hB9, d69⟩ := h
        have l9 : ds.length ≤ 30 := by omega
        have c9 : ∀ x ∈ ds, x.2.length ≤ 30 := fun x hx => Nat.le_trans (c9 x hx) (by omega)
        have hB9 : BagAt H9 b (3000 * j + 2603) := hB9.mono (by omega)
        clear d68 hB8 hB6 z0
        walk_at "w"
        intro p1 hn1
        have p1b : p1 ≠ b := (hB9.ne_none hn1).symm
        have hB10 := hB9.new (o := .lst [.str u]) hn1
        have d10 : Ex (del b H9) (del b (upd H9 p1 (.lst [.str u]))) := ex_dd (ex_del.trans (Ex.new hn1))
        have g10 : (upd H9 p1 (.lst [.str u])) p1 = some (.lst [.str u]) := upd_same
        generalize (upd H9 p1 (.lst [.str u])) = H10 at hB10 d10 g10 ⊢
        walk_at "w"
        refine ⟨p1, 7, [.str u], rfl, rfl, g10, by decide, by decide, Nat.le_trans (m := 1000) (show 1 * 7 ≤ 1000 by decide) (by decide), fun p2 hn2 => ?_⟩
        have eR : (List.replicate (7 : Int).toNat [V.str u]).flatten = [.str u, .str u, .str u, .str u, .str u, .str u, .str u] := rfl
        rw [eR]
        obtain ⟨u7, e7⟩ : ∃ u7, u7 = [V.str u, .str u, .str u, .str u, .str u, .str u, .str u] := ⟨_, rfl⟩
        rw [← e7]
        have p2b : p2 ≠ b := (hB10.ne_none hn2).symm
        have hB11 := hB10.new (o := .lst u7) hn2
        have d11 : Ex (del b H10) (del b (upd H10 p2 (.lst u7))) := ex_dd (ex_del.trans (Ex.new hn2))
        have g11 : del b (upd H10 p2 (.lst u7)) p2 = some (.lst u7) := by rw [del_ne p2b]; exact upd_same
        generalize (upd H10 p2 (.lst u7)) = H11 at hB11 d11 g11 ⊢
        walk_at "w"
        refine ⟨b, _, rfl, hB11, by omega, fun ov od H12 hod ook hB12 e12 => ?_⟩
        have d12 : Ex (del b H11) (del b H12) := ex_dd e12
        have g12 := d12 _ _ g11
        walk_at "w"
        intro pt hpt
        have ptb : pt ≠ b := (hB12.ne_none hpt).symm
        have hB13 := hB12.new (o := .tup [.str u]) hpt
        have d13 : Ex (del b H12) (del b (upd H12 pt (.tup [.str u]))) := ex_dd (ex_del.trans (Ex.new hpt))
        have g13 : del b (upd H12 pt (.tup [.str u])) pt = some (.tup [.str u]) := by rw [del_ne ptb]; exact upd_same
        generalize (upd H12 pt (.tup [.str u])) = H13 at hB13 d13 g13 ⊢
        walk_at "w"
        intro pl hpl
        have plb : pl ≠ b := (hB13.ne_none hpl).symm
        generalize eT : ([ov, .str (cutS u (some 1) none), .ref pt] : List V) = tl3 at *
        have hB14 := hB13.new (o := .lst tl3) hpl
        have d14 : Ex (del b H13) (del b (upd H13 pl (.lst tl3))) := ex_dd (ex_del.trans (Ex.new hpl))
        have g14 : del b (upd H13 pl (.lst tl3)) pl = some (.lst tl3) := by rw [del_ne plb]; exact upd_same
        generalize (upd H13 pl (.lst tl3)) = H14 at hB14 d14 g14 ⊢
        have l7 : u7.length = 7 := by rw [e7]; rfl
        have l3 : tl3.length = 3 := by rw [← eT]; rfl
        refine w_cat (ex_del _ _ ((d13.trans d14) _ _ g12)) (ex_del _ _ g14) (Nat.le_trans (m := 1000) (by omega) (by decide)) fun pk hpk => ?_
        have pkb : pk ≠ b := (hB14.ne_none hpk).symm
        have hB15 := hB14.new (o := .lst (u7 ++ tl3)) hpk
        have d15 : Ex (del b H14) (del b (upd H14 pk (.lst (u7 ++ tl3)))) := ex_dd (ex_del.trans (Ex.new hpk))
        have g15 : del b (upd H14 pk (.lst (u7 ++ tl3))) pk = some (.lst (u7 ++ tl3)) := by rw [del_ne pkb]; exact upd_same
        generalize (upd H14 pk (.lst (u7 ++ tl3))) = H15 at hB15 d15 g15 ⊢
        walk_at "w"
        refine ⟨b, pk, _, _, rfl, hB15, by omega, SqL.of g15, (fun z => by have := congrArg List.length z; rw [List.length_append, l7, l3] at this; exact absurd this (by decide)), by rw [List.length_append]; omega, fun uv H16 hv hB16 e16 => ?_⟩
        have d16 : Ex (del b H15) (del b H16) := ex_dd e16
        obtain ⟨ud, hud⟩ : ∃ ud, Dp K (del b H16) uv ud := by
          rcases List.mem_append.1 hv with hv | hv
          · rw [e7] at hv
            have e : uv = .str u := by
              simp only [List.mem_cons, List.not_mem_nil, or_false, or_self] at hv
              exact hv
            rw [e]
            exact ⟨_, .str u⟩
          · rw [← eT] at hv
            simp only [List.mem_cons, List.not_mem_nil, or_false] at hv
            rcases hv with rfl | rfl | rfl
            · exact ⟨od, dp_ext (d13.trans (d14.trans (d15.trans d16))) hod⟩
            · exact ⟨_, .str _⟩
            · exact ⟨_, .tup (SqT.of ((d14.trans (d15.trans d16)) _ _ g13)) (.cons (.str u) .nil)⟩
        have d9 : Ex (del b H9) (del b H16) := d10.trans (d11.trans (d12.trans (d13.trans (d14.trans (d15.trans d16)))))
        have hqz := ex_del _ _ (d9 _ _ hq9)
        have Pz : Paired (TabE K H16) xs ds := paired_imp (fun _ _ h => h.ext (d9.trans ex_del)) P9
        have hLz := ex_del _ _ ((d69.trans d9) _ _ gL0)
        have P0z : Paired (TabE K H16) tvs0 ds0 := paired_imp (fun _ _ h => h.ext ((d69.trans d9).trans ex_del)) P0
        have T0z : TabsV H16 tvs0 ts0 := TabsV.ext ((d69.trans d9).trans ex_del) htv6
        have hudz := dp_ext ex_del hud
        have eBz : Ex (del b HB) H16 := (ex_dd eB6).trans ((d69.trans d9).trans ex_del)
        clear hB9 hB10 hB11 hB12 hB13 hB14 hB15 d10 d11 d12 d13 d14 d15 d16 g10 g11 g12 g13 g14 g15 eR e7 eT hod ook e12 e16 hv hud d69 d9 hq9 P9 P0 htv6 gL0 hq6 hn1 hn2 hpt hpl hpk
        have lx := paired_len Pz
        have l0x := paired_len P0z
        walk_at "w"
        intro M hM
        have Mb : M ≠ b := (hB16.ne_none hM).symm
        refine compL (xs := xs) (fun d r got H' => Ex H16 H' ∧ ∃ md mr, ds = md ++ mr ∧ Paired (TabE K H16) r mr ∧ Paired (TabG K H16 M H') got md) (by omega) ⟨Ex.new hM, [], ds, rfl, Pz, .nil⟩ (fun d r got H' _ h => SqL.of (h.1 _ _ hqz)) (fun d y r got H17 hd hat hgl h kk kn hk hkn => ?_) (fun gvs H17 hatM hgl h => ?_)
        · obtain ⟨e17, md, mr, ed, hr1, hgot⟩ := h
          obtain ⟨x, mr1, emr, hx, hr2⟩ := paired_cons hr1
          subst emr
          obtain ⟨a, cq, cvs, nv, rfl, ha, hnv, hns, hcq, hcs⟩ := hx
          have ha17 := e17 _ _ ha
          have hcq17 := e17 _ _ hcq
          walk_at "w"
          refine w_listL (SqL.of hcq17) fun cl hcl => ?_
          have clM : cl ≠ M := (ne_of_none hat hcl).symm
          have e18 : Ex H17 (upd H17 cl (.lst cvs)) := Ex.new hcl
          have g18 : (upd H17 cl (.lst cvs)) cl = some (.lst cvs) := upd_same
          generalize (upd H17 cl (.lst cvs)) = H18 at e18 g18 ⊢
          walk_at "w"
          intro T hT
          have e19 : Ex H18 (upd H18 T (.tup [nv, .ref cl])) := Ex.new hT
          have g19 : (upd H18 T (.tup [nv, .ref cl])) T = some (.tup [nv, .ref cl]) := upd_same
          generalize (upd H18 T (.tup [nv, .ref cl])) = H19 at e19 g19 ⊢
          have hat19 := e19 _ _ (e18 _ _ hat)
          refine hk _ _ hat19 ⟨(e17.trans (e18.trans e19)).mut hM, md ++ [x], mr1, by rw [ed, List.append_assoc]; rfl, hr2, ?_⟩
          exact paired_app (paired_imp (fun _ _ h => (h.ext (e18.trans e19)).put hat19) hgot) (.cons (TabG.put hat19 ⟨T, cl, cvs, nv, rfl, g19, hnv, hns, e19 _ _ g18, clM, hcs⟩) .nil)
        obtain ⟨e17, md, mr, ed, hr1, hgot⟩ := h
        cases hr1
        rw [List.append_nil] at ed
        subst ed
        have hB17 := hB16.ext e17
        have G17 : Paired (TabD K H17) gvs ds := paired_imp (fun _ _ h => h.tab e17) hgot
        have P17 : Paired (TabE K H17) xs ds := paired_imp (fun _ _ h => h.ext e17) Pz
        have hud17 := dp_ext e17 hudz
        have hq17 := e17 _ _ hqz
        walk_at "w"
        refine ⟨uv, ud, M, gvs, ds, rfl, SqL.of hatM, G17, by omega, fun x hx => Nat.le_trans (c9 x hx) (by omega), hud17, fun v1 H18 e18 hv1 => ?_⟩
        walk_at "w"
        refine ⟨uv, ud, q, xs, ds, rfl, SqL.of (e18 _ _ hq17), paired_imp (fun _ _ h => h.ext e18) P17, by omega, fun x hx => Nat.le_trans (c9 x hx) (by omega), dp_ext e18 hud17, fun v2 H19 e19 hv2 => ?_⟩
        walk_at "w"
        refine ⟨dI (initF ud ds), dI (initF ud ds), (hv1.ext e19).dp, hv2.dp, dI_shaped _, dI_shaped _, ?_⟩
        rw [dI_eqv]
        walk_at "w"
        have e69 := e17.trans (e18.trans e19)
        have hL19 := e69 _ _ hLz
        have T19 : TabsV H19 tvs0 ts0 := TabsV.ext e69 T0z
        have P19 : Paired (TabE K H19) tvs0 ds0 := paired_imp (fun _ _ h => h.ext e69) P0z
        have hB19 := hB16.ext e69
        have eB19 := eBz.trans e69
        have ti : ts0.length = tvs0.length := by omega
        cases tvs0 with
        | nil =>
          have : ts0.length = 0 := ti
          omega
        | cons v0 vr0 =>
        cases ts0 with
        | nil => cases ti
        | cons t0 tr0 =>
        obtain ⟨a0, pc0, ev0, ha0, hpc0⟩ : TabAt H19 v0 t0 := by
          cases T19 with
          | cons h _ => exact h
        subst ev0
        refine w_ixL (i := 0) (SqL.of hL19) (v := .ref a0) (atI_nat (j := 0) (xs := .ref a0 :: vr0) rfl) ?_
        walk_at "w"
        have hi : initF (.str t0.1) ds0 = none := by
          rw [eds0]
          exact initF_of hG0 (by omega) (by omega) (by rw [List.map_cons]; exact List.mem_cons_self)
        refine ⟨.str t0.1, .str t0.1, L0, _, ds0, rfl, SqL.of hL19, paired_imp (fun _ _ h => h.tab) P19, by omega, fun x hx => Nat.le_trans (col0 x hx) (by omega), .str _, fun v3 H20 e20 hv3 => ?_⟩
        rw [hi] at hv3
        have hv3 : v3 = .non := hv3
        subst hv3
        walk_at "w"
        refine iteND (fun h => absurd rfl h) (fun _ => ?_)
        walk_at "w"
        exact ⟨_, _, _, _, _, _, _, rfl, (hB19.ext e20).mono (by omega), eAd (eB19.trans e20)⟩
      · obtain ⟨x3, x4, x5, x6, x7, x8, x9, rfl, hBB, eAB⟩ := h
        walk_at "w"
        exact ⟨_, _, _, _, _, _, _, _, _, rfl, n0.trans eAB⟩
    · obtain ⟨x1, x2, x3, x4, x5, x6, x7, x8, x9, rfl, n0⟩ := h
      walk_at "w"
      exact k _
end
end LP
namespace LP
open PySem L2
open Evl (Ex)
/-- what is carried through a turn -/
structure Car (b qc : Addr) (cs : List Col) (cvs : List V) (H H' : Hp) : Prop where
  ex : Ex (del b H) H'
  hq : H' qc = some (.lst cvs)
  hc : ColsV (del b H') cvs cs
theorem Car.step {b qc : Addr} {cs : List Col} {cvs : List V} {H H' H'' : Hp} (ne : qc ≠ b) (c : Car b qc cs cvs H H') (e : Ex (del b H') H'') : Car b qc cs cvs H H'' :=
  ⟨ex_dtrans c.ex e, e _ _ (by rw [del_ne ne]; exact c.hq), c.hc.ext (ex_dd e)⟩
theorem Car.new {b qc : Addr} {cs : List Col} {cvs : List V} {H H' H'' : Hp} (ne : qc ≠ b) (c : Car b qc cs cvs H H') (e : Ex H' H'') : Car b qc cs cvs H H'' := c.step ne (ex_del.trans e)
def DCInv (b p qc : Addr) (most : Int) (ts : Tabs) (n : Nat) (H : Hp) (i : Nat) (σ' : L2.St) (H' : Hp) : Prop :=
  ∃ x4 x5 x6 x8 x9 x12 cvs cs, σ' = [some (.ref b), some (.ref p), some (.int most), some (.ref qc), x4, x5, x6, none, x8, x9, none, none, x12] ∧ BagAt H' b (n + 1 + 24 * i) ∧ Car b qc cs cvs H H' ∧ PreCols ts cs ∧ cs.length ≤ i
theorem DCInv.app {b p qc : Addr} {most : Int} {ts : Tabs} {n i m : Nat} {H H8 : Hp} {cs : List Col} {cvs : List V} {c : Col} {pt : Addr} {x4 x5 x6 x8 x9 x12 : Option V} (fqc : del b H qc = none) (ne : qc ≠ b) (hB : BagAt H8 b m) (hm : m ≤ n + 1 + 24 * (i + 1)) (car : Car b qc cs cvs H H8)
    (pre : PreCols ts (cs ++ [c])) (l : cs.length ≤ i) (hpt : H8 pt = none) :
    DCInv b p qc most ts n H (i + 1) [some (.ref b), some (.ref p), some (.int most), some (.ref qc), x4, x5, x6, none, x8, x9, none, none, x12] (upd (upd H8 pt (.tup c.vals)) qc (.lst (cvs ++ [.ref pt]))) := by
  have car2 := car.new ne (Ex.new (o := .tup c.vals) hpt)
  have hB2 := hB.new (o := .tup c.vals) hpt
  have hB3 : BagAt (upd (upd H8 pt (.tup c.vals)) qc (.lst (cvs ++ [.ref pt]))) b m := hB2.upd ne.symm
  refine ⟨x4, x5, x6, x8, x9, x12, cvs ++ [.ref pt], cs ++ [c], rfl, hB3.mono hm, ⟨car2.ex.mut fqc, upd_same, ?_⟩, pre, by rw [List.length_append]; show cs.length + 1 ≤ i + 1; omega⟩
  exact ColsV.del hB3 (paired_app (ColsV.upd car2.hq (car2.hc.ext ex_del)) (.cons (ColAt.upd car2.hq ⟨pt, rfl, upd_same⟩) .nil))
section
variable {base : Heap} {mg : Str → Option Value} {K : PySem.W.Frag} {w : World} {P : Program}
theorem ok_draw_columns {f : Addr} {fd : FuncData} (D : C8.Def K mg "_law_draw_columns" s__law_draw_columns f fd) (b : Binds K fd ["bag", "tables", "most"] []) (B : Blt mg)
    (c__law_take : C8.Cal P w K mg base 1 "_law_take" spTake []) (c__law_of : C8.Cal P w K mg base 2 "_law_of" (spOf K) []) (c__law_new_name : C8.Cal P w K mg base 3 "_law_new_name" (spNewName K) [])
    (c__law_names_taken : C8.Cal P w K mg base 2 "_law_names_taken" (spNamesTaken K) []) (c__law_allowed : C8.Cal P w K mg base 4 "_law_allowed" (spAllowed K) []) :
    C8.Cal P w K mg base 5 "_law_draw_columns" (spDrawColumns K) [] := by
  have sc : FnScope ["bag", "tables", "most", "columns", "turn", "name", "road", "column", "may_lack_v", "target", "table", "others", "listed"] ["bag", "tables", "most"] (C8.fnScope s__law_draw_columns) := C8.fnScope_by (by decide +kernel)
  refine C8.cal0 D b .nil sc (fun vs H Q E h => ?_) (fun cdv A outer s H vs Q E hr h => ?_)
  · obtain ⟨_, _, _, _, _, rfl, _⟩ := h
    rfl
  · obtain ⟨b, p, ts, most, n, rfl, hB, hn, hT, hG, hl, hm0, hm1, k⟩ := h
    refine ⟨_, (pss_cons (ps_set (i := 3) sc.nd rfl (Or.inl rfl) (pe_lst pa_nil))
        (pss_cons (ps_for PassesOwn.never rfl (pi_range1 (by rfl) B.range_ (pa_cons (C8.pe_c c__law_take hr (by decide) rfl (pa_cons (pv 0) (pa_cons (pe_op op_add (pv 2) pe_int) pa_nil))) pa_nil)) (pg_name (i := 4) sc.nd rfl (Or.inl rfl))
        (pss_cons (ps_par (i := 5) (j := 6) (by rfl) sc.nd rfl rfl (by decide) rfl rfl (pa_cons (C8.pe_c c__law_new_name hr (by decide) rfl (pa_cons (pv 0) (pa_cons (pe_lc (own := [("column", 7)]) (g := (gName 7)) (by rfl) sc.nd (pi_listK (K := K) rfl (pv 3)) (blkOk_by (own := [("column", 7)]) (N := ["bag", "tables", "most", "columns", "turn", "name", "road", "column", "may_lack_v", "target", "table", "others", "listed"]) (sc := C8.fnScope s__law_draw_columns) (by decide +kernel)) (fun _ _ _ _ _ => (pg_name (i := 7) sc.nd rfl (Or.inl rfl))) (fun _ _ _ _ _ => pts_nil) (fun _ _ _ _ _ => (pe_ix (ix_tupK (K := K) rfl) (pv 7) pe_int (fun _ _ => rfl)))) pa_nil))) (pa_cons (C8.pe_c c__law_take hr (by decide) rfl (pa_cons (pv 0) (pa_cons pe_int pa_nil))) pa_nil)) (by rfl))
        (pss_cons (ps_set (i := 8) sc.nd rfl (Or.inl rfl) (pe_cmpR op_eq (C8.pe_c c__law_take hr (by decide) rfl (pa_cons (pv 0) (pa_cons pe_int pa_nil))) pe_int (nomark _)))
        (pss_one (ps_if (pt_cmpR op_lt (pv 6) pe_int (nomark _))
        (pss_one (ps_expr (pe_bmK (K := K) rfl PySem.F.plainAttrs_list PySem.F.slot_list_append PySem.F.type_list_append mt_append (pv 3) (pa_cons (pe_tup (pa_cons (C8.pe_c c__law_of hr (by decide) rfl (pa_cons (pv 0) (pa_cons (pe_lst (pa_cons pe_str (pa_cons pe_str pa_nil))) pa_nil))) (pa_cons (pv 5) pa_nil))) pa_nil))))
        (pss_one (ps_if (PW.pt (pw_or (pt_cmpR op_eq (pv 6) pe_int (nomark _)) (pw_or1 (pt_cmpR (op_eqDK (K := K) rfl (hu64 hr)) (pv 1) (pe_lst pa_nil) (nomark _)))))
        (pss_one (ps_expr (pe_bmK (K := K) rfl PySem.F.plainAttrs_list PySem.F.slot_list_append PySem.F.type_list_append mt_append (pv 3) (pa_cons (pe_tup (pa_cons pe_str (pa_cons (pv 5) (pa_cons (pv 8) pa_nil)))) pa_nil))))
        (pss_cons (ps_set (i := 9) sc.nd rfl (Or.inl rfl) (C8.pe_c c__law_of hr (by decide) rfl (pa_cons (pv 0) (pa_cons (pe_lc (own := [("table", 10), ("others", 11)]) (by rfl) sc.nd (pi_listK (K := K) rfl (pv 1)) (blkOk_by (own := [("table", 10), ("others", 11)]) (N := ["bag", "tables", "most", "columns", "turn", "name", "road", "column", "may_lack_v", "target", "table", "others", "listed"]) (sc := C8.fnScope s__law_draw_columns) (by decide +kernel)) (fun _ _ _ _ _ => (pg_tupK (K := K) (n := 2) rfl rfl (pgs_cons (pg_name (i := 10) sc.nd rfl (Or.inl rfl)) (pgs_cons (pg_name (i := 11) sc.nd rfl (Or.inl rfl)) pgs_nil)))) (fun _ _ _ _ _ => pts_nil) (fun _ _ _ _ _ => (pv 10))) pa_nil))))
        (pss_cons (ps_set (i := 12) sc.nd rfl (Or.inl rfl) (pe_ifExp (pt_cmpR op_gt (C8.pe_c c__law_take hr (by decide) rfl (pa_cons (pv 0) (pa_cons pe_int pa_nil))) pe_int (nomark _)) (C8.pe_c c__law_new_name hr (by decide) rfl (pa_cons (pv 0) (pa_cons (C8.pe_c c__law_names_taken hr (by decide) rfl (pa_cons (pv 1) (pa_cons (pv 3) (pa_cons (pv 9) pa_nil)))) pa_nil))) pe_non))
        (pss_one (ps_expr (pe_bmK (K := K) rfl PySem.F.plainAttrs_list PySem.F.slot_list_append PySem.F.type_list_append mt_append (pv 3) (pa_cons (pe_tup (pa_cons pe_str (pa_cons (pv 5) (pa_cons (pv 9) (pa_cons (pv 8) (pa_cons (pv 12) pa_nil)))))) pa_nil)))))))))))))
        (pss_one (ps_ret (C8.pe_c c__law_allowed hr (by decide) rfl (pa_cons (pv 1) (pa_cons (pv 3) pa_nil))))))), ?_⟩
    walk_at "w"
    intro qc hqc
    have bqc := hB.ne_none hqc
    walk_at "w"
    refine ⟨b, most + 1, n, rfl, hB.upd bqc, by omega, by omega, by omega, fun z H1 z0 z1 hB1 e1 => ?_⟩
    walk_at "w"
    have fqc : del b H qc = none := by rw [del_ne bqc.symm]; exact hqc
    have qcb : qc ≠ b := bqc.symm
    have ex1 : Ex (del b H) H1 := (ex_dd (ex_new_d hqc)).trans e1
    have hqc1 : H1 qc = some (.lst []) := e1 _ _ (by rw [del_ne qcb]; exact upd_same)
    refine loopR (DCInv b p qc most ts n H) ⟨_, _, _, _, _, _, [], [], rfl, hB1, ⟨ex1, hqc1, .nil⟩, PreCols.nil ts, Nat.le_refl _⟩ (fun i σ' H2 hi h => ?_) (fun σ' H2 h => ?_)
    · obtain ⟨x4, x5, x6, x8, x9, x12, cvs, cs, rfl, hB2, car2, pre, lcs⟩ := h
      have lcv := paired_len car2.hc
      have hq2 := car2.hq
      walk_at "w"
      intro D hD
      refine compQ cs (ColAt H2) (fun c => some (some c.name)) (fun v x => v = vOpt x) hD (SqL.of hq2) (by omega) (car2.hc.ext ex_del) (fun y c hy hm H3 e3 kk kn hk hn => ?_) (fun acc H3 e3 hacc hp => ?_)
      · obtain ⟨a, rfl, ha⟩ := hy
        have ha3 := e3 _ _ ha
        walk_at "w"
        refine w_ixT (SqT.of ha3) c.at1 ?_
        exact hk _ _ _ (Ex.refl _) rfl rfl
      · rw [filterMap_some] at hp
        have ev := vals_opts hp
        have Db : D ≠ b := (hB2.ne_none hD).symm
        have car3 := car2.new qcb e3
        walk_at "w"
        refine ⟨b, D, cs.map (fun c => some c.name), n + 1 + 24 * i, rfl, hB2.ext e3, by omega, SqL.of (by rw [del_ne Db, ← ev]; exact hacc), by rw [List.length_map]; omega, fun nw H4 hnw hfr hB4 e4 => ?_⟩
        have hfr' : nw ∉ cs.map Col.name := fun h => hfr (by obtain ⟨c, hc, rfl⟩ := List.mem_map.mp h; exact List.mem_map.mpr ⟨c, hc, rfl⟩)
        have car4 := car3.step qcb e4
        walk_at "w"
        refine ⟨b, 7, _, rfl, hB4, by omega, by decide, by decide, fun road H5 r0 r1 hB5 e5 => ?_⟩
        have car5 := car4.step qcb e5
        walk_at "w"
        refine ⟨b, 2, _, rfl, hB5, by omega, by decide, by decide, fun lk H6 k0 k1 hB6 e6 => ?_⟩
        have car6 := car5.step qcb e6
        have hq6 := car6.hq
        walk_at "w"
        generalize decide (V.int lk = V.int 1) = may
        refine iteD (fun h1 => ?_) (fun h1 => ?_)
        · walk_at "w"
          intro pl hpl
          have car7 := car6.new qcb (Ex.new (o := .lst [.str "flag", .str "number"]) hpl)
          have plb : pl ≠ b := (hB6.ne_none hpl).symm
          walk_at "w"
          refine ⟨b, pl, [.str "flag", .str "number"], _, rfl, hB6.new hpl, by omega, SqL.of (by rw [del_ne plb]; exact upd_same), by simp, by simp, fun v H8 hv hB8 e8 => ?_⟩
          have car8 := car7.step qcb e8
          obtain ⟨fl, rfl⟩ : ∃ fl : Bool, v = .str (if fl then "flag" else "number") := by
            rcases List.mem_cons.1 hv with rfl | hv
            · exact ⟨true, rfl⟩
            · rw [List.mem_singleton.1 hv]
              exact ⟨false, rfl⟩
          walk_at "w"
          intro pt hpt
          walk_at "w"
          have hq9 := (car8.new qcb (Ex.new (o := .tup (Col.plain fl nw).vals) hpt)).hq
          refine w_app hq9 (Nat.lt_of_lt_of_le (m := 1000) (by omega) (by decide)) ?_
          exact DCInv.app (c := .plain fl nw) fqc qcb hB8 (by omega) car8 (pre.snoc hnw hfr' (fun h => nomatch h) (fun l h => nomatch h)) lcs hpt
        · walk_at "w"
          have word : ∀ {H7 : Hp} {pt : Addr}, Ex H6 H7 → H7 pt = none → DCInv b p qc most ts n H (i + 1) [some (.ref b), some (.ref p), some (.int most), some (.ref qc), some (.int (i : Int)), some (.str nw), some (.int road), none, some (.bl may), x9, none, none, x12] (upd (upd H7 pt (.tup (Col.word nw may).vals)) qc (.lst (cvs ++ [.ref pt]))) := fun e7 hpt =>
            DCInv.app (c := .word nw may) fqc qcb (hB6.ext e7) (by omega) (car6.new qcb e7) (pre.snoc hnw hfr' (fun h => nomatch h) (fun l h => nomatch h)) lcs hpt
          refine iteD (fun h2 => ?_) (fun h2 => ?_)
          · walk_at "w"
            intro pt hpt
            walk_at "w"
            have hq9 := (car6.new qcb (Ex.new (o := .tup (Col.word nw may).vals) hpt)).hq
            refine w_app hq9 (Nat.lt_of_lt_of_le (m := 1000) (by omega) (by decide)) ?_
            exact word (Ex.refl _) hpt
          · walk_at "w"
            intro pn hpn
            have e67 : Ex H6 (upd H6 pn (.lst [])) := Ex.new hpn
            obtain ⟨tvs, hx, ht⟩ := (hT.ext (ex_dd (car6.new qcb e67).ex)).ext ex_del
            have hB7 := hB6.new (o := .lst []) hpn
            have car7 := car6.new qcb e67
            have hpn7 : (upd H6 pn (.lst [])) pn = some (.lst []) := upd_same
            generalize (upd H6 pn (.lst [])) = H7 at e67 hx ht hB7 car7 hpn7 ⊢
            refine ⟨.list (ts.map tData), .list [], .lst hx (TabsV.dp ht), .lst (SqL.of hpn7) .nil, shaped_tabs hG, shaped_nil, ?_⟩
            rw [eqv_tnil]
            have hq7 := car7.hq
            cases et : ts with
            | nil =>
              rw [List.isEmpty_nil]
              walk_at "w"
              intro pt hpt
              walk_at "w"
              have hq9 := (car7.new qcb (Ex.new (o := .tup (Col.word nw may).vals) hpt)).hq
              refine w_app hq9 (Nat.lt_of_lt_of_le (m := 1000) (by omega) (by decide)) ?_
              rw [← et]
              exact word e67 hpt
            | cons t0 tr =>
              rw [List.isEmpty_cons, ← et]
              walk_at "w"
              intro D9 hD9
              have hlt := paired_len ht
              refine compQ ts (TabAt H7) (fun t => some t.1) (fun v x => v = V.str x) hD9 hx (by omega) ht (fun y t hy hm H8 e8 kk kn hk hn => ?_) (fun acc9 H8 e8 hacc9 hp9 => ?_)
              · obtain ⟨a, pc, rfl, ha, _⟩ := hy
                have ha3 := e8 _ _ ha
                walk_at "w"
                exact hk _ _ _ (Ex.refl _) rfl rfl
              · rw [filterMap_some] at hp9
                have ev9 := vals_strs hp9
                have D9b : D9 ≠ b := (hB7.ne_none hD9).symm
                have car8 := car7.new qcb e8
                have hB8 := hB7.ext e8
                walk_at "w"
                refine ⟨b, D9, acc9, _, rfl, hB8, by omega, SqL.of (by rw [del_ne D9b]; exact hacc9), by rw [ev9, et]; simp, by rw [ev9, List.length_map, List.length_map]; omega, fun v H9 hv hB9 e9 => ?_⟩
                obtain ⟨tg, htg, rfl⟩ : ∃ tg, tg ∈ ts.map (·.1) ∧ v = V.str tg := by
                  rw [ev9] at hv
                  obtain ⟨tg, h, e⟩ := List.mem_map.mp hv
                  exact ⟨tg, h, e.symm⟩
                have car9 := car8.step qcb e9
                walk_at "w"
                refine ⟨b, 3, _, rfl, hB9, by omega, by decide, by decide, fun z3 H10 y0 y1 hB10 e10 => ?_⟩
                have car10 := car9.step qcb e10
                walk_at "w"
                refine iteD (fun h3 => ?_) (fun h3 => ?_)
                · walk_at "w"
                  refine ⟨p, qc, ts, cs, tg, rfl, (hT.ext (ex_dd car10.ex)).ext ex_del, hG.few (by omega), ⟨cvs, SqL.of car10.hq, car10.hc.ext ex_del⟩, by omega, fun q H11 hq e11 hq11 => ?_⟩
                  have qb : q ≠ b := (hB10.ne_none hq).symm
                  have car11 := car10.new qcb e11
                  have hB11 := hB10.ext e11
                  have tl := taken_len tg (ts := ts) (fun t ht => Nat.le_trans (hG.cols t ht) (by omega))
                  have tl2 := ll_len cs tg
                  walk_at "w"
                  refine ⟨b, q, namesTaken ts cs tg, _, rfl, hB11, by omega, SqL.of (by rw [del_ne qb]; exact hq11), by unfold namesTaken; rw [List.length_append]; omega, fun ln H12 hln hfr2 hB12 e12 => ?_⟩
                  have car12 := car11.step qcb e12
                  have hq12 := car12.hq
                  walk_at "w"
                  intro pt hpt
                  walk_at "w"
                  have hq13 := (car12.new qcb (Ex.new (o := .tup (Col.link nw tg may (some ln)).vals) hpt)).hq
                  refine w_app hq13 (Nat.lt_of_lt_of_le (m := 1000) (by omega) (by decide)) ?_
                  exact DCInv.app (c := .link nw tg may (some ln)) fqc qcb hB12 (by omega) car12 (pre.snoc hnw hfr' (fun _ => htg) (fun l h => by cases h; exact ⟨hln, hfr2⟩)) lcs hpt
                · have hq10 := car10.hq
                  walk_at "w"
                  intro pt hpt
                  walk_at "w"
                  have hq13 := (car10.new qcb (Ex.new (o := .tup (Col.link nw tg may none).vals) hpt)).hq
                  refine w_app hq13 (Nat.lt_of_lt_of_le (m := 1000) (by omega) (by decide)) ?_
                  exact DCInv.app (c := .link nw tg may none) fqc qcb hB10 (by omega) car10 (pre.snoc hnw hfr' (fun _ => htg) (fun l h => nomatch h)) lcs hpt
    · obtain ⟨x4, x5, x6, x8, x9, x12, cvs, cs, rfl, hB2, car2, pre, lcs⟩ := h
      walk_at "w"
      have hc2 : ColsAt H2 qc cs := ⟨cvs, car2.hq, car2.hc.ext ex_del⟩
      refine ⟨p, qc, ts, cs, rfl, hT.ext car2.ex, hG.few (by omega), hc2, by omega, pre.ok hG, fun q H3 e3 hq3 => ?_⟩
      have hB3 := hB2.ext e3
      have la := allowed_len ts cs
      exact k q H3 _ (hq3.del hB3) { toPreCols := pre.allowed, few := by omega, r6 := allowed_r6 hG pre } (hB3.mono (by omega)) (car2.ex.trans e3)
end
end LP
namespace LP
open PySem L2
open Evl (Ex)
theorem TabAt.dl {H : Hp} {b : Addr} {n : Nat} {v : V} {t : Str × List Col} (hB : BagAt H b n) (h : TabAt H v t) : TabAt (del b H) v t := by
  obtain ⟨a, p, ev, ha, hc⟩ := h
  exact ⟨a, p, ev, by rw [del_ne (hB.tup_ne ha)]; exact ha, hc.del hB⟩
theorem TabsV.dl {H : Hp} {b : Addr} {n : Nat} {vs : List V} {ts : Tabs} (hB : BagAt H b n) (h : TabsV H vs ts) : TabsV (del b H) vs ts := paired_imp (fun _ _ => TabAt.dl hB) h
theorem TabsV.refs {H : Hp} {vs : List V} {ts : Tabs} (h : TabsV H vs ts) : ∀ i j k : Int, vs ≠ [.int i, .int j, .int k] := by
  intro i j k e
  subst e
  cases h with
  | cons h _ =>
    obtain ⟨a, p, e, _⟩ := h
    cases e
theorem TabsAt.dl {H : Hp} {b q : Addr} {n : Nat} {ts : Tabs} (hB : BagAt H b n) (h : TabsAt H q ts) : TabsAt (del b H) q ts := by
  obtain ⟨vs, hq, hv⟩ := h
  exact ⟨vs, by rw [del_ne (hB.ne hq hv.refs)]; exact hq, hv.dl hB⟩
section
variable {base : Heap} {mg : Str → Option Value} {K : PySem.W.Frag} {w : World} {P : Program}
theorem ok_draw_tables {f : Addr} {fd : FuncData} (D : C8.Def K mg "_law_draw_tables" s__law_draw_tables f fd) (b : Binds K fd ["bag", "least", "most"] []) (B : Blt mg)
    (c__law_take : C8.Cal P w K mg base 1 "_law_take" spTake []) (c__law_of : C8.Cal P w K mg base 2 "_law_of" (spOf K) []) (c__law_new_name : C8.Cal P w K mg base 3 "_law_new_name" (spNewName K) [])
    (c__law_draw_columns : C8.Cal P w K mg base 5 "_law_draw_columns" (spDrawColumns K) []) :
    C8.Cal P w K mg base 6 "_law_draw_tables" (spDrawTables K) [] := by
  have sc : FnScope ["bag", "least", "most", "tables", "turn", "name", "table", "columns"] ["bag", "least", "most"] (C8.fnScope s__law_draw_tables) := C8.fnScope_by (by decide +kernel)
  refine C8.cal0 D b .nil sc (fun vs H Q E h => ?_) (fun cdv A outer s H vs Q E hr h => ?_)
  · obtain ⟨_, _, _, _, rfl, _⟩ := h
    rfl
  · obtain ⟨b, least, most, n, rfl, hB, hn, h1, h2, h3, k⟩ := h
    refine ⟨_, (pss_cons (ps_set (i := 3) sc.nd rfl (Or.inl rfl) (pe_lst pa_nil))
        (pss_cons (ps_for PassesOwn.never rfl (pi_range1 (by rfl) B.range_ (pa_cons (pe_op op_add (pv 1) (C8.pe_c c__law_take hr (by decide) rfl (pa_cons (pv 0) (pa_cons (pe_op op_sub (pe_op op_add (pv 2) pe_int) (pv 1)) pa_nil)))) pa_nil)) (pg_name (i := 4) sc.nd rfl (Or.inl rfl))
        (pss_cons (ps_set (i := 5) sc.nd rfl (Or.inl rfl) (C8.pe_c c__law_new_name hr (by decide) rfl (pa_cons (pv 0) (pa_cons (pe_lc (own := [("table", 6), ("columns", 7)]) (by rfl) sc.nd (pi_listK (K := K) rfl (pv 3)) (blkOk_by (own := [("table", 6), ("columns", 7)]) (N := ["bag", "least", "most", "tables", "turn", "name", "table", "columns"]) (sc := C8.fnScope s__law_draw_tables) (by decide +kernel)) (fun _ _ _ _ _ => (pg_tupK (K := K) (n := 2) rfl rfl (pgs_cons (pg_name (i := 6) sc.nd rfl (Or.inl rfl)) (pgs_cons (pg_name (i := 7) sc.nd rfl (Or.inl rfl)) pgs_nil)))) (fun _ _ _ _ _ => pts_nil) (fun _ _ _ _ _ => (pv 6))) pa_nil))))
        (pss_one (ps_set (i := 3) sc.nd rfl (Or.inl rfl) (pe_op op_cat (pv 3) (pe_lst (pa_cons (pe_tup (pa_cons (pv 5) (pa_cons (C8.pe_c c__law_draw_columns hr (by decide) rfl (pa_cons (pv 0) (pa_cons (pv 3) (pa_cons (C8.pe_c c__law_of hr (by decide) rfl (pa_cons (pv 0) (pa_cons (pe_lst (pa_cons pe_int (pa_cons pe_int (pa_cons pe_int (pa_cons pe_int pa_nil))))) pa_nil))) pa_nil)))) pa_nil))) pa_nil)))))))
        (pss_one (ps_ret (pv 3))))), ?_⟩
    walk_at "w"
    intro q0 hq0
    have hB0 := hB.new (o := .lst []) hq0
    walk_at "w"
    refine ⟨b, most + 1 - least, n, rfl, hB0, by omega, by omega, by omega, fun z H1 z0 z1 hB1 e1 => ?_⟩
    have ex1 : Ex (del b H) H1 := (ex_dd (ex_new_d hq0)).trans e1
    have q0b : q0 ≠ b := (hB.ne_none hq0).symm
    have hq1 : H1 q0 = some (.lst []) := e1 _ _ (by rw [del_ne q0b]; exact upd_same)
    walk_at "w"
    refine loopR (fun i σ' H' => ∃ x4 x5 q ts, σ' = [some (.ref b), some (.int least), some (.int most), some (.ref q), x4, x5, none, none] ∧ BagAt H' b (n + 1 + 300 * i) ∧ Ex (del b H) H' ∧ TabsAt (del b H') q ts ∧ GoodTabs ts ∧ ts.length = i)
      ⟨_, _, q0, [], rfl, hB1, ex1, ⟨[], by rw [del_ne q0b]; exact hq1, .nil⟩, .nil, rfl⟩ (fun i σ' H2 hi h => ?_) (fun σ' H2 h => ?_)
    · obtain ⟨x4, x5, q, ts, rfl, hB2, ex2, ⟨tvs, hq2, ht2⟩, hG, hl⟩ := h
      have hq2' : H2 q = some (.lst tvs) := ex_del _ _ hq2
      have ll := paired_len ht2
      walk_at "w"
      intro D hD
      refine compQ ts (TabAt H2) (fun t => some (some t.1)) (fun v x => v = vOpt x) hD (SqL.of hq2') (by omega) (ht2.ext ex_del) (fun y t hy hm H3 e3 kk kn hk hn => ?_) (fun acc H3 e3 hacc hp => ?_)
      · obtain ⟨a, pc, rfl, ha, _⟩ := hy
        have ha3 := e3 _ _ ha
        walk_at "w"
        exact hk _ _ _ (Ex.refl _) rfl rfl
      · rw [filterMap_some] at hp
        have ev := vals_opts hp
        have Db : D ≠ b := (hB2.ne_none hD).symm
        have hB3 := hB2.ext e3
        walk_at "w"
        refine ⟨b, D, ts.map (fun t => some t.1), _, rfl, hB3, by omega, SqL.of (by rw [del_ne Db, ← ev]; exact hacc), by rw [List.length_map]; omega, fun nw H4 hnw hfr hB4 e4 => ?_⟩
        have hfr' : nw ∉ ts.map (·.1) := fun h => hfr (by obtain ⟨t, ht, rfl⟩ := List.mem_map.mp h; exact List.mem_map.mpr ⟨t, ht, rfl⟩)
        walk_at "w"
        intro pl hpl
        have plb : pl ≠ b := (hB4.ne_none hpl).symm
        walk_at "w"
        refine ⟨b, pl, [.int 2, .int 3, .int 4, .int 6], _, rfl, hB4.new hpl, by omega, SqL.of (by rw [del_ne plb]; exact upd_same), by simp, by simp, fun v H5 hv hB5 e5 => ?_⟩
        obtain ⟨m, rfl, m0, m1⟩ : ∃ m : Int, v = .int m ∧ 0 ≤ m ∧ m ≤ 6 := by
          simp only [List.mem_cons, List.not_mem_nil, or_false] at hv
          rcases hv with rfl | rfl | rfl | rfl
          · exact ⟨2, rfl, by decide, by decide⟩
          · exact ⟨3, rfl, by decide, by decide⟩
          · exact ⟨4, rfl, by decide, by decide⟩
          · exact ⟨6, rfl, by decide, by decide⟩
        have e25 : Ex (del b H2) (del b H5) := ((ex_dd (ex_del.trans e3)).trans (ex_dd e4)).trans ((ex_dd (ex_new_d hpl)).trans (ex_dd e5))
        walk_at "w"
        refine ⟨b, q, ts, m, _, rfl, hB5, by omega, ⟨tvs, SqL.of (e25 _ _ hq2), ht2.ext e25⟩, hG, by omega, m0, m1, fun qc H6 cs hcs hgood hB6 e6 => ?_⟩
        have e26 : Ex (del b H2) (del b H6) := e25.trans (ex_dd e6)
        walk_at "w"
        intro pt hpt
        walk_at "w"
        intro p2 hp2
        walk_at "w"
        have e68 : Ex H6 (upd (upd H6 pt (.tup [.str nw, .ref qc])) p2 (.lst [.ref pt])) := (Ex.new hpt).trans (Ex.new hp2)
        have hpt8 : (upd (upd H6 pt (.tup [.str nw, .ref qc])) p2 (.lst [.ref pt])) pt = some (.tup [.str nw, .ref qc]) := (Ex.new hp2) _ _ upd_same
        have hp28 : (upd (upd H6 pt (.tup [.str nw, .ref qc])) p2 (.lst [.ref pt])) p2 = some (.lst [.ref pt]) := upd_same
        generalize (upd (upd H6 pt (.tup [.str nw, .ref qc])) p2 (.lst [.ref pt])) = H8 at e68 hpt8 hp28 ⊢
        refine w_cat (e68 _ _ (ex_del _ _ (e26 _ _ hq2))) hp28 (Nat.le_trans (m := 1000) (by rw [ll, List.length_cons, List.length_nil]; omega) (by decide)) fun q' hq' => ?_
        have hB9 := (hB6.ext e68).new (o := .lst (tvs ++ [.ref pt])) hq'
        have e89 : Ex H8 (upd H8 q' (.lst (tvs ++ [.ref pt]))) := Ex.new hq'
        have e69 : Ex H6 (upd H8 q' (.lst (tvs ++ [.ref pt]))) := e68.trans e89
        walk_at "w"
        refine ⟨_, _, q', ts ++ [(nw, cs)], rfl, hB9.mono (by omega), (((ex_dd ex2).trans e26).trans (ex_del.trans e69)), ?_, hG.snoc hnw hfr' hgood, by rw [List.length_append, hl]; rfl⟩
        · exact TabsAt.dl hB9 ⟨tvs ++ [.ref pt], upd_same, paired_app ((ht2.ext e26).ext (ex_del.trans e69)) (.cons ⟨pt, qc, rfl, e89 _ _ hpt8, (hcs.ext ex_del).ext e69⟩ .nil)⟩
    · obtain ⟨x4, x5, q, ts, rfl, hB2, ex2, ht2, hG, hl⟩ := h
      walk_at "w"
      exact k q H2 ts ht2 hG (by omega) (by omega) (hB2.mono (by omega)) ex2
end
end LP
namespace LP
open PySem L2
open Evl (Ex)
/-- what isinstance asks of the class -/
structure IsC (K : PySem.W.Frag) (C : Addr) : Prop where
  ca : PySem.W.findIn K
          (.ref C) "__class__" = some (some (.builtin "object.__class__"))
  cg : PySem.W.specialIn K (.builtin "object.__class__") "__get__" = some (some (.builtin "getset_descriptor.__get__"))
  ct : PySem.W.takesIn K
          (.builtin "object.__class__") = some true
  cm : PySem.W.mroIn K C
          (.type "object") = some true
  no : ∀ t ∈ ["NoneType", "int", "str", "list"], PySem.W.kitOne K (.type t) (.ref C) = some false
def spLen (C : Addr) : Sp := fun vs H Q _ => ∃ (p : Addr) (u : Str) (ts : Tabs), vs = [.ref p] ∧ SchAt C H p u ts ∧ Q (.int ts.length) H
/-- what stands beside a schema -/
inductive Odd (K : PySem.W.Frag) (H : Hp) : V → Prop where
  | non : Odd K H .non
  | int (i : Int) : Odd K H (.int i)
  | str (x : Str) : Odd K H (.str x)
  | lst {a : Addr} {xs : List V} (h : SqL K H a xs) : Odd K H (.ref a)
def spEqS (K : PySem.W.Frag) (C : Addr) : Sp := fun vs H Q _ => ∃ (p : Addr) (v : V) (u : Str) (ts : Tabs), vs = [.ref p, v] ∧ SchAt C H p u ts ∧ GoodTabs ts ∧ SOk u ∧
  ((∃ q u' ts', v = .ref q ∧ SchAt C H q u' ts' ∧ GoodTabs ts' ∧ SOk u' ∧ Q (.bl (decide (linesOf u ts = linesOf u' ts'))) H) ∨ (Odd K H v ∧ Q (.bl false) H))
def spStrS (C : Addr) : Sp := fun vs H Q _ => ∃ (p : Addr) (u : Str) (ts : Tabs), vs = [.ref p] ∧ SchAt C H p u ts ∧ GoodTabs ts ∧ ts.length ≤ 6 ∧ u.length ≤ 1000 ∧ ∀ z, Q (.str z) H
instance (x : Str) : Decidable (SOk x) := inferInstanceAs (Decidable (PyData.strOk x = true))
theorem sok_cat {x y : Str} (a : SOk x) (b : SOk y) : SOk (x ++ y) := by
  unfold SOk PyData.strOk at a b ⊢
  show (x.cps ++ y.cps).all _ = true
  rw [Array.all_append, a, b]
  rfl
theorem Col.sok_line {c : Col} (h : c.Ok) : SOk (colLine c) := by
  have e0 : SOk Str.empty := by decide +kernel
  have e1 : SOk (sz " ") := by decide +kernel
  have e2 : SOk (sz "?") := by decide +kernel
  have e3 : SOk (sz "") := by decide +kernel
  have e4 : SOk (sz " to ") := by decide +kernel
  have e5 : SOk (sz " as ") := by decide +kernel
  have ek : SOk c.kind := by
    cases c with
    | plain f n => cases f <;> exact (show SOk (_ : Str) by first | exact (by decide +kernel : SOk ("flag" : Str)) | exact (by decide +kernel : SOk ("number" : Str)))
    | word n o => exact (by decide +kernel : SOk ("word" : Str))
    | link n t o l => exact (by decide +kernel : SOk ("link" : Str))
  have en : SOk c.name := by
    cases c with
    | plain f n => exact h
    | word n o => exact h
    | link n t o l => exact h.1
  have em : ∀ b : Bool, SOk (if b = true then sz "?" else sz "") := fun b => by cases b <;> assumption
  have ea := sok_cat (sok_cat (sok_cat (sok_cat e0 ek) e1) en) (em c.opt)
  unfold colLine
  cases c with
  | plain f n => exact ea
  | word n o => exact ea
  | link n t o l =>
    have eb := sok_cat (sok_cat (sok_cat e0 ea) e4) h.2.1
    cases l with
    | none => exact eb
    | some x => exact sok_cat (sok_cat (sok_cat e0 eb) e5) (h.2.2 x rfl)
theorem lines_sok {u : Str} {ts : Tabs} (hu : SOk u) (g : GoodTabs ts) : ∀ x ∈ linesOf u ts, SOk x := by
  intro x hx
  unfold linesOf at hx
  rcases List.mem_cons.1 hx with rfl | hx
  · exact sok_cat (by decide +kernel) hu
  · obtain ⟨t, ht, hx⟩ := List.mem_flatMap.mp hx
    unfold tabLines at hx
    rcases List.mem_cons.1 hx with rfl | hx
    · exact sok_cat (by decide +kernel) (g.names t ht).ok
    · obtain ⟨c, hc, rfl⟩ := List.mem_map.mp hx
      exact Col.sok_line (g.oks t ht c hc)
theorem mark_le (b : Bool) : (if b = true then sz "?" else sz "").length ≤ 1 := by cases b <;> decide
theorem Col.line_len {c : Col} (h : c.Sz) : (colLine c).length ≤ 3100 := by
  have e0 : Str.empty.length = 0 := rfl
  have e1 : (sz " ").length = 1 := by decide
  have e4 : (sz " to ").length = 4 := by decide
  have e5 : (sz " as ").length = 4 := by decide
  have k := Col.kind_len c
  have m := mark_le c.opt
  have n := h.n
  have t := h.t
  unfold colLine
  cases c with
  | plain f x =>
    simp only [Col.isLink, Col.lst, len_cat, e0, e1, Bool.false_eq_true, if_false]
    omega
  | word x o =>
    simp only [Col.isLink, Col.lst, len_cat, e0, e1, Bool.false_eq_true, if_false]
    omega
  | link x y o l =>
    cases l with
    | none =>
      simp only [Col.isLink, Col.lst, len_cat, e0, e1, e4, if_true]
      omega
    | some z =>
      have z1 := h.l z rfl
      simp only [Col.isLink, Col.lst, len_cat, e0, e1, e4, e5, if_true]
      omega
theorem sum_le {α : Type} {f : α → Nat} {m : Nat} : ∀ {l : List α}, (∀ x ∈ l, f x ≤ m) → (l.map f).sum ≤ m * l.length
  | [], _ => Nat.zero_le _
  | x :: r, h => by
    have a := h x List.mem_cons_self
    have b := sum_le (l := r) fun y hy => h y (List.mem_cons_of_mem _ hy)
    rw [List.map_cons, List.sum_cons, List.length_cons, Nat.mul_succ]
    omega
theorem lines_size {u : Str} {ts : Tabs} (hu : u.length ≤ 1000) (g : GoodTabs ts) (l6 : ts.length ≤ 6) : ((linesOf u ts).map (·.length)).sum + (linesOf u ts).length * 1 ≤ 16777216 := by
  have sz6 := good_sz g
  have a : ∀ x ∈ linesOf u ts, x.length ≤ 3100 := fun x hx => by
    unfold linesOf at hx
    rcases List.mem_cons.1 hx with rfl | hx
    · simp only [len_cat, show Str.empty.length = 0 from rfl, show (sz "user ").length = 5 by decide]
      omega
    · obtain ⟨t, ht, hx⟩ := List.mem_flatMap.mp hx
      unfold tabLines at hx
      rcases List.mem_cons.1 hx with rfl | hx
      · have := (sz6 t ht).n
        simp only [len_cat, show Str.empty.length = 0 from rfl, show (sz "table ").length = 6 by decide]
        omega
      · obtain ⟨c, hc, rfl⟩ := List.mem_map.mp hx
        exact Col.line_len ((sz6 t ht).c c hc)
  have b := lines_len sz6
  have c : ((linesOf u ts).map fun x => x.length).sum ≤ 3100 * (linesOf u ts).length := sum_le a
  have c' : ((linesOf u ts).map Str.length).sum = ((linesOf u ts).map fun x => x.length).sum := rfl
  have d : (linesOf u ts).length = (ts.flatMap tabLines).length + 1 := by unfold linesOf; rw [List.length_cons]
  omega
theorem dp_strs {K : PySem.W.Frag} {H : Hp} : ∀ xs : List Str, DpAll K H (xs.map V.str) (xs.map PyData.str)
  | [] => .nil
  | x :: r => .cons (.str x) (dp_strs r)
theorem eqv_strs : ∀ xs ys : List Str, PyData.eqv (.list (xs.map PyData.str)) (.list (ys.map PyData.str)) = decide (xs = ys)
  | xs, ys => by
    have key : ∀ xs ys : List Str, PyData.eqvAll (xs.map PyData.str) (ys.map PyData.str) = decide (xs = ys) := fun xs => by
      induction xs with
      | nil => intro ys; cases ys <;> simp [PyData.eqvAll]
      | cons x r ih => intro ys; cases ys <;> simp [PyData.eqvAll, PyData.eqv, ih, bdec]
    simp only [PyData.eqv]
    exact key xs ys
theorem shaped_strs {xs : List Str} (h : ∀ x ∈ xs, SOk x) : SeqAt.shaped (.list (xs.map PyData.str)) = true := by
  have key : ∀ xs : List Str, (∀ x ∈ xs, SOk x) → PyData.canLayAll0 (xs.map PyData.str) = true ∧ PyData.depthAll (xs.map PyData.str) ≤ 1 := fun xs => by
    induction xs with
    | nil => exact fun _ => ⟨rfl, by show 0 ≤ 1; omega⟩
    | cons x r ih =>
      intro h
      obtain ⟨a, b⟩ := ih fun y hy => h y (List.mem_cons_of_mem _ hy)
      have c : PyData.strOk x = true := h x List.mem_cons_self
      rw [List.map_cons]
      refine ⟨by simp only [PyData.canLayAll0, PyData.canLay0, c, a, Bool.and_self], ?_⟩
      simp only [PyData.depthAll, PyData.depth]
      omega
  obtain ⟨a, b⟩ := key xs h
  unfold SeqAt.shaped
  rw [Bool.and_eq_true, decide_eq_true_eq]
  exact ⟨by simp only [PyData.canLay0]; exact a, by simp only [PyData.depth]; omega⟩
section
variable {base : Heap} {mg : Str → Option Value} {K : PySem.W.Frag} {w : World} {P : Program} {ra C : Addr}
theorem ok_len {f : Addr} {fd : FuncData} (S : SchC K C) (F : C8.Fun K "__len__" "Schema.__len__" s_Schema___len__ f fd) (B : Blt mg) : FnOk P w K mg base C8.CX0 1 f fd ["self"] (spLen C) := by
  have sc : FnScope ["self"] ["self"] (C8.fnScope s_Schema___len__) := C8.fnScope_by (by decide +kernel)
  refine C8.fn0 F sc (fun vs H Q E h => ?_) (fun cdv A outer s H vs Q E hr h => ?_)
  · obtain ⟨_, _, _, rfl, _⟩ := h
    rfl
  · obtain ⟨p, u, ts, rfl, hS, k⟩ := h
    obtain ⟨dc, dl, cvs, rs, dx, fs, tt, ll, hP, hm, hp, hf, hu, ht, htt, hl, hll⟩ := hS.ex
    refine ⟨_, (pss_one (ps_ret (pe_callB (call_len_seqK (K := K) rfl) (by rfl) B.len_ (by decide +kernel) (pa_cons (pe_fldK (K := K) rfl (pv 0) rfl) pa_nil)))), ?_⟩
    walk_at "w"
    refine w_kFld hp S.cls S.tables_ ht ?_
    walk_at "w"
    rw [List.length_map]
    exact k
theorem ok_eq {f : Addr} {fd : FuncData} (S : SchC K C) (I : IsC K C) (F : C8.Fun K "__eq__" "Schema.__eq__" s_Schema___eq__ f fd) (B : Blt mg) (T : Cns K mg ra C) : FnOk P w K mg base C8.CX0 2 f fd ["self", "other"] (spEqS K C) := by
  have sc : FnScope ["self", "other"] ["self", "other"] (C8.fnScope s_Schema___eq__) := C8.fnScope_by (by decide +kernel)
  refine C8.fn0 F sc (fun vs H Q E h => ?_) (fun cdv A outer s H vs Q E hr h => ?_)
  · obtain ⟨_, _, _, _, rfl, _⟩ := h
    rfl
  · obtain ⟨p, v, u, ts, rfl, hS, hG, su, k⟩ := h
    obtain ⟨dc, dl, cvs, rs, dx, fs, tt, ll, hP, hm, hp, hf, hu, ht, htt, hl, hll⟩ := hS.ex
    refine ⟨_, (pss_one (ps_ret (pe_and (pe_callB (call_isiK1 (K := K) rfl) (by rfl) B.isinstance_ (by decide +kernel) (pa_cons (pv 1) (pa_cons (C8.pe_gc rfl T.Schema_) pa_nil))) (pe_one (pe_cmpR (op_eqDK (K := K) rfl (hu64 hr)) (pe_fldK (K := K) rfl (pv 0) rfl) (pe_fldK (K := K) rfl (pv 1) rfl) (nomark _)))))), ?_⟩
    walk_at "w"
    rcases k with ⟨q, u', ts', rfl, hS', hG', su', k⟩ | ⟨od, k⟩
    · obtain ⟨dc', dl', cvs', rs', dx', fs', tt', ll', hP', hm', hp', hf', hu', ht', htt', hl', hll'⟩ := hS'.ex
      refine ⟨.ref q, .ref C, .ref C, .ref C, true, rfl, .own C, .base (.ins hp' S.cls I.ca I.cg I.ct I.cm), ?_, ⟨true, rfl, iteT ?_⟩⟩
      · exact if_pos (beq_self_eq_true _)
      walk_at "w"
      refine w_kFld hp S.cls S.lines_ hl ?_
      walk_at "w"
      refine w_kFld hp' S.cls S.lines_ hl' ?_
      refine ⟨_, _, .lst (SqL.of hll) (dp_strs _), .lst (SqL.of hll') (dp_strs _), shaped_strs (lines_sok su hG), shaped_strs (lines_sok su' hG'), ?_⟩
      rw [eqv_strs]
      exact k
    · have no : ∀ t ∈ ["NoneType", "int", "str", "list"], TyX K H v (.type t) → rIsi K [v, .ref C] H fun x H1 => ∃ c, x = V.bl c ∧ if c = true then tOp (rEqD K) (tFld K (tVar 0) (Str.ofString "_lines")) (tFld K (tVar 1) (Str.ofString "_lines")) (L2.start [Str.ofString "self", Str.ofString "other"] [V.ref p, v]) H1 Q else Q (.bl false) H1 := fun t ht ty =>
        ⟨v, .ref C, .type t, .ref C, false, rfl, .own C, ty, I.no t ht, ⟨false, rfl, iteF k⟩⟩
      cases od with
      | non => exact no "NoneType" (by decide) (.base .non)
      | int i => exact no "int" (by decide) (.base (.int i))
      | str x => exact no "str" (by decide) (.base (.str x))
      | lst hx =>
        refine no "list" (by decide) ?_
        rcases hx with (hx | ⟨o, hx⟩) | ⟨o, its, n, hx, hc, hr⟩
        · exact .base (.lst hx)
        · exact .base (.frz hx)
        · exact .kList hx hc
theorem ok_str {f : Addr} {fd : FuncData} (S : SchC K C) (F : C8.Fun K "__str__" "Schema.__str__" s_Schema___str__ f fd) (B : Blt mg) : FnOk P w K mg base C8.CX0 1 f fd ["self"] (spStrS C) := by
  have sc : FnScope ["self"] ["self"] (C8.fnScope s_Schema___str__) := C8.fnScope_by (by decide +kernel)
  refine C8.fn0 F sc (fun vs H Q E h => ?_) (fun cdv A outer s H vs Q E hr h => ?_)
  · obtain ⟨_, _, _, rfl, _⟩ := h
    rfl
  · obtain ⟨p, u, ts, rfl, hS, hG, l6, lu, k⟩ := h
    obtain ⟨dc, dl, cvs, rs, dx, fs, tt, ll, hP, hm, hp, hf, hu, ht, htt, hl, hll⟩ := hS.ex
    refine ⟨_, (pss_one (ps_ret (pe_joinK (K := K) rfl pe_str (pe_fldK (K := K) rfl (pv 0) rfl)))), ?_⟩
    walk_at "w"
    refine w_kFld hp S.cls S.lines_ hl ?_
    refine w_join (SqL.of hll) (by rw [show (Str.ofString "\n").length = 1 by decide]; exact lines_size lu hG l6) ?_
    exact k _
end
end LP
namespace LP
open PySem L2
open Evl (Ex)
theorem filterMap_some' {acc : List V} {ts : Tabs} (h : Paired (fun v x => v = V.str x) acc (ts.filterMap fun t => some t.1)) : acc = (ts.map (·.1)).map V.str := by
  have e : (ts.filterMap fun t => some t.1) = ts.map (·.1) := congrFun (List.filterMap_eq_map (f := fun t : Str × List Col => t.1)) ts
  rw [e] at h
  have key : ∀ {a : List V} {l : List Str}, Paired (fun v x => v = V.str x) a l → a = l.map V.str := fun {a l} h => by
    induction h with
    | nil => rfl
    | cons h _ ih => rw [h, ih]; rfl
  exact key h
theorem shaped_colT {cs : List Col} (h : ∀ c ∈ cs, c.Ok) : SeqAt.shaped (.tuple (cs.map Col.data)) = true := by
  have z := shapedL_cols h
  unfold SeqAt.shaped at z ⊢
  simp only [PyData.canLay0, PyData.depth] at z ⊢
  exact z
theorem shaped_strT {xs : List Str} (h : ∀ x ∈ xs, SOk x) : SeqAt.shaped (.tuple (xs.map PyData.str)) = true := by
  have z := shaped_strs h
  unfold SeqAt.shaped at z ⊢
  simp only [PyData.canLay0, PyData.depth] at z ⊢
  exact z
theorem eqv_strT (xs : List Str) : PyData.eqv (.tuple (xs.map PyData.str)) (.tuple (xs.map PyData.str)) = true := by
  have z := eqv_strs xs xs
  rw [decide_eq_true rfl] at z
  simp only [PyData.eqv] at z ⊢
  exact z
theorem look_mem {ts : Tabs} {t : Str × List Col} (nd : (ts.map (·.1)).Nodup) (h : t ∈ ts) : ts.lookup t.1 = some t.2 := by
  induction ts with
  | nil => cases h
  | cons x r ih =>
    rw [List.map_cons,
            List.nodup_cons] at nd
    rw [List.lookup_cons]
    rcases List.mem_cons.1 h with rfl | h
    · rw [show (t.1 == t.1) = true from beq_self_eq_true _]
    · rw [show (t.1 == x.1) = false from beq_eq_false_iff_ne.mpr fun z => nd.1 (by rw [← z]; exact List.mem_map.mpr ⟨t, h, rfl⟩)]
      exact ih nd.2 h
theorem sh_str {x : Str} (h : SOk x) : SeqAt.shaped (.str x) = true := by
  unfold SeqAt.shaped
  rw [Bool.and_eq_true]
  have h : PyData.strOk x = true := h
  exact ⟨by simp only [PyData.canLay0]; exact h, by simp [PyData.depth]⟩
theorem sh_one {x : Str} (h : SOk x) : SeqAt.shaped (.list [.str x]) = true ∧ SeqAt.shaped (.tuple [.str x]) = true := by
  have h : PyData.strOk x = true := h
  unfold SeqAt.shaped
  simp [PyData.canLay0, PyData.canLayAll0, PyData.depth, PyData.depthAll, h]
theorem eqv_cols (cs : List Col) : PyData.eqv (.tuple (cs.map Col.data)) (.tuple (cs.map Col.data)) = true := by
  have h : PyData.eqvAll (cs.map Col.data) (cs.map Col.data) = true := by
    induction cs with
    | nil => simp [PyData.eqvAll]
    | cons c r ih =>
      rw [List.map_cons]
      simp only [PyData.eqvAll, Bool.and_eq_true]
      exact ⟨by rw [Col.eqv]; exact decide_eq_true rfl, ih⟩
  simp only [PyData.eqv]
  exact h
theorem SchAt.ins {C : Addr} {H : Hp} {p : Addr} {u : Str} {ts : Tabs} (h : SchAt C H p u ts) : ∃ dx fs, H p = some (.ins C dx fs) := by
  obtain ⟨_, _, _, _, dx, fs, _, _, _, _, hp, _⟩ := h.ex
  exact ⟨dx, fs, hp⟩
section
variable {K : PySem.W.Frag} {C : Addr} {H : Hp} {p q : Addr} {u u' : Str} {ts ts' : Tabs} {Q : VK}
theorem sch_eq (h1 : SchAt C H p u ts) (g1 : GoodTabs ts) (s1 : SOk u) (h2 : SchAt C H q u' ts') (g2 : GoodTabs ts') (s2 : SOk u') (k : Q (.bl (decide (linesOf u ts = linesOf u' ts'))) H) : rOwnEq C false (spEqS K C) C8.E0 K (.ref p) (.ref q) H Q := by
  obtain ⟨dx, fs, hp⟩ := h1.ins
  obtain ⟨dx', fs', hq⟩ := h2.ins
  exact ⟨p, dx, fs, .ref C, rfl, hp, .inl ⟨q, dx', fs', rfl, hq, rfl⟩, p, .ref q, u, ts, rfl, h1, g1, s1, .inl ⟨q, u', ts', rfl, h2, g2, s2, _, rfl, k⟩⟩
theorem sch_ne (h1 : SchAt C H p u ts) (g1 : GoodTabs ts) (s1 : SOk u) (h2 : SchAt C H q u' ts') (g2 : GoodTabs ts') (s2 : SOk u') (k : Q (.bl (!decide (linesOf u ts = linesOf u' ts'))) H) : rOwnEq C true (spEqS K C) C8.E0 K (.ref p) (.ref q) H Q := by
  obtain ⟨dx, fs, hp⟩ := h1.ins
  obtain ⟨dx', fs', hq⟩ := h2.ins
  exact ⟨p, dx, fs, .ref C, rfl, hp, .inl ⟨q, dx', fs', rfl, hq, rfl⟩, p, .ref q, u, ts, rfl, h1, g1, s1, .inl ⟨q, u', ts', rfl, h2, g2, s2, _, rfl, k⟩⟩
theorem sch_odd {v : V} (h1 : SchAt C H p u ts) (g1 : GoodTabs ts) (s1 : SOk u) (o : Odd K H v) (k : Q (.bl false) H) : rOwnEq C false (spEqS K C) C8.E0 K (.ref p) v H Q := by
  obtain ⟨dx, fs, hp⟩ := h1.ins
  have fin : ∀ tb, TyAt K C H v tb → rOwnEq C false (spEqS K C) C8.E0 K (.ref p) v H Q := fun tb t => ⟨p, dx, fs, tb, rfl, hp, t, p, v, u, ts, rfl, h1, g1, s1, .inr ⟨o, _, rfl, k⟩⟩
  cases o with
  | non => exact fin _ (.inr (.inl ⟨rfl, rfl⟩))
  | int i => exact fin _ (.inr (.inr (.inl ⟨i, rfl, rfl⟩)))
  | str x => exact fin _ (.inr (.inr (.inr (.inl ⟨x, rfl, rfl⟩))))
  | lst h => exact fin _ (.inr (.inr (.inr (.inr ⟨_, _, rfl, h, rfl⟩))))
end
end LP
namespace LP
open PySem L2
open Evl (Ex)
open LamX (ExtN)
/-! ### what stays but for the bag and the tables of code -/
def Good (o : HO) : Prop := (∀ ps, o ≠ .tbl ps) ∧ ∀ i j k : Int, o ≠ .lst [.int i, .int j, .int k]
def St (H H' : Hp) : Prop := ∀ a o, H a = some o → Good o → H' a = some o
theorem good_tup {xs : List V} : Good (.tup xs) := ⟨(fun _ z => by cases z), (fun _ _ _ z => by cases z)⟩
theorem good_dK {xs : List (Key × V)} : Good (.dK xs) := ⟨(fun _ z => by cases z), (fun _ _ _ z => by cases z)⟩
theorem good_ins {C dx : Addr} {fs : List (Str × V)} : Good (.ins C dx fs) := ⟨(fun _ z => by cases z), (fun _ _ _ z => by cases z)⟩
theorem good_lst {xs : List V} (h : ∀ i j k : Int, xs ≠ [.int i, .int j, .int k]) : Good (.lst xs) := ⟨(fun _ z => by cases z), fun i j k z => h i j k (by injection z)⟩
theorem good_strs {xs : List Str} : Good (.lst (xs.map V.str)) := good_lst fun i j k z => by
  cases xs with
  | nil => cases z
  | cons x r =>
    rw [List.map_cons] at z
    injection z with z1 _
    cases z1
theorem St.trans {H H1 H2 : Hp} (a : St H H1) (b : St H1 H2) : St H H2 := fun c o h g => b c o (a c o h g) g
theorem St.of {H H' : Hp} (e : Ex H H') : St H H' := fun c o h _ => e c o h
theorem St.n {H H' : Hp} (e : ExtN H H') : St H H' := fun c o h g => e c o h g.1
theorem St.nt {H : Hp} : St H (noT H) := fun c o h g => noT_of h g.1
theorem St.dl {H : Hp} {b : Addr} {n : Nat} (hB : BagAt H b n) : St H (del b H) := fun c o h g => by
  obtain ⟨d, m, t, hb, _⟩ := hB.ex
  rw [del_ne (ne_of h hb (g.2 d m t))]
  exact h
theorem St.d {H H' : Hp} {b : Addr} {n : Nat} (hB : BagAt H b n) (e : Ex (del b H) H') : St H H' := (St.dl hB).trans (.of e)
theorem ColsV.st {H H' : Hp} {vs : List V} {cs : List Col} (s : St H H') (h : ColsV H vs cs) : ColsV H' vs cs := paired_imp (fun _ _ ⟨a, e, ha⟩ => ⟨a, e, s _ _ ha good_tup⟩) h
theorem TabsV.st {H H' : Hp} {vs : List V} {ts : Tabs} (s : St H H') (h : TabsV H vs ts) : TabsV H' vs ts :=
  paired_imp (fun _ _ ⟨a, p, e, ha, ws, hp, hc⟩ => ⟨a, p, e, s _ _ ha good_tup, ws, s _ _ hp (good_lst hc.refs), hc.st s⟩) h
theorem TabsAt.st {H H' : Hp} {q : Addr} {ts : Tabs} (s : St H H') (h : TabsAt H q ts) : TabsAt H' q ts := by
  obtain ⟨vs, hq, hv⟩ := h
  exact ⟨vs, s _ _ hq (good_lst hv.refs), hv.st s⟩
theorem Part.st {C : Addr} {H H' : Hp} {p dc dl : Addr} {cvs : List (Key × V)} {rs : Rows} {ts : Tabs} (s : St H H') (h : Part C H p dc dl cvs rs ts) : Part C H' p dc dl cvs rs ts := by
  obtain ⟨⟨dx, fs, h1, h2⟩, h3, h4, h5, h6, h7, h8, h9, h10⟩ := h
  refine ⟨⟨dx, fs, s _ _ h1 good_ins, h2⟩, s _ _ h3 good_dK, paired_imp (fun _ _ ⟨g1, a, vs, g2, g3, g4⟩ => ⟨g1, a, vs, g2, s _ _ g3 good_tup, g4.st s⟩) h4, s _ _ h5 good_dK, fun r hr => ?_, h7, h8, h9, h10⟩
  obtain ⟨kvs, g1, g2⟩ := h6 r hr
  exact ⟨kvs, s _ _ g1 good_dK, paired_imp (fun _ _ ⟨f1, b, f2, f3⟩ => ⟨f1, b, f2, s _ _ f3 good_tup⟩) g2⟩
theorem SchAt.st {C : Addr} {H H' : Hp} {p : Addr} {u : Str} {ts : Tabs} (s : St H H') (h : SchAt C H p u ts) : SchAt C H' p u ts := by
  obtain ⟨dc, dl, cvs, rs, dx, fs, tt, ll, h1, h2, h3, h4, h5, h6, h7, h8, h9⟩ := h.ex
  exact ⟨dc, dl, cvs, rs, dx, fs, tt, ll, h1.st s, h2, s _ _ h3 good_ins, h4, h5, h6, s _ _ h7 good_tup, h8, s _ _ h9 good_strs⟩
theorem sqL_noT {K : PySem.W.Frag} {H : Hp} {a : Addr} {xs : List V} (h : SqL K H a xs) : SqL K (noT H) a xs := by
  rcases h with (h | ⟨u, h⟩) | h
  · exact .inl (.inl (noT_of h fun _ z => by cases z))
  · exact .inl (.inr ⟨u, noT_of h fun _ z => by cases z⟩)
  · exact .inr h
theorem sqT_noT {K : PySem.W.Frag} {H : Hp} {a : Addr} {xs : List V} (h : SqT K H a xs) : SqT K (noT H) a xs := by
  rcases h with (h | ⟨u, h⟩) | h
  · exact .inl (.inl (noT_of h fun _ z => by cases z))
  · exact .inl (.inr ⟨u, noT_of h fun _ z => by cases z⟩)
  · exact .inr h
mutual
theorem dp_noT {K : PySem.W.Frag} {H : Hp} : ∀ {v : V} {d : PyData}, Dp K H v d → Dp K (noT H) v d
  | _, _, .non => .non
  | _, _, .bl b => .bl b
  | _, _, .int i => .int i
  | _, _, .str x => .str x
  | _, _, .lst h r => .lst (sqL_noT h) (dpAll_noT r)
  | _, _, .tup h r => .tup (sqT_noT h) (dpAll_noT r)
theorem dpAll_noT {K : PySem.W.Frag} {H : Hp} : ∀ {vs : List V} {ds : List PyData}, DpAll K H vs ds → DpAll K (noT H) vs ds
  | _, _, .nil => .nil
  | _, _, .cons h r => .cons (dp_noT h) (dpAll_noT r)
end
/-- what is data for good: no bag, no table of code -/
def dat (b : Addr) (H : Hp) : Hp := noT (del b H)
theorem dat_ex {b : Addr} {H : Hp} : Ex (dat b H) H := noT_ex.trans ex_del
theorem dat_no {b : Addr} {H : Hp} : Ex (dat b H) (noT H) := noT_mono ex_del
theorem dat_some {b a : Addr} {H : Hp} {o : HO} (h : dat b H a = some o) : a ≠ b ∧ H a = some o ∧ ∀ ps, o ≠ .tbl ps := ⟨(del_some (noT_ex _ _ h)).1, (del_some (noT_ex _ _ h)).2, noT_some h⟩
theorem dat_of {b a : Addr} {H : Hp} {o : HO} (n : a ≠ b) (h : H a = some o) (m : ∀ ps, o ≠ .tbl ps) : dat b H a = some o := noT_of (by rw [del_ne n]; exact h) m
theorem dat_d {b : Addr} {H H' : Hp} (e : Ex (del b H) H') : Ex (dat b H) (dat b H') := fun a o h => by
  obtain ⟨n, _, m⟩ := dat_some h
  exact dat_of n (e a o (noT_ex _ _ h)) m
theorem dat_n {b : Addr} {H H' : Hp} (e : ExtN H H') : Ex (dat b H) (dat b H') := fun a o h => by
  obtain ⟨n, q, m⟩ := dat_some h
  exact dat_of n (e a o q m) m
theorem extN_d {b : Addr} {H0 Hm H H' : Hp} (a0 : ExtN H0 Hm) (hb : Hm b = none) (a : ExtN H0 H) (e : Ex (del b H) H') : ExtN H0 H' := fun c o h n => e c o (by rw [del_ne (ne_of_none (a0 c o h n) hb)]; exact a c o h n)
theorem tabs_d {T : List (Addr × Str)} {b : Addr} {n : Nat} {H H' : Hp} (hB : BagAt H b n) (h : LamX.Tabs T H) (e : Ex (del b H) H') : LamX.Tabs T H' := fun p hp => by
  obtain ⟨ps, h1, h2, h3⟩ := h p hp
  obtain ⟨d, m, t, hb, _⟩ := hB.ex
  have ne : ∀ {a : Addr} {o : HO}, H a = some o → o ≠ .lst [.int d, .int m, .int t] → H' a = some o := fun {a o} q z => e a o (by rw [del_ne (ne_of q hb z)]; exact q)
  refine ⟨ps, ne h1 (by intro z; cases z), h2, fun pos cv hc => ?_⟩
  obtain ⟨c,
          e1, e2⟩ := h3 pos cv hc
  exact ⟨c, e1, ne e2 (by intro z; cases z)⟩
theorem BagAt.extN {b : Addr} {n : Nat} {H H' : Hp} (hB : BagAt H b n) (e : ExtN H H') : BagAt H' b n := by
  obtain ⟨d, m, t, hb, r⟩ := hB.ex
  exact ⟨d, m, t, e _ _ hb (by intro ps z; cases z), r⟩
theorem w_make {σ : L2.St} {H : Hp} {Q : VK} {C : Addr} {sp : Sp} {dvs : List V} {E : XK} {t : TA} (h : t σ H fun vs H1 => ∀ x dx, H1 x = none → H1 dx = none → dx ≠ x → sp (.ref x :: (vs ++ dvs)) (upd (upd H1 dx (.own x)) x (.ins C dx [])) (fun v H2 => v = .non ∧ Q (.ref x) H2) E) : tMake C sp dvs E t σ H Q := h
theorem w_sinst {σ : L2.St} {H : Hp} {Q : VK} {C : Addr} {m : Str} {sp : Sp} {E : XK} {ta : TE} {t : TA} (h : ta σ H fun x H1 => ∃ a dx fs, x = .ref a ∧ H1 a = some (.ins C dx fs) ∧ fs.lookup m = none ∧ t σ H1 fun vs H2 => sp vs H2 Q E) : tSInst C m sp E ta t σ H Q := h
end LP
namespace LP
open PySem.Spec PyProof.Rows PySem L2
theorem k02_facts {w : World} {K : PySem.W.Frag} {h : Heap} {mg : Str → Option Value} {f : Addr} (X : K.In h) (G : h.Ns mainGlobals mg) (hfa : mg ("law" : Str) = some (.ref f)) (c : k02_tell.Ok w h K) :
    LamX.LawAtS PySem.Challenge.rw_listandpage_k02_schemas_refused w K C8.CX0 10 63 "script" mg f h := by
  have exq : ∀ (i : Nat) (e : PySem.W.Frag → Bool), k02_ex[i]? = some e → e K = true := fun i e hi => List.all_eq_true.mp (show (k02_ex.all fun e => e K) = true from c.x.more) e (List.mem_of_getElem? hi)
  obtain ⟨fd_is_letters, D_is_letters, df_is_letters⟩ := told_def c.x.t.d 0 (x := "is_letters") (st := s_is_letters) rfl (He.glo_ok X G (c.x.t.d.fact 0 (f := .glo "is_letters") rfl))
  have b_is_letters : Binds K fd_is_letters ["value"] [] := D_is_letters.fn.binds df_is_letters (ps := ["value"]) fun _ _ _ _ _ _ us hl => match us, hl with | [_], _ => rfl
  obtain ⟨fd_is_word, D_is_word, df_is_word⟩ := told_def c.x.t.d 1 (x := "is_word") (st := s_is_word) rfl (He.glo_ok X G (c.x.t.d.fact 1 (f := .glo "is_word") rfl))
  have b_is_word : Binds K fd_is_word ["value"] [] := D_is_word.fn.binds df_is_word (ps := ["value"]) fun _ _ _ _ _ _ us hl => match us, hl with | [_], _ => rfl
  obtain ⟨fd_is_link, D_is_link, df_is_link⟩ := told_def c.x.t.d 2 (x := "is_link") (st := s_is_link) rfl (He.glo_ok X G (c.x.t.d.fact 2 (f := .glo "is_link") rfl))
  have b_is_link : Binds K fd_is_link ["column"] [] := D_is_link.fn.binds df_is_link (ps := ["column"]) fun _ _ _ _ _ _ us hl => match us, hl with | [_], _ => rfl
  obtain ⟨fd_has_list, D_has_list, df_has_list⟩ := told_def c.x.t.d 3 (x := "has_list") (st := s_has_list) rfl (He.glo_ok X G (c.x.t.d.fact 3 (f := .glo "has_list") rfl))
  have b_has_list : Binds K fd_has_list ["column"] [] := D_has_list.fn.binds df_has_list (ps := ["column"]) fun _ _ _ _ _ _ us hl => match us, hl with | [_], _ => rfl
  obtain ⟨fd_may_lack, D_may_lack, df_may_lack⟩ := told_def c.x.t.d 4 (x := "may_lack") (st := s_may_lack) rfl (He.glo_ok X G (c.x.t.d.fact 4 (f := .glo "may_lack") rfl))
  have b_may_lack : Binds K fd_may_lack ["column"] [] := D_may_lack.fn.binds df_may_lack (ps := ["column"]) fun _ _ _ _ _ _ us hl => match us, hl with | [_], _ => rfl
  obtain ⟨fd_write_lines, D_write_lines, df_write_lines⟩ := told_def c.x.t.d 5 (x := "write_lines") (st := s_write_lines) rfl (He.glo_ok X G (c.x.t.d.fact 5 (f := .glo "write_lines") rfl))
  have b_write_lines : Binds K fd_write_lines ["user", "columns"] [] := D_write_lines.fn.binds df_write_lines (ps := ["user", "columns"]) fun _ _ _ _ _ _ us hl => match us, hl with | [_, _], _ => rfl
  obtain ⟨fd__write_column, D__write_column, df__write_column⟩ := told_def c.x.t.d 6 (x := "_write_column") (st := s__write_column) rfl (He.glo_ok X G (c.x.t.d.fact 6 (f := .glo "_write_column") rfl))
  have b__write_column : Binds K fd__write_column ["column"] [] := D__write_column.fn.binds df__write_column (ps := ["column"]) fun _ _ _ _ _ _ us hl => match us, hl with | [_], _ => rfl
  obtain ⟨fd__meets, D__meets, df__meets⟩ := told_def c.x.t.d 7 (x := "_meets") (st := s__meets) rfl (He.glo_ok X G (c.x.t.d.fact 7 (f := .glo "_meets") rfl))
  have b__meets : Binds K fd__meets ["index", "columns", "meeting"] [] := D__meets.fn.binds df__meets (ps := ["index", "columns", "meeting"]) fun _ _ _ _ _ _ us hl => match us, hl with | [_, _, _], _ => rfl
  obtain ⟨fd__law_start, D__law_start, df__law_start⟩ := told_def c.x.t.d 8 (x := "_law_start") (st := s__law_start) rfl (He.glo_ok X G (c.x.t.d.fact 8 (f := .glo "_law_start") rfl))
  have b__law_start : Binds K fd__law_start ["script", "at"] [] := D__law_start.fn.binds df__law_start (ps := ["script", "at"]) fun _ _ _ _ _ _ us hl => match us, hl with | [_, _], _ => rfl
  obtain ⟨fd__law_take, D__law_take, df__law_take⟩ := told_def c.x.t.d 9 (x := "_law_take") (st := s__law_take) rfl (He.glo_ok X G (c.x.t.d.fact 9 (f := .glo "_law_take") rfl))
  have b__law_take : Binds K fd__law_take ["bag", "many"] [] := D__law_take.fn.binds df__law_take (ps := ["bag", "many"]) fun _ _ _ _ _ _ us hl => match us, hl with | [_, _], _ => rfl
  obtain ⟨fd__law_of, D__law_of, df__law_of⟩ := told_def c.x.t.d 10 (x := "_law_of") (st := s__law_of) rfl (He.glo_ok X G (c.x.t.d.fact 10 (f := .glo "_law_of") rfl))
  have b__law_of : Binds K fd__law_of ["bag", "some"] [] := D__law_of.fn.binds df__law_of (ps := ["bag", "some"]) fun _ _ _ _ _ _ us hl => match us, hl with | [_, _], _ => rfl
  obtain ⟨fd__law_reserved, D__law_reserved, df__law_reserved⟩ := told_def c.x.t.d 11 (x := "_law_reserved") (st := s__law_reserved) rfl (He.glo_ok X G (c.x.t.d.fact 11 (f := .glo "_law_reserved") rfl))
  have b__law_reserved : Binds K fd__law_reserved [] [] := D__law_reserved.fn.binds df__law_reserved (ps := []) fun _ _ _ _ _ _ us hl => match us, hl with | [], _ => rfl
  obtain ⟨fd__law_draw_letters, D__law_draw_letters, df__law_draw_letters⟩ := told_def c.x.t.d 12 (x := "_law_draw_letters") (st := s__law_draw_letters) rfl (He.glo_ok X G (c.x.t.d.fact 12 (f := .glo "_law_draw_letters") rfl))
  have b__law_draw_letters : Binds K fd__law_draw_letters ["bag", "most"] [] := D__law_draw_letters.fn.binds df__law_draw_letters (ps := ["bag", "most"]) fun _ _ _ _ _ _ us hl => match us, hl with | [_, _], _ => rfl
  obtain ⟨fd__law_new_name, D__law_new_name, df__law_new_name⟩ := told_def c.x.t.d 13 (x := "_law_new_name") (st := s__law_new_name) rfl (He.glo_ok X G (c.x.t.d.fact 13 (f := .glo "_law_new_name") rfl))
  have b__law_new_name : Binds K fd__law_new_name ["bag", "taken"] [] := D__law_new_name.fn.binds df__law_new_name (ps := ["bag", "taken"]) fun _ _ _ _ _ _ us hl => match us, hl with | [_, _], _ => rfl
  obtain ⟨fd__law_all_links, D__law_all_links, df__law_all_links⟩ := told_def c.x.t.d 14 (x := "_law_all_links") (st := s__law_all_links) rfl (He.glo_ok X G (c.x.t.d.fact 14 (f := .glo "_law_all_links") rfl))
  have b__law_all_links : Binds K fd__law_all_links ["columns"] [] := D__law_all_links.fn.binds df__law_all_links (ps := ["columns"]) fun _ _ _ _ _ _ us hl => match us, hl with | [_], _ => rfl
  obtain ⟨fd__law_reach, D__law_reach, df__law_reach⟩ := told_def c.x.t.d 15 (x := "_law_reach") (st := s__law_reach) rfl (He.glo_ok X G (c.x.t.d.fact 15 (f := .glo "_law_reach") rfl))
  have b__law_reach : Binds K fd__law_reach ["tables", "name"] [] := D__law_reach.fn.binds df__law_reach (ps := ["tables", "name"]) fun _ _ _ _ _ _ us hl => match us, hl with | [_, _], _ => rfl
  obtain ⟨fd__law_is_listed, D__law_is_listed, df__law_is_listed⟩ := told_def c.x.t.d 16 (x := "_law_is_listed") (st := s__law_is_listed) rfl (He.glo_ok X G (c.x.t.d.fact 16 (f := .glo "_law_is_listed") rfl))
  have b__law_is_listed : Binds K fd__law_is_listed ["columns"] [] := D__law_is_listed.fn.binds df__law_is_listed (ps := ["columns"]) fun _ _ _ _ _ _ us hl => match us, hl with | [_], _ => rfl
  obtain ⟨fd__law_is_heavy, D__law_is_heavy, df__law_is_heavy⟩ := told_def c.x.t.d 17 (x := "_law_is_heavy") (st := s__law_is_heavy) rfl (He.glo_ok X G (c.x.t.d.fact 17 (f := .glo "_law_is_heavy") rfl))
  have b__law_is_heavy : Binds K fd__law_is_heavy ["tables", "column"] [] := D__law_is_heavy.fn.binds df__law_is_heavy (ps := ["tables", "column"]) fun _ _ _ _ _ _ us hl => match us, hl with | [_, _], _ => rfl
  obtain ⟨fd__law_names_taken, D__law_names_taken, df__law_names_taken⟩ := told_def c.x.t.d 18 (x := "_law_names_taken") (st := s__law_names_taken) rfl (He.glo_ok X G (c.x.t.d.fact 18 (f := .glo "_law_names_taken") rfl))
  have b__law_names_taken : Binds K fd__law_names_taken ["tables", "columns", "target"] [] := D__law_names_taken.fn.binds df__law_names_taken (ps := ["tables", "columns", "target"]) fun _ _ _ _ _ _ us hl => match us, hl with | [_, _, _], _ => rfl
  obtain ⟨fd__law_allowed, D__law_allowed, df__law_allowed⟩ := told_def c.x.t.d 19 (x := "_law_allowed") (st := s__law_allowed) rfl (He.glo_ok X G (c.x.t.d.fact 19 (f := .glo "_law_allowed") rfl))
  have b__law_allowed : Binds K fd__law_allowed ["tables", "columns"] [] := D__law_allowed.fn.binds df__law_allowed (ps := ["tables", "columns"]) fun _ _ _ _ _ _ us hl => match us, hl with | [_, _], _ => rfl
  obtain ⟨fd__law_draw_columns, D__law_draw_columns, df__law_draw_columns⟩ := told_def c.x.t.d 20 (x := "_law_draw_columns") (st := s__law_draw_columns) rfl (He.glo_ok X G (c.x.t.d.fact 20 (f := .glo "_law_draw_columns") rfl))
  have b__law_draw_columns : Binds K fd__law_draw_columns ["bag", "tables", "most"] [] := D__law_draw_columns.fn.binds df__law_draw_columns (ps := ["bag", "tables", "most"]) fun _ _ _ _ _ _ us hl => match us, hl with | [_, _, _], _ => rfl
  obtain ⟨fd__law_draw_tables, D__law_draw_tables, df__law_draw_tables⟩ := told_def c.x.t.d 21 (x := "_law_draw_tables") (st := s__law_draw_tables) rfl (He.glo_ok X G (c.x.t.d.fact 21 (f := .glo "_law_draw_tables") rfl))
  have b__law_draw_tables : Binds K fd__law_draw_tables ["bag", "least", "most"] [] := D__law_draw_tables.fn.binds df__law_draw_tables (ps := ["bag", "least", "most"]) fun _ _ _ _ _ _ us hl => match us, hl with | [_, _, _], _ => rfl
  obtain ⟨fd__law_is_name, D__law_is_name, df__law_is_name⟩ := told_def c.x.t.d 22 (x := "_law_is_name") (st := s__law_is_name) rfl (He.glo_ok X G (c.x.t.d.fact 22 (f := .glo "_law_is_name") rfl))
  have b__law_is_name : Binds K fd__law_is_name ["value"] [] := D__law_is_name.fn.binds df__law_is_name (ps := ["value"]) fun _ _ _ _ _ _ us hl => match us, hl with | [_], _ => rfl
  obtain ⟨fd__law_odd_name, D__law_odd_name, df__law_odd_name⟩ := told_def c.x.t.d 23 (x := "_law_odd_name") (st := s__law_odd_name) rfl (He.glo_ok X G (c.x.t.d.fact 23 (f := .glo "_law_odd_name") rfl))
  have b__law_odd_name : Binds K fd__law_odd_name ["bag"] [] := D__law_odd_name.fn.binds df__law_odd_name (ps := ["bag"]) fun _ _ _ _ _ _ us hl => match us, hl with | [_], _ => rfl
  obtain ⟨fd__law_find_column, D__law_find_column, df__law_find_column⟩ := told_def c.x.t.d 24 (x := "_law_find_column") (st := s__law_find_column) rfl (He.glo_ok X G (c.x.t.d.fact 24 (f := .glo "_law_find_column") rfl))
  have b__law_find_column : Binds K fd__law_find_column ["bag", "pool"] [] := D__law_find_column.fn.binds df__law_find_column (ps := ["bag", "pool"]) fun _ _ _ _ _ _ us hl => match us, hl with | [_, _], _ => rfl
  obtain ⟨fd__law_fits, D__law_fits, df__law_fits⟩ := told_def c.x.t.d 25 (x := "_law_fits") (st := s__law_fits) rfl (He.glo_ok X G (c.x.t.d.fact 25 (f := .glo "_law_fits") rfl))
  have b__law_fits : Binds K fd__law_fits ["column", "before", "taken"] [] := D__law_fits.fn.binds df__law_fits (ps := ["column", "before", "taken"]) fun _ _ _ _ _ _ us hl => match us, hl with | [_, _, _], _ => rfl
  obtain ⟨fd__law_broken, D__law_broken, df__law_broken⟩ := told_def c.x.t.d 26 (x := "_law_broken") (st := s__law_broken) rfl (He.glo_ok X G (c.x.t.d.fact 26 (f := .glo "_law_broken") rfl))
  have b__law_broken : Binds K fd__law_broken ["tables", "columns"] [] := D__law_broken.fn.binds df__law_broken (ps := ["tables", "columns"]) fun _ _ _ _ _ _ us hl => match us, hl with | [_, _], _ => rfl
  obtain ⟨fd__law_what_is_due, D__law_what_is_due, df__law_what_is_due⟩ := told_def c.x.t.d 27 (x := "_law_what_is_due") (st := s__law_what_is_due) rfl (He.glo_ok X G (c.x.t.d.fact 27 (f := .glo "_law_what_is_due") rfl))
  have b__law_what_is_due : Binds K fd__law_what_is_due ["user", "tables"] [] := D__law_what_is_due.fn.binds df__law_what_is_due (ps := ["user", "tables"]) fun _ _ _ _ _ _ us hl => match us, hl with | [_, _], _ => rfl
  obtain ⟨fd__law_what_comes, D__law_what_comes, df__law_what_comes⟩ := told_def c.x.t.d 28 (x := "_law_what_comes") (st := s__law_what_comes) rfl (He.glo_ok X G (c.x.t.d.fact 28 (f := .glo "_law_what_comes") rfl))
  have b__law_what_comes : Binds K fd__law_what_comes ["user", "tables"] [] := D__law_what_comes.fn.binds df__law_what_comes (ps := ["user", "tables"]) fun _ _ _ _ _ _ us hl => match us, hl with | [_, _], _ => rfl
  obtain ⟨fd__law_spoilt, D__law_spoilt, df__law_spoilt⟩ := told_def c.x.t.d 29 (x := "_law_spoilt") (st := s__law_spoilt) rfl (He.glo_ok X G (c.x.t.d.fact 29 (f := .glo "_law_spoilt") rfl))
  have b__law_spoilt : Binds K fd__law_spoilt ["bag", "tables"] [] := D__law_spoilt.fn.binds df__law_spoilt (ps := ["bag", "tables"]) fun _ _ _ _ _ _ us hl => match us, hl with | [_, _], _ => rfl
  obtain ⟨fd_law, D_law, df_law⟩ := told_def c.x.t.d 30 (x := "law") (st := s_law) rfl (He.glo_ok X G (c.x.t.d.fact 30 (f := .glo "law") rfl))
  have b_law : Binds K fd_law ["script"] [] := D_law.fn.binds df_law (ps := ["script"]) fun _ _ _ _ _ _ us hl => match us, hl with | [_], _ => rfl
  obtain ⟨fd_Schema___init__, F_Schema___init__, df_Schema___init__⟩ := told_meth c.x.t.d 31 (C := "Schema") (m := "__init__") (q := "Schema.__init__") (st := s_Schema___init__) rfl
  have b_Schema___init__ : Binds K fd_Schema___init__ ["self", "user", "tables"] [] := F_Schema___init__.binds df_Schema___init__ (ps := ["self", "user", "tables"]) fun _ _ _ _ _ _ us hl => match us, hl with | [_, _, _], _ => rfl
  obtain ⟨fd_Schema__take_columns, F_Schema__take_columns, df_Schema__take_columns⟩ := told_meth c.x.t.d 32 (C := "Schema") (m := "_take_columns") (q := "Schema._take_columns") (st := s_Schema__take_columns) rfl
  have b_Schema__take_columns : Binds K fd_Schema__take_columns ["self", "index", "table", "columns"] [] := F_Schema__take_columns.binds df_Schema__take_columns (ps := ["self", "index", "table", "columns"]) fun _ _ _ _ _ _ us hl => match us, hl with | [_, _, _, _], _ => rfl
  obtain ⟨fd_Schema__is_column, F_Schema__is_column, df_Schema__is_column⟩ := told_meth c.x.t.d 33 (C := "Schema") (m := "_is_column") (q := "Schema._is_column") (st := s_Schema__is_column) rfl
  have b_Schema__is_column : Binds K fd_Schema__is_column ["self", "column", "names"] [] := F_Schema__is_column.binds df_Schema__is_column (ps := ["self", "column", "names"]) fun _ _ _ _ _ _ us hl => match us, hl with | [_, _, _], _ => rfl
  obtain ⟨fd_Schema__is_list, F_Schema__is_list, df_Schema__is_list⟩ := told_meth c.x.t.d 34 (C := "Schema") (m := "_is_list") (q := "Schema._is_list") (st := s_Schema__is_list) rfl
  have b_Schema__is_list : Binds K fd_Schema__is_list ["self", "table", "name"] [] := F_Schema__is_list.binds df_Schema__is_list (ps := ["self", "table", "name"]) fun _ _ _ _ _ _ us hl => match us, hl with | [_, _, _], _ => rfl
  obtain ⟨fd_Schema___contains__, F_Schema___contains__, df_Schema___contains__⟩ := told_meth c.x.t.d 35 (C := "Schema") (m := "__contains__") (q := "Schema.__contains__") (st := s_Schema___contains__) rfl
  have b_Schema___contains__ : Binds K fd_Schema___contains__ ["self", "thing"] [] := F_Schema___contains__.binds df_Schema___contains__ (ps := ["self", "thing"]) fun _ _ _ _ _ _ us hl => match us, hl with | [_, _], _ => rfl
  obtain ⟨fd_BadSchema___init__, F_BadSchema___init__, df_BadSchema___init__⟩ := told_meth c.x.t.d 36 (C := "BadSchema") (m := "__init__") (q := "BadSchema.__init__") (st := s_BadSchema___init__) rfl
  have b_BadSchema___init__ : Binds K fd_BadSchema___init__ ["self", "table", "column"] [] := F_BadSchema___init__.binds df_BadSchema___init__ (ps := ["self", "table", "column"]) fun _ _ _ _ _ _ us hl => match us, hl with | [_, _, _], _ => rfl
  have B : Blt mg := ⟨(He.free_ok X G (c.x.t.d.fact 31 (f := .free "len") rfl)), (He.free_ok X G (c.x.t.d.fact 32 (f := .free "int") rfl)), (He.free_ok X G (c.x.t.d.fact 33 (f := .free "abs") rfl)), (He.free_ok X G (c.x.t.d.fact 34 (f := .free "max") rfl)), (He.free_ok X G (c.x.t.d.fact 35 (f := .free "min") rfl)), (He.free_ok X G (c.x.t.d.fact 36 (f := .free "any") rfl)), (He.free_ok X G (c.x.t.d.fact 37 (f := .free "all") rfl)), (He.free_ok X G (c.x.t.d.fact 38 (f := .free "str") rfl)), (He.free_ok X G (c.x.t.d.fact 39 (f := .free "bool") rfl)), (He.free_ok X G (c.x.t.d.fact 40 (f := .free "list") rfl)), (He.free_ok X G (c.x.t.d.fact 41 (f := .free "tuple") rfl)), (He.free_ok X G (c.x.t.d.fact 42 (f := .free "dict") rfl)), (He.free_ok X G (c.x.t.d.fact 43 (f := .free "isinstance") rfl)), (He.free_ok X G (c.x.t.d.fact 44 (f := .free "range") rfl)), (He.free_ok X G (c.x.t.d.fact 45 (f := .free "reversed") rfl)), (He.free_ok X G (c.x.t.d.fact 46 (f := .free "enumerate") rfl)), (He.free_ok X G (c.x.t.d.fact 47 (f := .free "zip") rfl))⟩
  have T : Cns K mg (He.ga K "RESERVED") (He.ga K "Schema") := ⟨(is_int (He.int_ok X G (c.x.t.d.fact 48 (f := .int "MOST_LETTERS" 8) rfl))), (is_int (He.int_ok X G (c.x.t.d.fact 49 (f := .int "MOST_TABLES" 6) rfl))), (is_int (He.int_ok X G (c.x.t.d.fact 50 (f := .int "MOST_COLUMNS" 6) rfl))), (is_ref (He.glo_ok X G (c.x.t.d.fact 51 (f := .glo "RESERVED") rfl))), fun H => (by have z := He.tupB_ok (exq 0 _ rfl) H; rw [List.map_map] at z; exact z), (is_ref (He.glo_ok X G (c.x.t.d.fact 52 (f := .glo "Schema") rfl)))⟩
  have S : SchC K (He.ga K "Schema") := ⟨He.cls_ok (c.x.t.d.fact 53 (f := .cls "Schema") rfl), (He.noat_ok (c.x.t.d.fact 54 (f := .noat "Schema" "_columns") rfl)), (He.noat_ok (c.x.t.d.fact 55 (f := .noat "Schema" "_lists") rfl)), (He.noat_ok (c.x.t.d.fact 56 (f := .noat "Schema" "user") rfl)), (He.noat_ok (c.x.t.d.fact 57 (f := .noat "Schema" "tables") rfl)), (He.noat_ok (c.x.t.d.fact 58 (f := .noat "Schema" "_lines") rfl))⟩
  obtain ⟨⟨fd_is_name, F_is_name, df_is_name⟩, cr, sm, si⟩ := SDef.all (d := (⟨"Schema", "is_name", "Schema.is_name", s_Schema_is_name⟩ : SDef)) (c.static 0 rfl) (exq 1 _ rfl)
  have b_is_name : Binds K fd_is_name ["value"] [] := F_is_name.binds df_is_name (ps := ["value"]) fun _ _ _ _ _ _ us hl => match us, hl with | [_], _ => rfl
  obtain ⟨es, ne, LD⟩ := c.x.t.tab 0 (t := (fun K => He.ga K "LENGTHS", ["flag", "number", "word", "link"])) rfl
  have LN : LenG K mg (He.ga K "LENGTHS") := lenG_of (is_ref (He.glo_ok X G (c.x.t.d.fact 59 (f := .glo "LENGTHS") rfl))) (exq 2 _ rfl) (exq 3 _ rfl)
  have OV : OexC K (He.ga K "BadSchema") := oxvB_ok (exq 4 _ rfl)
  obtain ⟨iV, tV⟩ := oinB_ok (exq 5 _ rfl)
  have n1 := (He.noat_ok (c.x.t.d.fact 60 (f := .noat "BadSchema" "table") rfl))
  have n2 := (He.noat_ok (c.x.t.d.fact 61 (f := .noat "BadSchema" "column") rfl))
  have LB : LawB K mg (He.ga K "BadSchema") (He.ga K "BadLine") (He.ga K "BadStore") (He.ga K "ListandpageError") := ⟨(He.glo_ok X G (c.x.t.d.fact 62 (f := .glo "BadSchema") rfl)), (is_ref (He.glo_ok X G (c.x.t.d.fact 63 (f := .glo "BadLine") rfl))), (is_ref (He.glo_ok X G (c.x.t.d.fact 64 (f := .glo "BadStore") rfl))), (is_ref (He.glo_ok X G (c.x.t.d.fact 65 (f := .glo "ListandpageError") rfl))), exkB_ok (exq 6 _ rfl), L2.xfB_ok (exq 7 _ rfl), n1, n2, of_decide_eq_true (exq 8 _ rfl), of_decide_eq_true (exq 9 _ rfl), He.exm_ok (c.x.t.d.fact 66 (f := .exm "BadSchema" "BadSchema" true) rfl)⟩
  have M : Mk K (He.ga K "Schema") (He.ma K (He.ga K "Schema") "__init__") := He.mkr_ok (c.x.t.d.fact 67 (f := .mkr "Schema") rfl)
  have me___contains__ := (He.meth_ok (c.x.t.d.fact 68 (f := .meth "Schema" "__contains__") rfl))
  have me__is_list := (He.meth_ok (c.x.t.d.fact 69 (f := .meth "Schema" "_is_list") rfl))
  have me__is_column := (He.meth_ok (c.x.t.d.fact 70 (f := .meth "Schema" "_is_column") rfl))
  have me__take_columns := (He.meth_ok (c.x.t.d.fact 71 (f := .meth "Schema" "_take_columns") rfl))
  have e := hfa.symm.trans D_law.mgf
  cases e
  have mgS := (He.glo_ok X G (c.x.t.d.fact 52 (f := .glo "Schema") rfl))
  have mgB := (He.glo_ok X G (c.x.t.d.fact 62 (f := .glo "BadSchema") rfl))
  refine ⟨fd_law, [], spLaw2 K, fun p hp => absurd hp List.not_mem_nil, fun p hp => absurd hp List.not_mem_nil, fun p hp => absurd hp List.not_mem_nil, fun s u => ?_, fun H a ns hl _ hH hS => ?_, fun base Xb Gb hTB => ?_⟩
  · exact bindLaw D_law.fn df_law s u
  · exact ⟨a, ns, rfl, hS, by omega, fun _ => rfl⟩
  · generalize PySem.Challenge.rw_listandpage_k02_schemas_refused.prog = P
    have c_is_letters := ok_is_letters (P := P) (w := w) (base := base) D_is_letters b_is_letters B
    have c_is_word := ok_is_word (P := P) (w := w) (base := base) D_is_word b_is_word B T c_is_letters
    have c_is_link := ok_is_link (P := P) (w := w) (base := base) D_is_link b_is_link
    have c_is_linkG := ok_is_linkG (P := P) (w := w) (base := base) D_is_link b_is_link
    have c_has_list := ok_has_list D_has_list b_has_list c_is_link
    have c_may_lack := ok_may_lack D_may_lack b_may_lack c_is_link
    have c__write_column := ok_write_column D__write_column b__write_column c_is_link c_has_list c_may_lack
    have c_write_lines := ok_write_lines D_write_lines b_write_lines c__write_column
    have VX : ExV P w K mg base "BadSchema" (He.ga K "BadSchema") (He.ma K (He.ga K "BadSchema") "__init__") fd_BadSchema___init__ ["self", "table", "column"] 1 (spEx2 (He.ga K "BadSchema") "table" "column") := ⟨OV, iV, tV, ok_badschema OV n1 n2 F_BadSchema___init__, b_BadSchema___init__, mgB⟩
    have c__meets : CalX P w K mg base 3 "_meets" (spMeetsX K (He.ga K "BadSchema")) := ⟨_, _, _, ok_meetsX D__meets b__meets B VX c_is_link c_has_list, D__meets.mgf, D__meets.kp, b__meets⟩
    have c_is_name := ok_is_name cr sm si F_is_name b_is_name B T c_is_word
    have m___contains__ := ok_contains (P := P) (w := w) (base := base) S me___contains__ F_Schema___contains__ b_Schema___contains__ B
    have m__is_list := ok_is_listG S me__is_list F_Schema__is_list b_Schema__is_list B T c_is_name
    have m__is_column := ok_is_columnG S me__is_column F_Schema__is_column b_Schema__is_column B T LD LN c_is_name c_is_linkG m___contains__ m__is_list
    have m__take_columns := ok_take_columnsG S me__take_columns F_Schema__take_columns b_Schema__take_columns B VX c_has_list m__is_column
    have m_Schema : MakX P w K mg base 7 "Schema" (He.ga K "Schema") (spInitG K (He.ga K "Schema") (He.ga K "BadSchema")) := ⟨_, _, _, M, ok_initG S M F_Schema___init__ B T VX c_is_name m___contains__ m__take_columns c__meets c_write_lines, mgS, b_Schema___init__⟩
    have c__law_start := ok_start (P := P) (w := w) (base := base) D__law_start b__law_start B
    have c__law_take := ok_take (P := P) (w := w) (base := base) D__law_take b__law_take B
    have c__law_of := ok_of D__law_of b__law_of B c__law_take
    have c__law_reserved := ok_reserved (P := P) (w := w) (base := base) D__law_reserved b__law_reserved
    have c__law_draw_letters := ok_letters D__law_draw_letters b__law_draw_letters B c__law_take
    have c__law_new_name := ok_new_name D__law_new_name b__law_new_name c__law_draw_letters c__law_reserved
    have c__law_all_links := ok_all_links (P := P) (w := w) (base := base) D__law_all_links b__law_all_links
    have c__law_reach := ok_reach D__law_reach b__law_reach B c__law_all_links
    have c__law_is_listed := ok_is_listed D__law_is_listed b__law_is_listed B c__law_all_links
    have c__law_is_heavy := ok_is_heavy D__law_is_heavy b__law_is_heavy B c__law_reach c__law_is_listed
    have c__law_names_taken := ok_names_taken D__law_names_taken b__law_names_taken c__law_all_links
    have c__law_allowed := ok_allowed D__law_allowed b__law_allowed B c__law_all_links c__law_is_heavy
    have c__law_draw_columns := ok_draw_columns D__law_draw_columns b__law_draw_columns B c__law_take c__law_of c__law_new_name c__law_names_taken c__law_allowed
    have c__law_draw_tables := ok_draw_tables D__law_draw_tables b__law_draw_tables B c__law_take c__law_of c__law_new_name c__law_draw_columns
    have c__law_is_name := ok_is_name2 D__law_is_name b__law_is_name B c__law_reserved
    have c__law_odd_name := ok_odd_name D__law_odd_name b__law_odd_name B c__law_take c__law_of c__law_reserved c__law_draw_letters
    have c__law_find_column := ok_find_column D__law_find_column b__law_find_column B c__law_take c__law_of c__law_odd_name c__law_draw_letters
    have c__law_fits := ok_fits D__law_fits b__law_fits B c__law_is_name
    have c__law_broken := ok_broken D__law_broken b__law_broken B c__law_all_links c__law_is_heavy
    have c__law_what_is_due := ok_dueG D__law_what_is_due b__law_what_is_due B c__law_is_name c__law_fits c__law_broken
    have c__law_what_comes := ok_comesG D__law_what_comes b__law_what_comes B LB m_Schema
    have c__law_spoilt := ok_spoilt D__law_spoilt b__law_spoilt B c__law_take c__law_of c__law_odd_name c__law_find_column
    exact ok_law2 D_law B c__law_start c__law_of c__law_draw_tables c__law_what_is_due c__law_what_comes c__law_spoilt c__law_odd_name
end LP
open PyProof.Rows PySem PySem.W PySem.Calls
theorem PySem.Challenge.cw_listandpage_k02_schemas_refused_holds : PySem.Challenge.rw_listandpage_k02_schemas_refused.Holds := by
  w_on; o_law
  refine HandSHeadRun.head_any (r := OpenLaw.row PySem.Challenge.rw_listandpage_k02_schemas_refused) (q := view (OpenLaw.row PySem.Challenge.rw_listandpage_k02_schemas_refused).prog [52]) (H := LP.k02_tell.hook) (ob := LP.k02_ob) (M := 4000) (loose := LP.k02_names) (d := HandSHeadRun.topDef (OpenLaw.row PySem.Challenge.rw_listandpage_k02_schemas_refused).prog 52) (kwd := []) LP.k02_ob_eq
    (by kernel_rfl) (fun s => by kernel_rfl) LP.k02_run (by kernel_rfl) (by kernel_rfl) (by kernel_rfl) (by rfl) (by first | assumption | decide +kernel) (by decide +kernel) ⟨rfl, rfl, rfl, rfl, rfl, by decide +kernel⟩ ?hw ?hc
  case hw => w_witness2
  case hc =>
    refine LamX.walk_ofTsE (l := PySem.Challenge.rw_listandpage_k02_schemas_refused) (n := 63) (k := 10) (x := "script") (CX := fun _ => C8.CX0) rfl (by decide) (by kernel_rfl) ⟨rfl, by decide, by decide⟩ ?F (fun _ _ _ _ _ z => z)
    intro w mg fa h Y G hmg0
    obtain ⟨K, KX, c⟩ := Y
    have hmg : mg
            ("law" : PySem.Str) = some (.ref fa) := by
      have e : (HandSHeadRun.topDef (OpenLaw.row PySem.Challenge.rw_listandpage_k02_schemas_refused).prog 52).name = ("law" : PySem.Str) := by kernel_rfl
      rw [← e]
      exact hmg0
    exact ⟨K, KX, LP.k02_facts KX G hmg c⟩
