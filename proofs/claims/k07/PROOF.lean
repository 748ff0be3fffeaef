import PyProof.Rows.All
import Wide.All
import OpenK.AllK
import Wide.FinOn
import HandS.ForMost
import HandS.Codes
import HandS.Evl
import HandS.IsInst
import HandS.Rev
import HandS.Deep
import HandS.Small
import HandS.FStr
import HandS.More
import HandS.Style
import HandS.StrMore
import HandS.Flow
import HandS.Conv
import HandS.ClsMeth
import HandS.WrittenGet
import KE.GoesEnum
import KE.GoesEnumKw
import KE.KExcInit
import KE.KExcIs
import HandS.Exc
import HandS.ExcInit
import HandS.ExcField
import HandS.ExcIs
import HandS.TryOnly
import HandS.Lambda
import PyProof.ExcBaseAll.LookupError
import HandS.EndTab
import HandS.OwnEq
import HandS.ListItems
import KE.KCallOwn
import HandS.Zip
import HandS.TupAny
import HandS.DictEq
import HandS.HeadHook4
import HandS.HeadWalk
import HandS.Head2
import PySem.Challenge.RW_listandpage_k07_stores_made
set_option Elab.async false
set_option linter.all false
set_option maxRecDepth 100000
set_option maxHeartbeats 4000000
namespace LP
open PySem L2
/-! ### the reading, rule by rule -/
section
variable {D : Ends} {σ : L2.St} {H : Hp} {Q : VK} {t u : TS} {c c' : TT} {te ta tb tc : TE} {r r' : R2} {g : TG} {v x y : V} {i : Nat} {K : PySem.W.Frag} {tas : TA}
theorem w_seq (h : t { D with nx := u D } σ H) : tSeq t u D σ H := h
theorem w_next (h : D.nx σ H) : tNext D σ H := h
theorem w_ifS (h : c σ H fun b H1 => if b = true then t D σ H1 else u D σ H1) : tIfS c t u D σ H := h
theorem w_asg (h : te σ H fun x H1 => g x σ H1 D.nx) : tAsg te g D σ H := h
theorem w_gName {k : L2.St → Hp → Prop} (h : k (σ.set i (some v)) H) : gName i v σ H k := h
theorem w_ret (h : te σ H D.rt) : tRet te D σ H := h
theorem w_retN (h : D.rt .non H) : tRetN D σ H := h
theorem w_drop (h : te σ H fun _ H1 => D.nx σ H1) : tDrop te D σ H := h
theorem w_var (e : σ[i]? = some (some v)) (h : Q v H) : tVar i σ H Q := ⟨v, e, h⟩
theorem w_c (h : Q v H) : tC v σ H Q := h
theorem w_op (h : ta σ H fun x H1 => tb σ H1 fun y H2 => r x y H2 Q) : tOp r ta tb σ H Q := h
theorem w_test {q : Bool → Hp → Prop} (h : te σ H fun x H1 => ∃ k, x = .bl k ∧ q k H1) : tTest te σ H q := h
theorem w_B {q : Bool → Hp → Prop} (h : te σ H fun x H1 => ∃ k, x = .bl k ∧ q k H1) : tB te σ H q := h
theorem w_kb {k : Bool} {q : Bool → Prop} (h : q k) : ∃ k', V.bl k = .bl k' ∧ q k' := ⟨k, rfl, h⟩
theorem w_I0 {g : Int → Int → V} {i j : Int} (h : Q (g i j) H) : rI0 g (.int i) (.int j) H Q := ⟨i, j, rfl, rfl, h⟩
theorem w_I {C : Int → Int → Prop} {g : Int → Int → V} {i j : Int} (hc : C i j) (h : Q (g i j) H) : rI C g (.int i) (.int j) H Q := ⟨i, j, rfl, rfl, hc, h⟩
theorem w_and {q : Bool → Hp → Prop} (h : c σ H fun b H1 => if b = true then c' σ H1 q else q false H1) : tAnd c c' σ H q := h
theorem w_or {q : Bool → Hp → Prop} (h : c σ H fun b H1 => if b = true then q true H1 else c' σ H1 q) : tOr c c' σ H q := h
theorem w_not {q : Bool → Hp → Prop} (h : c σ H fun b H1 => q (!b) H1) : tNot c σ H q := h
theorem w_andV (h : ta σ H fun x H1 => ∃ c, x = .bl c ∧ if c = true then tb σ H1 Q else Q (.bl false) H1) : tAndV ta tb σ H Q := h
theorem w_orV (h : ta σ H fun x H1 => ∃ c, x = .bl c ∧ if c = true then Q (.bl true) H1 else tb σ H1 Q) : tOrV ta tb σ H Q := h
theorem w_notV (h : ta σ H fun x H1 => ∃ c, x = .bl c ∧ Q (.bl (!c)) H1) : tNotV ta σ H Q := h
theorem w_ifE {t : TT} (h : t σ H fun c H1 => if c = true then ta σ H1 Q else tb σ H1 Q) : tIf t ta tb σ H Q := h
theorem w_nil {q : List V → Hp → Prop} (h : q [] H) : tNil σ H q := h
theorem w_cons {q : List V → Hp → Prop} (h : ta σ H fun x H1 => tas σ H1 fun xs H2 => q (x :: xs) H2) : tCons ta tas σ H q := h
theorem w_tup (h : tas σ H fun xs H1 => xs.length ≤ sizeLine ∧ ∀ p, H1 p = none → Q (.ref p) (upd H1 p (.tup xs))) : tTup tas σ H Q := h
theorem w_lst (h : tas σ H fun xs H1 => xs.length ≤ sizeLine ∧ ∀ p, H1 p = none → Q (.ref p) (upd H1 p (.lst xs))) : tLst tas σ H Q := h
theorem w_CB {r : List V → Hp → VK → Prop} (h : tas σ H fun vs H1 => r vs H1 Q) : tCB r tas σ H Q := h
theorem w_call {sp : Sp} {dvs : List V} {E : XK} (h : tas σ H fun vs H1 => sp (vs ++ dvs) H1 Q E) : tCall sp dvs E tas σ H Q := h
theorem w_chain (h : ta σ H fun x H1 => tb σ H1 fun y H2 => r x y H2 fun z H3 => ∃ k, z = .bl k ∧ (if k = true then tc σ H3 fun w' H4 => r' y w' H4 Q else Q (.bl false) H3)) : tChain r r' ta tb tc σ H Q := h
/-- lists, tuples, texts by their places -/
theorem w_ixL {p : Addr} {xs : List V} {i : Int} (h : SqL K H p xs) (e : atI xs i = some v) (q : Q v H) : rIxL K (.ref p) (.int i) H Q := ⟨p, xs, i, v, rfl, rfl, h, e, q⟩
theorem w_ixT {p : Addr} {xs : List V} {i : Int} (h : SqT K H p xs) (e : atI xs i = some v) (q : Q v H) : rIxT K (.ref p) (.int i) H Q := ⟨p, xs, i, v, rfl, rfl, h, e, q⟩
theorem w_fld {f : Str} {a C dx : Addr} {fs : List (Str × V)} (h : ta σ H fun x H1 => ∃ a C dx fs v, x = .ref a ∧ H1 a = some (.ins C dx fs) ∧ Cls K C ∧ NoAttr K C f ∧ fs.lookup f = some v ∧ Q v H1) : tFld K ta f σ H Q := h
theorem w_eq (h : scal x y = true) (q : Q (.bl (decide (x = y))) H) : rEq x y H Q := ⟨h, q⟩
theorem w_ne (h : scal x y = true) (q : Q (.bl (!decide (x = y))) H) : rNe x y H Q := ⟨h, q⟩
end
section
variable {σ : L2.St} {H : Hp} {Q : VK} {v : V} {i : Int} {to ti : TE} {ts : TSet}
theorem w_gSub {k : L2.St → Hp → Prop} (h : to σ H fun o H1 => ti σ H1 fun i H2 => ts o i v H2 fun H3 => k σ H3) : gSub to ti ts v σ H k := h
theorem w_setL {p : Addr} {xs : List V} {j : Nat} {k : Hp → Prop} (h : H p = some (.lst xs)) (e : ixN xs.length i = some j) (q : k (upd H p (.lst (xs.set j v)))) : rSetL (.ref p) (.int i) v H k := ⟨p, xs, i, j, rfl, rfl, h, e, q⟩
theorem fmod_lo {a b : Int} (h : 0 < b) : 0 ≤ a.fmod b := Int.fmod_nonneg_of_pos a h
theorem fmod_hi {a b : Int} (h : 0 < b) : a.fmod b < b := Int.fmod_lt_of_pos a h
theorem fdiv_lo {a b : Int} (ha : 0 ≤ a) (h : 0 < b) : 0 ≤ a.fdiv b := by
  rw [Int.fdiv_eq_ediv_of_nonneg a
          (by omega)]
  exact Int.ediv_nonneg ha (by omega)
end
/-! ### branches -/
theorem iteD {p A B : Prop} {_ : Decidable p} (h1 : p → A) (h2 : ¬ p → B) : if decide p = true then A else B := by
  by_cases h : p
  · rw [decide_eq_true h, if_pos rfl]
    exact h1 h
  · rw [decide_eq_false h, if_neg Bool.false_ne_true]
    exact h2 h
theorem iteND {p A B : Prop} {_ : Decidable p} (h1 : ¬ p → A) (h2 : p → B) : if (!decide p) = true then A else B := by
  by_cases h : p
  · rw [decide_eq_true h]
    exact iteF (h2 h)
  · rw [decide_eq_false h]
    exact iteT (h1 h)
theorem iteNF {A B : Prop} (h : A) : if (!false) = true then A else B := h
theorem iteNT {A B : Prop} (h : B) : if (!true) = true then A else B := iteF h
theorem iteB {b : Bool} {A B : Prop} (h1 : b = true → A) (h2 : b = false → B) : if b = true then A else B := by
  cases b with
  | true => exact iteT (h1 rfl)
  | false => exact iteF (h2 rfl)
/-! ### the heap without the bag -/
def del (b : Addr) (H : Hp) : Hp := fun a => if a = b then none else H a
theorem del_self {b : Addr} {H : Hp} : del b H b = none := by unfold del; rw [if_pos rfl]
theorem del_ne {b a : Addr} {H : Hp} (h : a ≠ b) : del b H a = H a := by unfold del; rw [if_neg h]
theorem del_some {b a : Addr} {H : Hp} {o : HO} (h : del b H a = some o) : a ≠ b ∧ H a = some o := by
  unfold del at h
  split at h
  · cases h
  · exact ⟨by assumption, h⟩
open Evl (Ex) in
theorem ex_del {b : Addr} {H : Hp} : Ex (del b H) H := fun a o h => (del_some h).2
open Evl (Ex) in
/-- what the heap without the bag holds stays, in the new heap without the bag too -/
theorem ex_dd {b : Addr} {H H' : Hp} (e : Ex (del b H) H') : Ex (del b H) (del b H') := fun a o h => by
  rw [del_ne (del_some h).1]
  exact e a o h
open Evl (Ex) in
theorem ex_upd_bag {b : Addr} {H : Hp} {o : HO} : Ex (del b H) (upd H b o) := fun a u h => by
  rw [upd_ne (del_some h).1]
  exact (del_some h).2
open Evl (Ex) in
theorem ex_dtrans {b : Addr} {H H1 H2 : Hp} (e : Ex (del b H) H1) (e' : Ex (del b H1) H2) : Ex (del b H) H2 := (ex_dd e).trans e'
open Evl (Ex) in
theorem ex_new_d {b p : Addr} {H : Hp} {o : HO} (h : H p = none) : Ex (del b H) (upd H p o) := ex_del.trans (Ex.new h)
/-- the bag of drawn numbers: n bounds how many were mixed -/
structure BagAt (H : Hp) (b : Addr) (n : Nat) : Prop where
  ex : ∃ d m t : Int, H b = some (.lst [.int d, .int m, .int t]) ∧ 0 ≤ d ∧ 0 ≤ m ∧ m < 2305843009214193951 ∧ 0 ≤ t ∧ t ≤ n
theorem BagAt.mono {H : Hp} {b : Addr} {n m : Nat} (h : BagAt H b n) (l : n ≤ m) : BagAt H b m := by
  obtain ⟨d, m', t, h1, h2, h3, h4, h5, h6⟩ := h.ex
  exact ⟨d, m', t, h1, h2, h3, h4, h5, by omega⟩
theorem BagAt.new {H : Hp} {b p : Addr} {n : Nat} {o : HO} (h : BagAt H b n) (f : H p = none) : BagAt (upd H p o) b n := by
  obtain ⟨d, m', t, h1, h2⟩ := h.ex
  exact ⟨d, m', t, by rw [upd_ne (ne_of_none h1 f)]; exact h1, h2⟩
theorem BagAt.upd {H : Hp} {b p : Addr} {n : Nat} {o : HO} (h : BagAt H b n) (f : b ≠ p) : BagAt (upd H p o) b n := by
  obtain ⟨d, m', t, h1, h2⟩ := h.ex
  exact ⟨d, m', t, by rw [upd_ne f]; exact h1, h2⟩
theorem BagAt.ne_none {H : Hp} {b p : Addr} {n : Nat} (h : BagAt H b n) (f : H p = none) : b ≠ p := by
  obtain ⟨d, m', t, h1, h2⟩ := h.ex
  exact ne_of_none h1 f
theorem BagAt.ext {H H' : Hp} {b : Addr} {n : Nat} (h : BagAt H b n) (e : Evl.Ex H H') : BagAt H' b n := by
  obtain ⟨d, m', t, h1, h2⟩ := h.ex
  exact ⟨d, m', t, e _ _ h1, h2⟩
theorem w_size {n : Nat} {p : Prop} (h : n ≤ sizeLine) (q : p) : n ≤ sizeLine ∧ p := ⟨h, q⟩
theorem w_rfl {α : Type} {x y : α} {p : Prop} (e : x = y) (h : p) : x = y ∧ p := ⟨e, h⟩
theorem BagAt.ne {H : Hp} {b p : Addr} {n : Nat} {xs : List V} (h : BagAt H b n) (f : H p = some (.lst xs)) (hx : ∀ i j k : Int, xs ≠ [.int i, .int j, .int k]) : p ≠ b := by
  obtain ⟨d, m', t, h1, _⟩ := h.ex
  intro e
  subst e
  rw [f] at h1
  injection h1 with h1
  injection h1 with h1
  exact hx _ _ _ h1

/-! ### what the module's names hold -/
structure Blt (mg : Str → Option Value) : Prop where
  len_ : mg "len" = none
  int_ : mg "int" = none
  abs_ : mg "abs" = none
  max_ : mg "max" = none
  min_ : mg "min" = none
  any_ : mg "any" = none
  all_ : mg "all" = none
  str_ : mg "str" = none
  bool_ : mg "bool" = none
  list_ : mg "list" = none
  tuple_ : mg "tuple" = none
  dict_ : mg "dict" = none
  isinstance_ : mg "isinstance" = none
  range_ : mg "range" = none
  reversed_ : mg "reversed" = none
  enumerate_ : mg "enumerate" = none
  zip_ : mg "zip" = none
section
variable {X : Cx} {k j : Nat} {x : Str} {sp : Sp} {dvs : List V} {p pos : Pos}
theorem pe_c0 (c : C8.Cal X.prog X.w X.K X.mg X.base k x sp dvs) (hr : Room j X.A) (hk : k ≤ j) (hg : Gl X x) (hdb : (x == ("__debug__" : Str)) = false := by decide) : PE X (.Call (.Name x p) [] [] pos) (tCall sp dvs C8.E0 tNil) := by
  obtain ⟨f,
          fd, ps, ds, F, hm, kp, b, d⟩ := c.ex
  exact pe_call0 F (hr.mono hk) hg hm kp b d C8.pass0 hdb
theorem hu64 {A : Around} (hr : Room j A) : A.units + 64 < cLine := by have := hr.un; omega
end
end LP
namespace LP
open PySem L2
/-! ### readings under names -/
def rInt1 : List V → Hp → VK → Prop := fun xs H Q => (∃ i, xs = [.int i] ∧ Q (.int i) H) ∨ ∃ k, xs = [.bl k] ∧ Q (.int (if k then 1 else 0)) H
def rAbs : List V → Hp → VK → Prop := fun xs H Q => ∃ i, xs = [.int i] ∧ Q (.int (if i < 0 then -i else i)) H
def rMax2 : List V → Hp → VK → Prop := fun ys H Q => ∃ j k, ys = [.int j, .int k] ∧ Q (.int (if k > j then k else j)) H
def rMin2 : List V → Hp → VK → Prop := fun xs H Q => ∃ i j, xs = [.int i, .int j] ∧ Q (.int (if j < i then j else i)) H
def rLenS (K : PySem.W.Frag) : List V → Hp → VK → Prop := fun us H Q => ∃ p ys, us = [.ref p] ∧ (SqL K H p ys ∨ SqT K H p ys) ∧ Q (.int ys.length) H
def rLenStr : List V → Hp → VK → Prop := fun xs H Q => ∃ z, xs = [.str z] ∧ z.length ≤ sizeLine ∧ Q (.int z.length) H
def rListS (K : PySem.W.Frag) : List V → Hp → VK → Prop := fun us H Q => ∃ p ys, us = [.ref p] ∧ (SqL K H p ys ∨ SqT K H p ys) ∧ ∀ l, H l = none → Q (.ref l) (upd H l (.lst ys))
def rTupS (K : PySem.W.Frag) : List V → Hp → VK → Prop := fun xs H Q => ∃ p ys, xs = [.ref p] ∧ ((SqL K H p ys ∧ ∀ l, H l = none → Q (.ref l) (upd H l (.tup ys))) ∨ (SqT K H p ys ∧ Q (.ref p) H))
def rDictS : List V → Hp → VK → Prop := fun xs H Q => ∃ (a : Addr) (kvs : List (Key × V)), xs = [.ref a] ∧ Rd H a (.dK kvs) ∧ ∀ p, H p = none → Q (.ref p) (upd H p (.dK kvs))
def rBoolL (K : PySem.W.Frag) : List V → Hp → VK → Prop := fun xs H Q => ∃ (a : Addr) (zs : List V), xs = [.ref a] ∧ SqL K H a zs ∧ Q (.bl (!zs.isEmpty)) H
def rAddS : R2 := fun x y H Q => ∃ i j, x = .str i ∧ y = .str j ∧ i.length + j.length ≤ sizeLine ∧ Q (.str (i ++ j)) H
def rIsN : R2 := fun v u H Q => u = .non ∧ Q (.bl (decide (v = .non))) H
def rNotN : R2 := fun v u H Q => u = .non ∧ Q (.bl (!decide (v = .non))) H
def rInSg : R2 := fun x y H Q => ∃ (c : Nat) (z : Str), x = .str ⟨#[c]⟩ ∧ y = .str z ∧ Q (.bl (decide (c ∈ z.cps.toList))) H
def rNotInSg : R2 := fun x y H Q => ∃ (c : Nat) (z : Str), x = .str ⟨#[c]⟩ ∧ y = .str z ∧ Q (.bl (!decide (c ∈ z.cps.toList))) H
def rSplit : V → List V → Hp → VK → Prop := fun x xs H Q => ∃ a b, x = .str a ∧ xs = [.str b] ∧ (b.length == 0) = false ∧ a.length + 2 ≤ sizeLine ∧ rNewStrs (Txt.split a b) H Q
def rJoin (K : PySem.W.Frag) : V → List V → Hp → VK → Prop := fun x xs H Q => ∃ a p, ∃ ys : List Str, x = .str a ∧ xs = [.ref p] ∧ (SqL K H p (ys.map V.str) ∨ SqT K H p (ys.map V.str)) ∧ (ys.map (·.length)).sum + ys.length * a.length ≤ 16777216 ∧ Q (.str (Txt.join a ys)) H
def rUpper : V → List V → Hp → VK → Prop := fun x xs H Q => ∃ a, x = .str a ∧ xs = [] ∧ a.length ≤ 5592405 ∧ Q (.str (Txt.upper a)) H
def rIsB (f : Str → Bool) : V → List V → Hp → VK → Prop := fun x xs H Q => ∃ a, x = .str a ∧ xs = [] ∧ True ∧ Q (.bl (f a)) H
def tTru (K : PySem.W.Frag) (ta : TE) : TT := fun σ H Q => ta σ H fun v H1 => ∃ b, TruV K v H1 b ∧ Q b H1
section
variable {to te : TE} {o e : Expr} {X : Cx}
theorem call_int1' : CallR X (.type "int") rInt1 := call_int1
theorem call_abs' : CallR X (.builtin "abs") rAbs := call_abs
theorem call_max2' (hc : X.calm = true) : CallR X (.builtin "max") rMax2 := call_max2 hc
theorem call_min2' (hc : X.calm = true) : CallR X (.builtin "min") rMin2 := call_min2 hc
theorem call_len_seq' : CallR X (.builtin "len") (rLenS X.K) := call_len_seq
theorem call_len_str' : CallR X (.builtin "len") rLenStr := call_len_str
theorem call_list_of' : CallR X (.type "list") (rListS X.K) := call_list_of
theorem call_tuple_of' : CallR X (.type "tuple") (rTupS X.K) := call_tuple_of
theorem call_dictD' : CallR X (.type "dict") rDictS := call_dictD
theorem call_boolL' : CallR X (.type "bool") (rBoolL X.K) := call_boolL
theorem op_add_str' : OpR X (binaryOp .Add) rAddS := op_add_str
theorem op_isN' : OpR X (compareOp .Is) rIsN := op_isN
theorem op_notN' : OpR X (compareOp .IsNot) rNotN := op_notN
theorem op_in_sign' : OpR X (compareOp .In) rInSg := op_in_sign
theorem op_notIn_sign' : OpR X (compareOp .NotIn) rNotInSg := op_notIn_sign
theorem pe_split' {apos pos : Pos} (ho : PE X o to) (he : PE X e te) (hs : starEach [e] X.env = [(false, eval e X.env)] := by rfl) (hbase : attributeBase o "split" X.env (eval o X.env) = eval o X.env := by rfl) (hline : (apos.endLine == pos.line) = true := by rfl) :
    PE X (.Call (.Attribute o "split" apos) [e] [] pos) (tM1 rSplit to te) := pe_split ho he hs hbase hline
theorem pe_join' {apos pos : Pos} (ho : PE X o to) (he : PE X e te) (hs : starEach [e] X.env = [(false, eval e X.env)] := by rfl) (hbase : attributeBase o "join" X.env (eval o X.env) = eval o X.env := by rfl) (hline : (apos.endLine == pos.line) = true := by rfl) :
    PE X (.Call (.Attribute o "join" apos) [e] [] pos) (tM1 (rJoin X.K) to te) := pe_join ho he hs hbase hline
theorem pe_upper' {apos pos : Pos} (ho : PE X o to) (hbase : attributeBase o "upper" X.env (eval o X.env) = eval o X.env := by rfl) (hline : (apos.endLine == pos.line) = true := by rfl) :
    PE X (.Call (.Attribute o "upper" apos) [] [] pos) (tM0 rUpper to) := pe_upper ho hbase hline
theorem mt_isascii' : MtR X "str.isascii" (rIsB Txt.isascii) := mt_isascii
theorem mt_isalpha' : MtR X "str.isalpha" (rIsB Txt.isalpha) := mt_isalpha
theorem mt_islower' : MtR X "str.islower" (rIsB Txt.islower) := mt_islower
theorem pt_truth' (he : PE X e te) (hw : ∀ whole, isTrue e X.env whole = (do let v ← whole; standAt e.pos; holding [v] (truthy v)) := by intro _; rfl) : PT X e (tTru X.K te) := pt_truth he hw
end
section
variable {K : PySem.W.Frag} {σ : L2.St} {H : Hp} {Q : VK} {v x y : V} {i j : Int} {to ti ta tb te : TE} {p : Addr} {xs ys : List V} {tas : TA}
theorem w_int1 (h : Q (.int i) H) : rInt1 [.int i] H Q := .inl ⟨i, rfl, h⟩
theorem w_intB {k : Bool} (h : Q (.int (if k then 1 else 0)) H) : rInt1 [.bl k] H Q := .inr ⟨k, rfl, h⟩
theorem w_abs (h : Q (.int (if i < 0 then -i else i)) H) : rAbs [.int i] H Q := ⟨i, rfl, h⟩
theorem w_max2 (h : Q (.int (if j > i then j else i)) H) : rMax2 [.int i, .int j] H Q := ⟨i, j, rfl, h⟩
theorem w_min2 (h : Q (.int (if j < i then j else i)) H) : rMin2 [.int i, .int j] H Q := ⟨i, j, rfl, h⟩
theorem w_lenL (h : SqL K H p ys) (q : Q (.int ys.length) H) : rLenS K [.ref p] H Q := ⟨p, ys, rfl, .inl h, q⟩
theorem w_lenT (h : SqT K H p ys) (q : Q (.int ys.length) H) : rLenS K [.ref p] H Q := ⟨p, ys, rfl, .inr h, q⟩
theorem w_lenStr {z : Str} (h : z.length ≤ sizeLine) (q : Q (.int z.length) H) : rLenStr [.str z] H Q := ⟨z, rfl, h, q⟩
theorem w_listL (h : SqL K H p ys) (q : ∀ l, H l = none → Q (.ref l) (upd H l (.lst ys))) : rListS K [.ref p] H Q := ⟨p, ys, rfl, .inl h, q⟩
theorem w_listT (h : SqT K H p ys) (q : ∀ l, H l = none → Q (.ref l) (upd H l (.lst ys))) : rListS K [.ref p] H Q := ⟨p, ys, rfl, .inr h, q⟩
theorem w_tupL (h : SqL K H p ys) (q : ∀ l, H l = none → Q (.ref l) (upd H l (.tup ys))) : rTupS K [.ref p] H Q := ⟨p, ys, rfl, .inl ⟨h, q⟩⟩
theorem w_boolL (h : SqL K H p ys) (q : Q (.bl (!ys.isEmpty)) H) : rBoolL K [.ref p] H Q := ⟨p, ys, rfl, h, q⟩
theorem w_addS {a b : Str} (h : a.length + b.length ≤ sizeLine) (q : Q (.str (a ++ b)) H) : rAddS (.str a) (.str b) H Q := ⟨a, b, rfl, rfl, h, q⟩
theorem w_isN (q : Q (.bl (decide (x = .non))) H) : rIsN x .non H Q := ⟨rfl, q⟩
theorem w_notN (q : Q (.bl (!decide (x = .non))) H) : rNotN x .non H Q := ⟨rfl, q⟩
theorem w_inSg {c : Nat} {z : Str} (q : Q (.bl (decide (c ∈ z.cps.toList))) H) : rInSg (.str ⟨#[c]⟩) (.str z) H Q := ⟨c, z, rfl, rfl, q⟩
theorem w_M0 {r : V → List V → Hp → VK → Prop} (h : to σ H fun x H1 => (∃ a, x = .str a) ∧ r x [] H1 Q) : tM0 r to σ H Q := h
theorem w_M1 {r : V → List V → Hp → VK → Prop} (h : to σ H fun x H1 => (∃ a, x = .str a) ∧ te σ H1 fun y H2 => r x [y] H2 Q) : tM1 r to te σ H Q := h
theorem w_str {z : Str} {p : Prop} (h : p) : (∃ a, V.str z = .str a) ∧ p := ⟨⟨z, rfl⟩, h⟩
theorem w_isB {f : Str → Bool} {z : Str} (q : Q (.bl (f z)) H) : rIsB f (.str z) [] H Q := ⟨z, rfl, rfl, trivial, q⟩
theorem w_split {a b : Str} (h : (b.length == 0) = false) (h2 : a.length + 2 ≤ sizeLine) (q : ∀ p, H p = none → Q (.ref p) (upd H p (.lst ((Txt.split a b).map V.str)))) : rSplit (.str a) [.str b] H Q := ⟨a, b, rfl, rfl, h, h2, q⟩
theorem w_join {a : Str} {ss : List Str} (h : SqL K H p (ss.map V.str)) (hl : (ss.map (·.length)).sum + ss.length * a.length ≤ 16777216) (q : Q (.str (Txt.join a ss)) H) : rJoin K (.str a) [.ref p] H Q := ⟨a, p, ss, rfl, rfl, .inl h, hl, q⟩
theorem w_upper {a : Str} (h : a.length ≤ 5592405) (q : Q (.str (Txt.upper a)) H) : rUpper (.str a) [] H Q := ⟨a, rfl, rfl, h, q⟩
theorem w_BM {T : String} {r : V → List V → Hp → VK → Prop} (h : to σ H fun x H1 => tyV K T x H1 ∧ tas σ H1 fun xs H2 => r x xs H2 Q) : tBM K T r to tas σ H Q := h
theorem w_BM0 {T : String} {r : V → List V → Hp → VK → Prop} (h : to σ H fun x H1 => tyV K T x H1 ∧ r x [] H1 Q) : tBM0 K T r to σ H Q := h
theorem w_tyS {z : Str} {q : Prop} (h : q) : tyV K "str" (.str z) H ∧ q := ⟨rfl, h⟩
theorem w_tyL {q : Prop} (hl : H p = some (.lst xs)) (h : q) : tyV K "list" (.ref p) H ∧ q := ⟨.inl ⟨rfl, xs, SqL.of hl⟩, h⟩
theorem w_app (hl : H p = some (.lst xs)) (hz : xs.length < sizeLine) (q : Q .non (upd H p (.lst (xs ++ [v])))) : rAppend (.ref p) [v] H Q := ⟨p, xs, v, rfl, rfl, hl, hz, q⟩
theorem w_ext {b : Addr} {zs : List V} (hl : H p = some (.lst xs)) (hb : H b = some (.lst zs)) (hz : xs.length + zs.length ≤ sizeLine) (q : Q .non (upd H p (.lst (xs ++ zs)))) : rExtend (.ref p) [.ref b] H Q := ⟨p, b, xs, zs, rfl, rfl, hl, hb, hz, q⟩
theorem w_cat {b : Addr} {zs : List V} (hl : H p = some (.lst xs)) (hb : H b = some (.lst zs)) (hz : xs.length + zs.length ≤ sizeLine) (q : ∀ l, H l = none → Q (.ref l) (upd H l (.lst (xs ++ zs)))) : rCat (.ref p) (.ref b) H Q := ⟨p, b, xs, zs, rfl, rfl, hl, hb, hz, q⟩
theorem w_ixS {z : Str} {c : Nat} (hz : z.length ≤ sizeLine) (e : atI z.cps.toList i = some c) (q : Q (.str ⟨#[c]⟩) H) : rIxS (.str z) (.int i) H Q := ⟨z, i, c, rfl, rfl, hz, e, q⟩
theorem w_inL {neg : Bool} (h : SqL K H p xs) (hx : flatV x = true) (hs : xs.all flatV = true) (q : Q (.bl (if neg then !inV x xs else inV x xs)) H) : rIn K neg x (.ref p) H Q := ⟨p, xs, rfl, .inl h, hx, hs, q⟩
theorem w_inT {neg : Bool} (h : SqT K H p xs) (hx : flatV x = true) (hs : xs.all flatV = true) (q : Q (.bl (if neg then !inV x xs else inV x xs)) H) : rIn K neg x (.ref p) H Q := ⟨p, xs, rfl, .inr h, hx, hs, q⟩
theorem w_sl {r : V → Option Int → Option Int → Hp → VK → Prop} {tl th : TO} (h : te σ H fun x H1 => tl σ H1 fun l H2 => th σ H2 fun u H3 => r x l u H3 Q) : tSl r te tl th σ H Q := h
theorem w_noPart {q : Option Int → Hp → Prop} (h : q none H) : tNoPart σ H q := h
theorem w_part {q : Option Int → Hp → Prop} (h : te σ H fun x H1 => ∃ i, x = .int i ∧ q (some i) H1) : tPart te σ H q := h
theorem w_ki {q : Int → Prop} (h : q i) : ∃ i', V.int i = .int i' ∧ q i' := ⟨i, rfl, h⟩
theorem w_slS {z : Str} {lo hi : Option Int} (h : z.length ≤ sizeLine) (q : Q (.str (cutS z lo hi)) H) : rSlS (.str z) lo hi H Q := ⟨z, rfl, h, q⟩
theorem w_tru {q : Bool → Hp → Prop} (h : te σ H fun x H' => ∃ k, TruV K x H' k ∧ q k H') : tTru K te σ H q := h
theorem w_truL {q : Bool → Prop} (h : SqL K H p xs) (hq : q (!xs.isEmpty)) : ∃ k, TruV K (.ref p) H k ∧ q k := ⟨_, .inl ⟨xs, h, rfl⟩, hq⟩
/-- any, all of a list of truth values -/
theorem w_any {bs : List Bool} (h : SqL K H p (bs.map V.bl)) (q : Q (.bl (bs.any id)) H) : rAny K [.ref p] H Q := ⟨p, bs, rfl, h, q⟩
theorem w_all {bs : List Bool} (h : SqL K H p (bs.map V.bl)) (q : Q (.bl (bs.all id)) H) : rAll K [.ref p] H Q := ⟨p, bs, rfl, h, q⟩
/-- for and comprehensions: what is walked -/
theorem w_for {wi : TI} {g : TG} {tb : TS} {D : Ends} (h : wi σ H fun J H1 => ∃ W : Nat → Nat → L2.St → Hp → Prop, (∃ m, W 0 m σ H1) ∧ ∀ i m σ H, W i m σ H → (J.stop i H ∧ D.nx σ H) ∨ (J.go i H ∧ ∃ Go : L2.St → Hp → Prop, (∀ σ' H', Go σ' H' → ∃ m', m' < m ∧ W (i + 1) m' σ' H') ∧ ∀ x H', J.yld i H x H' → g x σ H' fun σ2 H2 => tb { D with nx := Go, ct := Go, bk := D.nx } σ2 H2)) : tFor wi g tb D σ H := h
end
end LP
namespace LP
open PySem L2
section
variable {X : Cx} {K : PySem.W.Frag} {o e a : Expr} {es : List Expr} {te to ta : TE} {t : TA} {f : Str} {pos apos cpos : Pos} {tg : Expr}
theorem ix_tupK (hK : X.K = K) : IxR X (rIxT K) := hK ▸ ix_tup
theorem ix_listK (hK : X.K = K) : IxR X (rIxL K) := hK ▸ ix_list
theorem op_in_seqK (hK : X.K = K) : OpR X (compareOp .In) (rIn K false) := hK ▸ op_in_seq
theorem op_notIn_seqK (hK : X.K = K) : OpR X (compareOp .NotIn) (rIn K true) := hK ▸ op_notIn_seq
theorem op_eqDK (hK : X.K = K) (hu : X.A.units + 64 < cLine) : OpR X (compareOp .Eq) (rEqD K) := hK ▸ op_eqD hu
theorem op_neDK (hK : X.K = K) (hu : X.A.units + 64 < cLine) : OpR X (compareOp .NotEq) (rNeD K) := hK ▸ op_neD hu
theorem call_len_seqK (hK : X.K = K) : CallR X (.builtin "len") (rLenS K) := hK ▸ call_len_seq'
theorem call_list_ofK (hK : X.K = K) : CallR X (.type "list") (rListS K) := hK ▸ call_list_of'
theorem call_tuple_ofK (hK : X.K = K) : CallR X (.type "tuple") (rTupS K) := hK ▸ call_tuple_of'
theorem call_boolLK (hK : X.K = K) : CallR X (.type "bool") (rBoolL K) := hK ▸ call_boolL'
theorem cr_anyK (hK : X.K = K) (hc : X.calm = true) : CallR X (.builtin "any") (rAny K) := hK ▸ cr_any hc
theorem cr_allK (hK : X.K = K) (hc : X.calm = true) : CallR X (.builtin "all") (rAll K) := hK ▸ cr_all hc
theorem call_isiK1 (hK : X.K = K) : CallR X (.builtin "isinstance") (rIsi K) := hK ▸ call_isi
theorem sl_listK (hK : X.K = K) : SlR X (rSlL K) := hK ▸ sl_list
theorem pe_joinK (hK : X.K = K) (ho : PE X o to) (he : PE X e te) (hs : starEach [e] X.env = [(false, eval e X.env)] := by rfl) (hbase : attributeBase o "join" X.env (eval o X.env) = eval o X.env := by rfl) (hline : (apos.endLine == pos.line) = true := by rfl) :
    PE X (.Call (.Attribute o "join" apos) [e] [] pos) (tM1 (rJoin K) to te) := by
  subst hK
  exact pe_join' ho he hs hbase hline
theorem pe_fldK (hK : X.K = K) (he : PE X e ta) (hb : attributeBase e f X.env (eval e X.env) = eval e X.env) : PE X (.Attribute e f pos) (tFld K ta f) := by
  subst hK
  exact pe_fld he hb
theorem pi_listK (hK : X.K = K) (hl : PE X e te) : PI X tg e (iList K te) := by
  subst hK
  exact pi_list hl
theorem pi_tupK (hK : X.K = K) (hl : PE X e te) : PI X tg e (iTup K te) := by
  subst hK
  exact pi_tup hl
theorem pi_reversedK {p : Pos} (hK : X.K = K) (hg : Gl X "reversed") (hm : X.mg "reversed" = none) (ha : PA X [e] t) (hs : starEach [e] X.env = [(false, eval e X.env)] := by rfl) : PI X tg (.Call (.Name "reversed" p) [e] [] pos) (iRev K t) := by
  subst hK
  exact pi_reversed hg hm ha hs
theorem pg_tupK {k : Nat} {tt : TGs} {n : Nat} (hK : X.K = K) (hc : X.calm = true) (h : PGs X es tt) (hn : (assignEach es X.env).length = n := by rfl) (hst : (assignEach es X.env).findIdx? (·.1) = none := by rfl) : PG X (.Tuple es k pos) (gTup K n tt) := by
  subst hK
  exact pg_tup hc h hn hst
theorem pt_truthK (hK : X.K = K) (he : PE X e te) (hw : ∀ whole, isTrue e X.env whole = (do let v ← whole; standAt e.pos; holding [v] (truthy v)) := by intro _; rfl) : PT X e (tTru K te) := by
  subst hK
  exact pt_truth' he hw
theorem pe_bmK {T id : String} {name : Str} {r : V → List V → Hp → VK → Prop} (hK : X.K = K) (pa : PlainAttrs T) (slot : Slot T name id) (hty : typeOf (.builtin id) = pure (.type "method_descriptor")) (hm : MtR X id r) (ho : PE X o to) (ha : PA X (e :: es) t)
    (hbase : attributeBase o name X.env
            (eval o X.env) = eval o X.env := by rfl)
    (hfew :
            ((backTo cpos (starEach (e :: es) X.env)).all (fun x => !x.1) && (backToKw cpos (keywordEach [] X.env)).all (fun x => x.1.isSome)
      && decide
              ((e :: es).length + ([] : List Keyword).length + (if ([] : List Keyword).isEmpty then 0 else 1) < 30)) = true := by rfl)
    (hline :
            (apos.endLine == cpos.line) = true := by rfl) (hs : starEach (e :: es) X.env = (false, eval e X.env) :: starEach es X.env := by rfl) (hplain : (backTo cpos (starEach es X.env)).any (·.1) = false := by rfl) :
    PE X (.Call (.Attribute o name apos) (e :: es) [] cpos) (tBM K T r to t) := by
  subst hK
  exact pe_bm pa slot hty hm ho ha hbase hfew hline hs hplain
theorem pe_bm0K {T id : String} {name : Str} {r : V → List V → Hp → VK → Prop} (hK : X.K = K) (pa : PlainAttrs T) (slot : Slot T name id) (hty : typeOf (.builtin id) = pure (.type "method_descriptor")) (hm : MtR X id r) (ho : PE X o to)
    (hbase : attributeBase o name X.env (eval o X.env) = eval o X.env := by rfl) (hline : (apos.endLine == cpos.line) = true := by rfl) : PE X (.Call (.Attribute o name apos) [] [] cpos) (tBM0 K T r to) := by
  subst hK
  exact pe_bm0 pa slot hty hm ho hbase hline
end
end LP
namespace LP
open PySem L2
open Evl (Ex)
/-! ### rules of our own: a static method by its class or an instance, an own in, tuple of a dict -/
/-- C.m is a static method: its record at p, its def at g -/
structure SMet (K : PySem.W.Frag) (C : Addr) (mc : Value) (m : Str) (p g : Addr) : Prop where
  at_ : PySem.W.findCls K (.ref C) mc m = some (.get (.builtin "staticmethod.__get__") (.ref p) .none (.ref C))
  rc : ∃ rest, PySem.W.recIn K p "staticmethod" = some (.ref g :: rest)
  kp : PySem.W.keepIn K (.ref g) = true
/-- .. reached through an instance -/
structure SInst (K : PySem.W.Frag) (C : Addr) (m : Str) (p g : Addr) : Prop where
  pg : PySem.W.plainGet K C Str.empty =
          true
  ic : PySem.W.isClsIn K C =
          true
  at_ : PySem.W.findIn K
          (.ref C) m = some (some (.ref p))
  ty : PySem.W.typeIn K (.ref p) = some (.type "staticmethod")
  get : PySem.W.specialIn K (.ref p) "__get__" = some (some (.builtin "staticmethod.__get__"))
  tk : PySem.W.takesIn K
          (.ref p) = some false
  cp : PySem.W.copiedNames.contains m =
          false
  rc : ∃ rest, PySem.W.recIn K p "staticmethod" = some (.ref g :: rest)
  kp : PySem.W.keepIn K (.ref g) = true
def tSMeth (C : Addr) (sp : Sp) (E : XK) (ta : TE) (t : TA) : TE := fun σ H Q => ta σ H fun x H1 => x = .ref C ∧ t σ H1 fun vs H2 => sp vs H2 Q E
def tSInst (C : Addr) (m : Str) (sp : Sp) (E : XK) (ta : TE) (t : TA) : TE := fun σ H Q => ta σ H fun x H1 => ∃ a dx fs, x = .ref a ∧ H1 a = some (.ins C dx fs) ∧ fs.lookup m = none ∧ t σ H1 fun vs H2 => sp vs H2 Q E
section
variable {X : Cx} {CX : CXT} {k : Nat} {C p g : Addr} {mc : Value} {sp : Sp} {E : XK} {o e : Expr} {es : List Expr} {m : Str} {pos apos : Pos} {ta : TE} {t : TA} {pl : Sem Bool} {fd : FuncData} {ps : List Str}
theorem pe_smeth (he : PE X o ta) (r : ClX.CRead X.K C mc) (c : SMet X.K C mc m p g) (F : FnOk X.prog X.w X.K X.mg X.base CX k g fd ps sp) (hr : Room k X.A) (hb : Binds X.K fd ps []) (hx : Passes CX X E) (ha : PA X (e :: es) t)
    (hst : starEach
            (e :: es) X.env = (false, eval e X.env) :: starEach es X.env := by rfl) (hpl : (backTo pos (starEach es X.env)).any (·.1) = false := by rfl)
    (ht : eval (.Call (.Attribute o m apos) (e :: es) [] pos) X.env = (do let ov ← eval o X.env; standAt apos.atName; let (f, first) ← holding [ov] (getMethod ov m pl); callWith pos f first (backTo pos (starEach (e :: es) X.env)) (backToKw pos (keywordEach [] X.env))) := by rfl) :
    PE X (.Call (.Attribute o m apos) (e :: es) [] pos) (tSMeth C sp E ta t) := by
  refine ⟨fun pins s σ H Q I h => PySem.W.methodCall_KW (pl := pl) (thn (he.run pins s σ H _ I h) fun u s1 ⟨x, H1, I1, rx, ex, q⟩ => ?_) ht⟩
  subst ex
  cases (show u = Value.ref C from rx)
  obtain ⟨rest, hp⟩ := c.rc
  refine PySem.W.method_cls I1.kIn r.ga (PySem.W.cls_bind I1.kIn r.rd c.at_ (wpAny_call (PySem.W.sm_get (s := { s1 with toks := s1.toks + 1 }) I1.kIn hp (PySem.W.handed_on rfl ?_))))
  have I2 : Inv X pins σ H1 { s1 with toks := s1.toks + 1 } := I1.tok _
  refine PySem.W.callWith_K (first := []) (h₀ := X.base) I.ok.mod.kin c.kp (thn (ha.run pos pins _ σ H1 _ I2 q) fun us s3 ⟨vs, H2, I3, rv, q2⟩ => ⟨I3.kIn, ?_⟩) hst hpl
  exact run_fn (us := us) (vs := vs) F hr hb .nil hx I3 rv (by rw [List.append_nil]; exact q2)
theorem pe_sinst (he : PE X o ta) (c : SInst X.K C m p g) (F : FnOk X.prog X.w X.K X.mg X.base CX k g fd ps sp) (hr : Room k X.A) (hb : Binds X.K fd ps []) (hx : Passes CX X E) (ha : PA X (e :: es) t)
    (hst : starEach
            (e :: es) X.env = (false, eval e X.env) :: starEach es X.env := by rfl) (hpl : (backTo pos (starEach es X.env)).any (·.1) = false := by rfl)
    (ht : eval (.Call (.Attribute o m apos) (e :: es) [] pos) X.env = (do let ov ← eval o X.env; standAt apos.atName; let (f, first) ← holding [ov] (getMethod ov m pl); callWith pos f first (backTo pos (starEach (e :: es) X.env)) (backToKw pos (keywordEach [] X.env))) := by rfl) :
    PE X (.Call (.Attribute o m apos) (e :: es) [] pos) (tSInst C m sp E ta t) := by
  refine ⟨fun pins s σ H Q I h => PySem.W.methodCall_KW (pl := pl) (thn (he.run pins s σ H _ I h) fun u s1 ⟨x, H1, I1, rx, a, dx, fs, ex, ea, l, q⟩ => ?_) ht⟩
  subst ex
  cases (show u =
          Value.ref a from rx)
  obtain ⟨mA,
          O, rr, _, _, _⟩ := ins_get I1.hok ea
  have hn : mA m =
          none := RelO.none_of (by rw [← l]; exact rr m)
  obtain ⟨od, J, hl⟩ := O.look
  obtain ⟨rest, hp⟩ := c.rc
  have I2 : Inv X pins σ H1 { s1 with toks := s1.toks + 1 } := I1.tok _
  refine PySem.W.method_usual (r := some (.ref p)) I1.kIn J (PySem.W.plainGet_of (show PySem.W.plainGet X.K C m = true from c.pg)).1 (PySem.W.plainGet_of (show PySem.W.plainGet X.K C m = true from c.pg)).2 c.at_ ?_ ?_
  · show
          ((PySem.W.typeIn X.K (.ref p)).any fun t => t != .type "function" && t != .type "method_descriptor" && t != .type "wrapper_descriptor") = true
    rw [c.ty]
    decide +kernel
  · refine PySem.W.get_bind I1.kIn J (PySem.W.plainGet_of (show PySem.W.plainGet X.K C m = true from c.pg)).1 (ClX.find_cm c.ic c.at_ c.get c.tk c.cp (by rw [hl m, hn])) (PySem.W.plainGet_of (show PySem.W.plainGet X.K C m = true from c.pg)).2 (wpAny_call (PySem.W.sm_get (s := { s1 with toks := s1.toks + 1 }) I1.kIn hp (PySem.W.handed_on rfl ?_)))
    refine PySem.W.callWith_K (first := []) (h₀ := X.base) I.ok.mod.kin c.kp (thn (ha.run pos pins _ σ H1 _ I2 q) fun us s3 ⟨vs, H2, I3, rv, q2⟩ => ⟨I3.kIn, ?_⟩) hst hpl
    exact run_fn (us := us) (vs := vs) F hr hb .nil hx I3 rv (by rw [List.append_nil]; exact q2)
end
/-! ### x in o, o an instance of the class at C with __contains__ -/
def rOwnIn (C : Addr) (neg : Bool) (sp : Sp) (E : XK) : R2 := fun x y H Q => ∃ a dx fs, y = .ref a ∧ H a = some (.ins C dx fs) ∧ sp [y, x] H (fun v H' => ∃ b, v = .bl b ∧ Q (.bl (if neg then !b else b)) H') E
section
variable {X : Cx} {CX : CXT} {k : Nat} {C g : Addr} {sp : Sp} {E : XK} {fd : FuncData} {ps : List Str}
theorem contains_i {pins : List (Addr × Obj)} {σ : L2.St} {H : Hp} {s : Shared} {a dx : Addr} {fs : List (Str × V)} {v : Value} {A : Around} {Q : Bool → Shared → Prop} {Ex : Value → Shared → Prop} (I : Inv X pins σ H s) (e : H a = some (.ins C dx fs)) (hm : Meth X.K C "__contains__" g)
    (h : wpAny (model X.prog X.w) A (call (.ref g) [.ref a, v]) (fun r s' => wpAny (model X.prog X.w) A (truthy r) Q Ex s') Ex s) : wpAny (model X.prog X.w) A (contains (.ref a) v) Q Ex s := by
  obtain ⟨mA,
          O, _, _, _, _⟩ := ins_get I.hok e
  obtain ⟨od, J, hl⟩ := O.look
  unfold contains
  have look := PySem.W.looks_findIn (M := model X.prog X.w) I.kIn hm.at_
  refine wpAny_holding (wpAny_bind (wpAny_bind (J.type.here (look.here ?_))))
  rw [if_neg (show ¬ ((some (Value.ref g) == some Value.none) = true) by simp)]
  exact wpAny_bind (PySem.W.unlessNone_K I.kIn J hm.at_ hm.fn h)
theorem op_own_in (hm : Meth X.K C "__contains__" g) (F : FnOk X.prog X.w X.K X.mg X.base CX k g fd ps sp) (hr : Room k X.A) (hb : Binds X.K fd ps []) (hx : Passes CX X E) : OpR X (compareOp .In) (rOwnIn C false sp E) := by
  intro pins s σ H x y v u Q I rx ry h; obtain ⟨a, dx, fs, rfl, e, q⟩ := h
  cases (show u =
          Value.ref a from ry)
  refine wpAny_bind (contains_i I e hm ?_)
  refine thn (run_fn (us := [.ref a, v]) (vs := [.ref a, x]) F hr hb .nil hx I (.cons rfl (.cons rx .nil)) q) fun r s1 ⟨z, H1, I1, rz, b, ez, q1⟩ => ?_
  subst ez
  cases (show r = Value.bool b from rz)
  exact wpAny_truthy_bool (wpAny_pure ⟨.bl b, H1, I1, rfl, q1⟩)
theorem op_own_notin (hm : Meth X.K C "__contains__" g) (F : FnOk X.prog X.w X.K X.mg X.base CX k g fd ps sp) (hr : Room k X.A) (hb : Binds X.K fd ps []) (hx : Passes CX X E) : OpR X (compareOp .NotIn) (rOwnIn C true sp E) := by
  intro pins s σ H x y v u Q I rx ry h; obtain ⟨a, dx, fs, rfl, e, q⟩ := h
  cases (show u =
          Value.ref a from ry)
  refine wpAny_bind (contains_i I e hm ?_)
  refine thn (run_fn (us := [.ref a, v]) (vs := [.ref a, x]) F hr hb .nil hx I (.cons rfl (.cons rx .nil)) q) fun r s1 ⟨z, H1, I1, rz, b, ez, q1⟩ => ?_
  subst ez
  cases (show r = Value.bool b from rz)
  exact wpAny_truthy_bool (wpAny_pure ⟨.bl !b, H1, I1, rfl, q1⟩)
/-- a static method of the class at C, as a promise -/
structure SCal (P : Program) (w : World) (K : PySem.W.Frag) (mg : Str → Option Value) (base : Heap) (k : Nat) (C : Addr) (mc : Value) (m : Str) (sp : Sp) : Prop where
  ex : ∃ (p g : Addr) (fd : FuncData) (ps : List Str), ClX.CRead K C mc ∧ SMet K C mc m p g ∧ SInst K C m p g ∧ FnOk P w K mg base C8.CX0 k g fd ps sp ∧ Binds K fd ps []
theorem pe_sm {mc : Value} {j : Nat} {m : Str} {o e : Expr} {es : List Expr} {pos apos : Pos} {ta : TE} {t : TA} {pl : Sem Bool} (c : SCal X.prog X.w X.K X.mg X.base k C mc m sp) (hr : Room j X.A) (hk : k ≤ j) (he : PE X o ta) (ha : PA X (e :: es) t)
    (hst : starEach
            (e :: es) X.env = (false, eval e X.env) :: starEach es X.env := by rfl) (hpl : (backTo pos (starEach es X.env)).any (·.1) = false := by rfl)
    (ht : eval (.Call (.Attribute o m apos) (e :: es) [] pos) X.env = (do let ov ← eval o X.env; standAt apos.atName; let (f, first) ← holding [ov] (getMethod ov m pl); callWith pos f first (backTo pos (starEach (e :: es) X.env)) (backToKw pos (keywordEach [] X.env))) := by rfl) :
    PE X (.Call (.Attribute o m apos) (e :: es) [] pos) (tSMeth C sp C8.E0 ta t) := by
  obtain ⟨p, g, fd, ps, r, c1, c2, F, b⟩ := c.ex
  exact pe_smeth (pl := pl) he r c1 F (hr.mono hk) b C8.pass0 ha hst hpl ht
theorem pe_si {mc : Value} {j : Nat} {m : Str} {o e : Expr} {es : List Expr} {pos apos : Pos} {ta : TE} {t : TA} {pl : Sem Bool} (c : SCal X.prog X.w X.K X.mg X.base k C mc m sp) (hr : Room j X.A) (hk : k ≤ j) (he : PE X o ta) (ha : PA X (e :: es) t)
    (hst : starEach
            (e :: es) X.env = (false, eval e X.env) :: starEach es X.env := by rfl) (hpl : (backTo pos (starEach es X.env)).any (·.1) = false := by rfl)
    (ht : eval (.Call (.Attribute o m apos) (e :: es) [] pos) X.env = (do let ov ← eval o X.env; standAt apos.atName; let (f, first) ← holding [ov] (getMethod ov m pl); callWith pos f first (backTo pos (starEach (e :: es) X.env)) (backToKw pos (keywordEach [] X.env))) := by rfl) :
    PE X (.Call (.Attribute o m apos) (e :: es) [] pos) (tSInst C m sp C8.E0 ta t) := by
  obtain ⟨p, g, fd, ps, r, c1, c2, F, b⟩ := c.ex
  exact pe_sinst (pl := pl) he c2 F (hr.mono hk) b C8.pass0 ha hst hpl ht
/-- in and not in by the class's own method -/
theorem op_oin {j : Nat} {dvs : List V} (c : C8.Met X.prog X.w X.K X.mg X.base k C "__contains__" sp []) (hr : Room j X.A) (hk : k ≤ j) : OpR X (compareOp .In) (rOwnIn C false sp C8.E0) := by
  obtain ⟨f,
          fd, ps, ds, hc, hm, F, b, d⟩ := c.ex
  cases d
  exact op_own_in hm F (hr.mono hk) b C8.pass0
theorem op_onin {j : Nat} {dvs : List V} (c : C8.Met X.prog X.w X.K X.mg X.base k C "__contains__" sp []) (hr : Room j X.A) (hk : k ≤ j) : OpR X (compareOp .NotIn) (rOwnIn C true sp C8.E0) := by
  obtain ⟨f,
          fd, ps, ds, hc, hm, F, b, d⟩ := c.ex
  cases d
  exact op_own_notin hm F (hr.mono hk) b C8.pass0
end
section
variable {K : PySem.W.Frag} {σ : L2.St} {H : Hp} {Q : VK} {C : Addr} {sp : Sp} {E : XK} {ta : TE} {t : TA} {m : Str}
theorem w_smeth (h : ta σ H fun x H1 => x = .ref C ∧ t σ H1 fun vs H2 => sp vs H2 Q E) : tSMeth C sp E ta t σ H Q := h
theorem w_ownIn {neg : Bool} {a dx : Addr} {fs : List (Str × V)} {x : V} (e : H a = some (.ins C dx fs)) (h : sp [.ref a, x] H (fun v H' => ∃ b, v = .bl b ∧ Q (.bl (if neg then !b else b)) H') E) : rOwnIn C neg sp E x (.ref a) H Q := ⟨a, dx, fs, rfl, e, h⟩
end
/-! ### tuple(d), the keys of a dict -/
def rTupD : List V → Hp → VK → Prop := fun xs H Q => ∃ (a : Addr) (kvs : List (Key × V)), xs = [.ref a] ∧ Rd H a (.dK kvs) ∧ ∀ p, H p = none → Q (.ref p) (upd H p (.tup (kvs.map fun kv => kV kv.1)))
end LP
namespace LP
open PySem L2
open Evl (Ex)
section
variable {K : PySem.W.Frag} {a : Addr} {xs : List V} {g : TG} {tb : TS} {D : Ends} {σ : L2.St} {H H1 : Hp}
def kList (K : PySem.W.Frag) (x : V) (H1 : Hp) (R : It → Hp → Prop) : Prop := ∃ a, x = .ref a ∧ (∃ xs, SqL K H1 a xs) ∧ R (Itl K a) H1
def kTup (K : PySem.W.Frag) (x : V) (H1 : Hp) (R : It → Hp → Prop) : Prop := ∃ a, x = .ref a ∧ (∃ xs, SqT K H1 a xs) ∧ R (Itt K a) H1
def kRng1 (vs : List V) (H1 : Hp) (R : It → Hp → Prop) : Prop := ∃ j : Int, vs = [.int j] ∧ -(2 ^ 62) ≤ j ∧ j < 2 ^ 62 ∧ R (Itr 0 j.toNat) H1
def kStr (v : V) (H1 : Hp) (R : It → Hp → Prop) : Prop := ∃ x, v = .str x ∧ R (Its x) H1
def kRev (K : PySem.W.Frag) (vs : List V) (H1 : Hp) (R : It → Hp → Prop) : Prop := ∃ (a : Addr) (xs : List V), vs = [.ref a] ∧ SqL K H1 a xs ∧ R (Itv K a xs.length) H1
theorem w_iList {tl : TE} {R : It → Hp → Prop} (h : tl σ H fun x H1 => kList K x H1 R) : iList K tl σ H R := h
theorem w_kList {R : It → Hp → Prop} (h : SqL K H a xs) (q : R (Itl K a) H) : kList K (.ref a) H R := ⟨a, rfl, ⟨xs, h⟩, q⟩
theorem w_iTup {tl : TE} {R : It → Hp → Prop} (h : tl σ H fun x H1 => kTup K x H1 R) : iTup K tl σ H R := h
theorem w_kTup {R : It → Hp → Prop} (h : SqT K H a xs) (q : R (Itt K a) H) : kTup K (.ref a) H R := ⟨a, rfl, ⟨xs, h⟩, q⟩
theorem w_iRng1 {ta : TA} {R : It → Hp → Prop} (h : ta σ H fun vs H1 => kRng1 vs H1 R) : iRng1 ta σ H R := h
theorem w_kRng1 {j : Int} {R : It → Hp → Prop} (h1 : -(2 ^ 62) ≤ j) (h2 : j < 2 ^ 62) (q : R (Itr 0 j.toNat) H) : kRng1 [V.int j] H R := ⟨j, rfl, h1, h2, q⟩
theorem w_iStr {te : TE} {R : It → Hp → Prop} (h : te σ H fun v H1 => kStr v H1 R) : iStr te σ H R := h
theorem w_kStr {z : Str} {R : It → Hp → Prop} (h : R (Its z) H) : kStr (.str z) H R := ⟨z, rfl, h⟩
theorem w_iRev {ta : TA} {R : It → Hp → Prop} (h : ta σ H fun vs H1 => kRev K vs H1 R) : iRev K ta σ H R := h
theorem w_kRev {R : It → Hp → Prop} (h : SqL K H a xs) (q : R (Itv K a xs.length) H) : kRev K [V.ref a] H R := ⟨a, xs, rfl, h, q⟩
theorem w_lc {wi : TI} {tt : TT} {te : TE} {vs : List Nat} {Q : VK} (h : wi σ H fun J H1 => ∀ D, H1 D = none → ∃ W : Nat → Nat → Hp → Prop, (∃ m, W 0 m (upd H1 D (.lst []))) ∧ ∀ i m H, W i m H →
  (J.stop i H ∧ Q (.ref D) H) ∨ (J.go i H ∧ ∃ Go : Hp → Prop, (∀ H', Go H' → ∃ m', m' < m ∧ W (i + 1) m' H') ∧ ∀ x H', J.yld i H x H' → g x (wipe σ vs) H' fun σ2 H2 => wipe σ2 vs = wipe σ vs ∧ tt σ2 H2 fun b H3 =>
    if b = true then te σ2 H3 fun y H4 => ∃ got, H4 D = some (.lst got) ∧ got.length < sizeLine ∧ Go (upd H4 D (.lst (got ++ [y]))) else Go H3)) : tLc wi g tt te vs σ H Q := h
theorem w_yes {q : Bool → Hp → Prop} (h : q true H) : tYes σ H q := h
theorem w_gTup {n : Nat} {t : TGs} {k : L2.St → Hp → Prop} (h : SqT K H a xs) (hn : xs.length = n) (q : t xs σ H k) : gTup K n t (.ref a) σ H k := ⟨a, xs, rfl, h, hn, q⟩
theorem w_gCons {t : TG} {u : TGs} {v : V} {r : List V} {k : L2.St → Hp → Prop} (h : t v σ H fun σ' H' => u r σ' H' k) : gCons t u (v :: r) σ H k := ⟨v, r, rfl, h⟩
theorem w_gNil {k : L2.St → Hp → Prop} (h : k σ H) : gNil [] σ H k := ⟨rfl, h⟩
theorem w_par {i j : Nat} {ta : TA} (h : ta σ H fun vs H1 => ∃ v w, vs = [v, w] ∧ D.nx ((σ.set i (some v)).set j (some w)) H1) : tPar i j ta D σ H := h
theorem w_kPar {v w : V} {q : V → V → Prop} (h : q v w) : ∃ v' w', [v, w] = [v', w'] ∧ q v' w' := ⟨v, w, rfl, h⟩

/-- a for over a list: what is done, what is left -/
theorem loopL (Pv : List V → List V → L2.St → Hp → Prop) (h0 : Pv [] xs σ H) (hl : ∀ d r σ H, d ++ r = xs → Pv d r σ H → SqL K H a xs)
    (hs : ∀ d y r σ H, d ++ y :: r = xs → Pv d (y :: r) σ H → g y σ H fun σ2 H2 => tb { D with nx := Pv (d ++ [y]) r, ct := Pv (d ++ [y]) r, bk := D.nx } σ2 H2) (hd : ∀ σ H, Pv xs [] σ H → D.nx σ H) :
    ∃ W : Nat →
            Nat → L2.St → Hp → Prop, (∃ m, W 0 m σ H) ∧ ∀ i m σ H, W i m σ H →
      ((Itl K a).stop i H ∧ D.nx σ H) ∨ ((Itl K a).go i H ∧ ∃ N : L2.St → Hp → Prop, (∀ σ' H', N σ' H' → ∃ m', m' < m ∧ W (i + 1) m' σ' H') ∧ ∀ x H', (Itl K a).yld i H x H' → g x σ H' fun σ2 H2 => tb { D with nx := N, ct := N, bk := D.nx } σ2 H2) := by
  refine for_list (xs := xs) (fun i σ H => Pv (xs.take i) (xs.drop i) σ H) (by simpa using h0) (fun i σ H _ h => hl _ _ σ H (List.take_append_drop i xs) h) (fun i x σ H hx h => ?_) (fun σ H h => hd σ H (by simpa using h))
  have hlt : i < xs.length := (List.getElem?_eq_some_iff.mp hx).1
  have e1 : xs.drop i = x :: xs.drop (i + 1) := by
    rw [List.drop_eq_getElem_cons hlt, (List.getElem?_eq_some_iff.mp hx).2]
  have e2 : xs.take (i + 1) = xs.take i ++ [x] := by
    rw [List.take_succ, hx]
    rfl
  have z := hs (xs.take i) x (xs.drop (i + 1)) σ H (by rw [← e1]; exact List.take_append_drop i xs) (by rw [← e1]; exact h)
  rw [← e2] at z
  exact z
/-- a for over range(n) -/
theorem loopR {n : Nat} (Pv : Nat → L2.St → Hp → Prop) (h0 : Pv 0 σ H)
    (hs : ∀ i σ H, i < n → Pv i σ H → g (.int (i : Int)) σ H fun σ2 H2 => tb { D with nx := Pv (i + 1), ct := Pv (i + 1), bk := D.nx } σ2 H2) (hd : ∀ σ H, Pv n σ H → D.nx σ H) :
    ∃ W : Nat →
            Nat → L2.St → Hp → Prop, (∃ m, W 0 m σ H) ∧ ∀ i m σ H, W i m σ H →
      ((Itr 0 n).stop i H ∧ D.nx σ H) ∨ ((Itr 0 n).go i H ∧ ∃ N : L2.St → Hp → Prop, (∀ σ' H', N σ' H' → ∃ m', m' < m ∧ W (i + 1) m' σ' H') ∧ ∀ x H', (Itr 0 n).yld i H x H' → g x σ H' fun σ2 H2 => tb { D with nx := N, ct := N, bk := D.nx } σ2 H2) :=
  for_range Pv h0 (fun i σ H hi h => by rw [Int.zero_add]; exact hs i σ H hi h) hd
/-- a for over the signs of a text -/
theorem loopS {z : Str} (Pv : List Nat → List Nat → L2.St → Hp → Prop) (h0 : Pv [] z.cps.toList σ H)
    (hs : ∀ d c r σ H, d ++ c :: r = z.cps.toList → Pv d (c :: r) σ H → g (.str ⟨#[c]⟩) σ H fun σ2 H2 => tb { D with nx := Pv (d ++ [c]) r, ct := Pv (d ++ [c]) r, bk := D.nx } σ2 H2) (hd : ∀ σ H, Pv z.cps.toList [] σ H → D.nx σ H) :
    ∃ W : Nat →
            Nat → L2.St → Hp → Prop, (∃ m, W 0 m σ H) ∧ ∀ i m σ H, W i m σ H →
      ((Its z).stop i H ∧ D.nx σ H) ∨ ((Its z).go i H ∧ ∃ N : L2.St → Hp → Prop, (∀ σ' H', N σ' H' → ∃ m', m' < m ∧ W (i + 1) m' σ' H') ∧ ∀ x H', (Its z).yld i H x H' → g x σ H' fun σ2 H2 => tb { D with nx := N, ct := N, bk := D.nx } σ2 H2) := by
  have hz : z.cps.size = z.cps.toList.length := by simp
  refine ⟨fun i m σ H => m = z.cps.size - i ∧ i ≤ z.cps.size ∧ Pv (z.cps.toList.take i) (z.cps.toList.drop i) σ H, ⟨z.cps.size, by simp, Nat.zero_le _, by simpa using h0⟩, ?_⟩
  rintro i m σ H ⟨rfl, hi, p⟩
  by_cases hlt : i < z.cps.size
  · refine .inr ⟨hlt, fun σ H => Pv (z.cps.toList.take (i + 1)) (z.cps.toList.drop (i + 1)) σ H, fun σ' H' p' => ⟨z.cps.size - (i + 1), by omega, rfl, hlt, p'⟩, fun x H' y => ?_⟩
    obtain ⟨e, c, hc, rfl⟩ := y
    subst e
    have hx : z.cps.toList[i]? = some c := by rw [Array.getElem?_toList]; exact hc
    have hl : i < z.cps.toList.length := hz ▸ hlt
    have e1 : z.cps.toList.drop i = c :: z.cps.toList.drop (i + 1) := by
      rw [List.drop_eq_getElem_cons hl, (List.getElem?_eq_some_iff.mp hx).2]
    have e2 : z.cps.toList.take (i + 1) = z.cps.toList.take i ++ [c] := by
      rw [List.take_succ, hx]
      rfl
    have q := hs (z.cps.toList.take i) c (z.cps.toList.drop (i + 1)) σ H' (by rw [← e1]; exact List.take_append_drop i _) (by rw [← e1]; exact p)
    rw [← e2] at q
    exact q
  · refine .inl ⟨by show z.cps.size ≤ i; omega, hd σ H ?_⟩
    have : i = z.cps.toList.length := by omega
    rw [this, List.take_length, List.drop_length] at p
    exact p
/-- a for over reversed(list): the last item first -/
theorem loopV (Pv : List V → List V → L2.St → Hp → Prop) (h0 : Pv xs [] σ H) (hl : ∀ d r σ H, d ++ r = xs → Pv d r σ H → SqL K H a xs)
    (hs : ∀ d y r σ H, d ++ y :: r = xs → Pv (d ++ [y]) r σ H → g y σ H fun σ2 H2 => tb { D with nx := Pv d (y :: r), ct := Pv d (y :: r), bk := D.nx } σ2 H2) (hd : ∀ σ H, Pv [] xs σ H → D.nx σ H) :
    ∃ W : Nat →
            Nat → L2.St → Hp → Prop, (∃ m, W 0 m σ H) ∧ ∀ i m σ H, W i m σ H →
      ((Itv K a xs.length).stop i H ∧ D.nx σ H) ∨ ((Itv K a xs.length).go i H ∧ ∃ N : L2.St → Hp → Prop, (∀ σ' H', N σ' H' → ∃ m', m' < m ∧ W (i + 1) m' σ' H') ∧ ∀ x H', (Itv K a xs.length).yld i H x H' → g x σ H' fun σ2 H2 => tb { D with nx := N, ct := N, bk := D.nx } σ2 H2) := by
  refine ⟨fun i m σ H => m = xs.length - i ∧ i ≤ xs.length ∧ Pv (xs.take (xs.length - i)) (xs.drop (xs.length - i)) σ H, ⟨xs.length, by simp, Nat.zero_le _, by simpa using h0⟩, ?_⟩
  rintro i m σ H ⟨rfl, hi, p⟩
  by_cases hlt : i < xs.length
  · have hj : xs.length - 1 - i <
          xs.length := by omega
    have q := hl _ _ σ H (List.take_append_drop _ xs) p
    have hx : xs[xs.length - 1 - i]? = some xs[xs.length - 1 - i] := by simp [hj]
    refine .inr ⟨⟨hlt, xs, xs[xs.length - 1 - i], q, hx⟩, fun σ H => Pv (xs.take (xs.length - (i + 1))) (xs.drop (xs.length - (i + 1))) σ H, fun σ' H' p' => ⟨xs.length - (i + 1), by omega, rfl, hlt, p'⟩, fun x H' y => ?_⟩
    obtain ⟨e, y⟩ := y
    subst e
    have hxx := y xs q
    have ex : x = xs[xs.length - 1 - i] := by
      rw [hx] at hxx
      exact (Option.some.inj hxx).symm
    have n1 : xs.length - i = (xs.length - 1 - i) + 1 := by omega
    have n2 : xs.length - (i + 1) = xs.length - 1 - i := by omega
    have e1 : xs.drop (xs.length - 1 - i) = x :: xs.drop (xs.length - i) := by
      rw [List.drop_eq_getElem_cons hj, ex, n1]
    have e2 : xs.take (xs.length - i) = xs.take (xs.length - 1 - i) ++ [x] := by
      rw [n1, List.take_succ, hx, ex]
      rfl
    have z := hs (xs.take (xs.length - 1 - i)) x (xs.drop (xs.length - i)) σ H' (by rw [← e1]; exact List.take_append_drop _ xs) (by rw [← e2]; exact p)
    rw [← e1, ← n2] at z
    exact z
  · refine .inl ⟨by show xs.length ≤ i; omega, hd σ H ?_⟩
    have : xs.length - i = 0 := by omega
    rw [this] at p
    simpa using p
end
section
variable {K : PySem.W.Frag} {a : Addr} {xs : List V} {g : TG} {tt : TT} {te : TE} {vs : List Nat} {σ : L2.St} {H1 : Hp} {D : Addr} {Qd : Hp → Prop}
/-- a comprehension over a list, whatever its turns do -/
theorem compL (Pv : List V → List V → List V → Hp → Prop) (hlen : xs.length ≤ 90000) (h0 : Pv [] xs [] (upd H1 D (.lst []))) (hl : ∀ d r got H, d ++ r = xs → Pv d r got H → SqL K H a xs)
    (hs : ∀ d y r got H, d ++ y :: r = xs → H D = some (.lst got) → got.length ≤ d.length → Pv d (y :: r) got H → ∀ (k : V → Hp → Prop) (kn : Hp → Prop),
      (∀ y' H4, H4 D = some (.lst got) → Pv (d ++ [y]) r (got ++ [y']) (upd H4 D (.lst (got ++ [y']))) → k y' H4) → (∀ H3, H3 D = some (.lst got) → Pv (d ++ [y]) r got H3 → kn H3) →
      g y (wipe σ vs) H fun σ2 H2 => wipe σ2 vs = wipe σ vs ∧ tt σ2 H2 fun b H3 => if b = true then te σ2 H3 k else kn H3)
    (hd : ∀ got H, H D = some (.lst got) → got.length ≤ xs.length → Pv xs [] got H → Qd H) :
    ∃ W : Nat →
            Nat → Hp → Prop, (∃ m, W 0 m (upd H1 D (.lst []))) ∧ ∀ i m H, W i m H →
      ((Itl K a).stop i H ∧ Qd H) ∨ ((Itl K a).go i H ∧ ∃ Go : Hp → Prop, (∀ H', Go H' → ∃ m', m' < m ∧ W (i + 1) m' H') ∧ ∀ x H', (Itl K a).yld i H x H' → g x (wipe σ vs) H' fun σ2 H2 => wipe σ2 vs = wipe σ vs ∧ tt σ2 H2 fun b H3 =>
        if b = true then te σ2 H3 fun y H4 => ∃ got, H4 D = some (.lst got) ∧ got.length < sizeLine ∧ Go (upd H4 D (.lst (got ++ [y]))) else Go H3) := by
  have sz : ∀ n : Nat, n ≤ 90000 → n < sizeLine := fun n h => Nat.lt_of_le_of_lt h (by decide)
  refine lc_list (xs := xs) (fun i H => ∃ got, H D = some (.lst got) ∧ got.length ≤ i ∧ Pv (xs.take i) (xs.drop i) got H) ⟨[], upd_same, Nat.le_refl _, by simpa using h0⟩ (fun i H _ ⟨got, _, _, h⟩ => hl _ _ got H (List.take_append_drop i xs) h) (fun i x H hx ⟨got, ha, hacc, h⟩ => ?_) (fun H ⟨got, ha, hacc, h⟩ => hd got H ha hacc (by simpa using h))
  have hlt : i < xs.length := (List.getElem?_eq_some_iff.mp hx).1
  have e1 : xs.drop i = x :: xs.drop (i + 1) := by
    rw [List.drop_eq_getElem_cons hlt, (List.getElem?_eq_some_iff.mp hx).2]
  have e2 : xs.take (i + 1) = xs.take i ++ [x] := by
    rw [List.take_succ, hx]
    rfl
  refine hs (xs.take i) x (xs.drop (i + 1)) got H (by rw [← e1]; exact List.take_append_drop i xs) ha (by rw [List.length_take]; omega) (by rw [← e1]; exact h) _ _ (fun y' H4 h4 p => ?_) (fun H3 h3 p => ?_)
  · exact ⟨got, h4, sz _ (by omega), got ++ [y'], upd_same, by rw [List.length_append]; simp; omega, by rw [e2]; exact p⟩
  · exact ⟨got, h3, by omega, by rw [e2]; exact p⟩
theorem compR {n : Nat} (Pv : Nat → List V → Hp → Prop) (hlen : n ≤ 90000) (h0 : Pv 0 [] (upd H1 D (.lst [])))
    (hs : ∀ i got H, i < n → H D = some (.lst got) → got.length ≤ i → Pv i got H → ∀ (k : V → Hp → Prop) (kn : Hp → Prop),
      (∀ y' H4, H4 D = some (.lst got) → Pv (i + 1) (got ++ [y']) (upd H4 D (.lst (got ++ [y']))) → k y' H4) → (∀ H3, H3 D = some (.lst got) → Pv (i + 1) got H3 → kn H3) →
      g (.int (i : Int)) (wipe σ vs) H fun σ2 H2 => wipe σ2 vs = wipe σ vs ∧ tt σ2 H2 fun b H3 => if b = true then te σ2 H3 k else kn H3)
    (hd : ∀ got H, H D = some (.lst got) → got.length ≤ n → Pv n got H → Qd H) :
    ∃ W : Nat →
            Nat → Hp → Prop, (∃ m, W 0 m (upd H1 D (.lst []))) ∧ ∀ i m H, W i m H →
      ((Itr 0 n).stop i H ∧ Qd H) ∨ ((Itr 0 n).go i H ∧ ∃ Go : Hp → Prop, (∀ H', Go H' → ∃ m', m' < m ∧ W (i + 1) m' H') ∧ ∀ x H', (Itr 0 n).yld i H x H' → g x (wipe σ vs) H' fun σ2 H2 => wipe σ2 vs = wipe σ vs ∧ tt σ2 H2 fun b H3 =>
        if b = true then te σ2 H3 fun y H4 => ∃ got, H4 D = some (.lst got) ∧ got.length < sizeLine ∧ Go (upd H4 D (.lst (got ++ [y]))) else Go H3) := by
  have sz : ∀ n : Nat, n ≤ 90000 → n < sizeLine := fun n h => Nat.lt_of_le_of_lt h (by decide)
  refine lc_range (fun i H => ∃ got, H D = some (.lst got) ∧ got.length ≤ i ∧ Pv i got H) ⟨[], upd_same, Nat.le_refl _, h0⟩ (fun i H hi ⟨got, ha, hacc, h⟩ => ?_) (fun H ⟨got, ha, hacc, h⟩ => hd got H ha hacc h)
  rw [Int.zero_add]
  refine hs i got H hi ha hacc h _ _ (fun y' H4 h4 p => ?_) (fun H3 h3 p => ?_)
  · exact ⟨got, h4, sz _ (by omega), got ++ [y'], upd_same, by rw [List.length_append]; simp; omega, p⟩
  · exact ⟨got, h3, by omega, p⟩
/-- a comprehension whose turns make new things alone: each item has a value, or is left out -/
theorem compP (val : V → Option V) (hD : H1 D = none) (hx : SqL K H1 a xs) (hlen : xs.length ≤ 90000)
    (hs : ∀ y, y ∈ xs → ∀ H, Ex H1 H → ∀ (k : V → Hp → Prop) (kn : Hp → Prop), (∀ y' H4, Ex H H4 → val y = some y' → k y' H4) → (∀ H3, Ex H H3 → val y = none → kn H3) →
      g y (wipe σ vs) H fun σ2 H2 => wipe σ2 vs = wipe σ vs ∧ tt σ2 H2 fun b H3 => if b = true then te σ2 H3 k else kn H3)
    (hd : ∀ H, Ex H1 H → H D = some (.lst (xs.filterMap val)) → Qd H) :
    ∃ W : Nat →
            Nat → Hp → Prop, (∃ m, W 0 m (upd H1 D (.lst []))) ∧ ∀ i m H, W i m H →
      ((Itl K a).stop i H ∧ Qd H) ∨ ((Itl K a).go i H ∧ ∃ Go : Hp → Prop, (∀ H', Go H' → ∃ m', m' < m ∧ W (i + 1) m' H') ∧ ∀ x H', (Itl K a).yld i H x H' → g x (wipe σ vs) H' fun σ2 H2 => wipe σ2 vs = wipe σ vs ∧ tt σ2 H2 fun b H3 =>
        if b = true then te σ2 H3 fun y H4 => ∃ got, H4 D = some (.lst got) ∧ got.length < sizeLine ∧ Go (upd H4 D (.lst (got ++ [y]))) else Go H3) := by
  refine compL (xs := xs) (fun d _ got H => Ex H1 H ∧ got = d.filterMap val) hlen ⟨Ex.new hD, rfl⟩ (fun _ _ _ H _ h => Evl.ex_l h.1 hx) (fun d y r got H hd ha _ h k kn hk hn => ?_) (fun got H ha _ h => hd H h.1 (h.2 ▸ ha))
  obtain ⟨e, rfl⟩ := h
  refine hs y (by rw [← hd]; simp) H e k kn (fun y' H4 e4 hv => ?_) (fun H3 e3 hv => ?_)
  · exact hk y' H4 (e4 _ _ ha) ⟨(e.trans e4).mut hD, by rw [List.filterMap_append, List.filterMap_cons_some hv, List.filterMap_nil]⟩
  · exact hn H3 (e3 _ _ ha) ⟨e.trans e3, by rw [List.filterMap_append, List.filterMap_cons_none hv, List.filterMap_nil, List.append_nil]⟩
end
end LP
namespace LP
open PySem L2
open Evl (Ex)
abbrev S (cs : List Nat) : Str := ⟨cs.toArray⟩
theorem S_tl (x : Str) : S x.cps.toList = x := by cases x; rfl
theorem S_inj {a b : List Nat} (e : S a = S b) : a = b := congrArg (fun z : Str => z.cps.toList) e
theorem str_ext {x y : Str} (h : x.cps.toList = y.cps.toList) : x = y := by rw [← S_tl x, ← S_tl y, h]
theorem len_tl (x : Str) : x.length = x.cps.toList.length := by simp [Str.length]
/-! ### names -/
def reservedL : List Str := ["all", "and", "any", "as", "else", "false", "for", "if", "in", "is", "lacks", "no", "not", "or", "return", "some", "super", "thing", "true", "user"]
def Low (w : Str) : Prop := ∀ c ∈ w.cps.toList, 97 ≤ c ∧ c ≤ 122
def IsWord (w : Str) : Prop := 1 ≤ w.length ∧ w.length ≤ 8 ∧ Low w
def IsName (w : Str) : Prop := IsWord w ∧ w ∉ reservedL
def vOpt : Option Str → V
  | none => .non
  | some x => .str x
def lettersS : Str := "abcdefghijklmnopqrstuvwxyz"
theorem letters_tl : lettersS.cps.toList = (List.range 26).map (· + 97) := by decide +kernel
theorem inV_str (w : Str) (xs : List Str) : inV (.str w) (xs.map V.str) = decide (w ∈ xs) := by
  unfold inV
  rw [List.any_map]
  by_cases h : w ∈ xs
  · rw [decide_eq_true h, List.any_eq_true]
    exact ⟨w, h, by simp [eqV]⟩
  · rw [decide_eq_false h, List.any_eq_false]
    intro x hx
    simp only [Function.comp, eqV, beq_iff_eq]
    intro e
    exact h (e ▸ hx)
theorem flat_strs (xs : List Str) : (xs.map V.str).all flatV = true := by
  rw [List.all_map, List.all_eq_true]
  intro x _
  rfl
theorem joinL_chars : ∀ cs : List Nat, TL.joinL [] (cs.map fun c => [c]) = cs
  | [] => rfl
  | [_] => rfl
  | c :: c' :: r => by
    show [c] ++ ([] ++ TL.joinL [] ((c' :: r).map fun c => [c])) = c :: c' :: r
    rw [joinL_chars (c' :: r)]
    rfl
theorem join_chars (cs : List Nat) : Txt.join "" (cs.map fun c => S [c]) = S cs := by
  have h := SX.join_S [] (cs.map fun c => [c])
  rw [List.map_map] at h
  rw [show ("" : Str) = SX.S [] by decide +kernel]
  refine Eq.trans h ?_
  rw [joinL_chars]
/-! ### the promises of the helpers that draw -/
def spOf (K : PySem.W.Frag) : Sp := fun vs H Q _ => ∃ (b p : Addr) (xs : List V) (n : Nat), vs = [.ref b, .ref p] ∧ BagAt H b n ∧ n < 100000000 ∧ SqL K (del b H) p xs ∧ xs ≠ [] ∧ xs.length ≤ 90000 ∧
  ∀ (v : V) (H' : Hp), v ∈ xs → BagAt H' b (n + 1) → Ex (del b H) H' → Q v H'
def spReserved : Sp := fun vs H Q _ => vs = [] ∧ ∀ p, H p = none → Q (.ref p) (upd H p (.lst (reservedL.map V.str)))
def spLetters : Sp := fun vs H Q _ => ∃ (b : Addr) (most : Int) (n : Nat), vs = [.ref b, .int most] ∧ BagAt H b n ∧ n < 90000000 ∧ 1 ≤ most ∧ most ≤ 1000 ∧
  ∀ (w : Str) (H' : Hp), 1 ≤ w.length → (w.length : Int) ≤ most → Low w → BagAt H' b (n + 1 + most.toNat) → Ex (del b H) H' → Q (.str w) H'
def spNewName (K : PySem.W.Frag) : Sp := fun vs H Q _ => ∃ (b t : Addr) (xs : List (Option Str)) (n : Nat), vs = [.ref b, .ref t] ∧ BagAt H b n ∧ n < 90000000 ∧ SqL K (del b H) t (xs.map vOpt) ∧ xs.length ≤ 600 ∧
  ∀ (w : Str) (H' : Hp), IsName w → some w ∉ xs → BagAt H' b (n + 9) → Ex (del b H) H' → Q (.str w) H'
end LP
namespace LP
open PySem L2
open Evl (Ex)
section
variable {K : PySem.W.Frag} {H : Hp} {p : Addr} {Q : VK}
theorem w_notInStr {w : Str} {xs : List Str} (h : SqL K H p (xs.map V.str)) (q : Q (.bl (!decide (w ∈ xs))) H) : rIn K true (.str w) (.ref p) H Q := by
  refine w_inL h rfl (flat_strs xs) ?_
  rw [inV_str]
  exact q
theorem w_inStr {w : Str} {xs : List Str} (h : SqL K H p (xs.map V.str)) (q : Q (.bl (decide (w ∈ xs))) H) : rIn K false (.str w) (.ref p) H Q := by
  refine w_inL h rfl (flat_strs xs) ?_
  rw [inV_str]
  exact q
theorem inV_opt (w : Str) (xs : List (Option Str)) : inV (.str w) (xs.map vOpt) = decide (some w ∈ xs) := by
  unfold inV
  rw [List.any_map]
  by_cases h : some w ∈ xs
  · rw [decide_eq_true h, List.any_eq_true]
    exact ⟨some w, h, by simp [vOpt, eqV]⟩
  · rw [decide_eq_false h, List.any_eq_false]
    intro x hx
    cases x with
    | none => simp [vOpt, eqV]
    | some y =>
      simp only [Function.comp, vOpt, eqV, beq_iff_eq]
      intro e
      exact h (e ▸ hx)
theorem flat_opts (xs : List (Option Str)) : (xs.map vOpt).all flatV = true := by
  rw [List.all_map, List.all_eq_true]
  intro x _
  cases x <;> rfl
theorem w_notInOpt {w : Str} {xs : List (Option Str)} (h : SqL K H p (xs.map vOpt)) (q : Q (.bl (!decide (some w ∈ xs))) H) : rIn K true (.str w) (.ref p) H Q := by
  refine w_inL h rfl (flat_opts xs) ?_
  rw [inV_opt]
  exact q
end
theorem cut_to {w : Str} {i : Int} (h : 0 ≤ i) : cutS w none (some i) = S (w.cps.toList.take i.toNat) := by
  rw [C8.cutS_slice, ← SX.S_tl w]
  exact SX.slice_to h
theorem cut_from {w : Str} {i : Int} (h : 0 ≤ i) : cutS w (some i) none = S (w.cps.toList.drop i.toNat) := by
  rw [C8.cutS_slice, ← SX.S_tl w]
  exact SX.slice_from h
theorem S_cat (a b : List Nat) : S a ++ S b = S (a ++ b) := SX.S_cat a b
theorem S_len (a : List Nat) : (S a).length = a.length := by simp [Str.length]
/-- a list without repetition in a shorter one: no -/
theorem pigeon {α : Type} [BEq α] [LawfulBEq α] : ∀ {l m : List α}, l.Nodup → (∀ x ∈ l, x ∈ m) → l.length ≤ m.length
  | [], m, _, _ => Nat.zero_le m.length
  | x :: r, m, nd, h => by
    have hx : x ∈ m := h x List.mem_cons_self
    have nd' := List.nodup_cons.mp nd
    have := pigeon (l := r) (m := m.erase x) nd'.2 fun y hy => (List.mem_erase_of_ne (fun e : y = x => nd'.1 (e ▸ hy))).mpr (h y (List.mem_cons_of_mem _ hy))
    rw [List.length_erase_of_mem hx] at this
    have hm : 0 < m.length := List.length_pos_of_mem hx
    rw [List.length_cons]
    omega
end LP
namespace LP
open PySem L2
open Evl (Ex)
/-! ### columns and tables as the program holds them -/
inductive Col where
  /-- a flag or a number: its kind, its name -/
  | plain (flag : Bool) (name : Str)
  | word (name : Str) (opt : Bool)
  | link (name target : Str) (opt : Bool) (lst : Option Str)
  deriving DecidableEq
namespace Col
def name : Col → Str
  | plain _ n => n
  | word n _ => n
  | link n _ _ _ => n
def kind : Col → Str
  | plain true _ => "flag"
  | plain false _ => "number"
  | word .. => "word"
  | link .. => "link"
def isLink : Col → Bool
  | link .. => true
  | _ => false
def target : Col → Str
  | link _ t _ _ => t
  | _ => ""
def lst : Col → Option Str
  | link _ _ _ l => l
  | _ => none
def opt : Col → Bool
  | word _ o => o
  | link _ _ o _ => o
  | _ => false
end Col
def Col.vals : Col → List V
  | .plain f n => [.str (if f then "flag" else "number"), .str n]
  | .word n o => [.str "word", .str n, .bl o]
  | .link n t o l => [.str "link", .str n, .str t, .bl o, vOpt l]
abbrev Tabs := List (Str × List Col)
def ColAt (H : Hp) (v : V) (c : Col) : Prop := ∃ a, v = .ref a ∧ H a = some (.tup c.vals)
abbrev ColsV (H : Hp) (vs : List V) (cs : List Col) : Prop := Paired (ColAt H) vs cs
def ColsAt (H : Hp) (p : Addr) (cs : List Col) : Prop := ∃ vs, H p = some (.lst vs) ∧ ColsV H vs cs
def TabAt (H : Hp) (v : V) (t : Str × List Col) : Prop := ∃ a p, v = .ref a ∧ H a = some (.tup [.str t.1, .ref p]) ∧ ColsAt H p t.2
abbrev TabsV (H : Hp) (vs : List V) (ts : Tabs) : Prop := Paired (TabAt H) vs ts
def TabsAt (H : Hp) (p : Addr) (ts : Tabs) : Prop := ∃ vs, H p = some (.lst vs) ∧ TabsV H vs ts
theorem paired_imp {α β : Type} {R R' : α → β → Prop} (h : ∀ a b, R a b → R' a b) : ∀ {l : List α} {m : List β}, Paired R l m → Paired R' l m
  | _, _, .nil => .nil
  | _, _, .cons x r => .cons (h _ _ x) (paired_imp h r)
theorem ColAt.ext {H H' : Hp} {v : V} {c : Col} (e : Ex H H') (h : ColAt H v c) : ColAt H' v c := by
  obtain ⟨a, ev, ha⟩ := h
  exact ⟨a, ev, e _ _ ha⟩
theorem ColsV.ext {H H' : Hp} {vs : List V} {cs : List Col} (e : Ex H H') (h : ColsV H vs cs) : ColsV H' vs cs := paired_imp (fun _ _ => ColAt.ext e) h
theorem ColsAt.ext {H H' : Hp} {p : Addr} {cs : List Col} (e : Ex H H') (h : ColsAt H p cs) : ColsAt H' p cs := by
  obtain ⟨vs, hp, hv⟩ := h
  exact ⟨vs, e _ _ hp, hv.ext e⟩
theorem TabAt.ext {H H' : Hp} {v : V} {t : Str × List Col} (e : Ex H H') (h : TabAt H v t) : TabAt H' v t := by
  obtain ⟨a, p, ev, ha, hc⟩ := h
  exact ⟨a, p, ev, e _ _ ha, hc.ext e⟩
theorem TabsV.ext {H H' : Hp} {vs : List V} {ts : Tabs} (e : Ex H H') (h : TabsV H vs ts) : TabsV H' vs ts := paired_imp (fun _ _ => TabAt.ext e) h
theorem TabsAt.ext {H H' : Hp} {p : Addr} {ts : Tabs} (e : Ex H H') (h : TabsAt H p ts) : TabsAt H' p ts := by
  obtain ⟨vs, hp, hv⟩ := h
  exact ⟨vs, e _ _ hp, hv.ext e⟩
theorem ColAt.upd {H : Hp} {v : V} {c : Col} {q : Addr} {xs : List V} {o : HO} (hq : H q = some (.lst xs)) (h : ColAt H v c) : ColAt (upd H q o) v c := by
  obtain ⟨a, ev, ha⟩ := h
  exact ⟨a, ev, by rw [upd_ne (ne_of ha hq (by intro z; cases z))]; exact ha⟩
theorem ColsV.upd {H : Hp} {vs : List V} {cs : List Col} {q : Addr} {xs : List V} {o : HO} (hq : H q = some (.lst xs)) (h : ColsV H vs cs) : ColsV (upd H q o) vs cs := paired_imp (fun _ _ => ColAt.upd hq) h
theorem BagAt.tup_ne {H : Hp} {b a : Addr} {n : Nat} {xs : List V} (h : BagAt H b n) (ha : H a = some (.tup xs)) : a ≠ b := by
  obtain ⟨d, m, t, h1, _⟩ := h.ex
  exact ne_of ha h1 (by intro z; cases z)
theorem ColAt.del {H : Hp} {b : Addr} {n : Nat} {v : V} {c : Col} (hB : BagAt H b n) (h : ColAt H v c) : ColAt (del b H) v c := by
  obtain ⟨a, ev, ha⟩ := h
  exact ⟨a, ev, by rw [del_ne (hB.tup_ne ha)]; exact ha⟩
theorem ColsV.del {H : Hp} {b : Addr} {n : Nat} {vs : List V} {cs : List Col} (hB : BagAt H b n) (h : ColsV H vs cs) : ColsV (del b H) vs cs := paired_imp (fun _ _ => ColAt.del hB) h
theorem ColsV.refs {H : Hp} {vs : List V} {cs : List Col} (h : ColsV H vs cs) : ∀ i j k : Int, vs ≠ [.int i, .int j, .int k] := by
  intro i j k e
  subst e
  cases h with
  | cons h _ =>
    obtain ⟨a, e, _⟩ := h
    cases e
theorem ColsAt.del {H : Hp} {b q : Addr} {n : Nat} {cs : List Col} (hB : BagAt H b n) (h : ColsAt H q cs) : ColsAt (del b H) q cs := by
  obtain ⟨vs, hq, hv⟩ := h
  exact ⟨vs, by rw [del_ne (hB.ne hq hv.refs)]; exact hq, hv.del hB⟩
theorem paired_len {α β : Type} {R : α → β → Prop} : ∀ {l : List α} {m : List β}, Paired R l m → l.length = m.length
  | _, _, .nil => rfl
  | _, _, .cons _ r => by rw [List.length_cons, List.length_cons, paired_len r]
/-- an item of the first list has its partner -/
theorem paired_mem {α β : Type} {R : α → β → Prop} : ∀ {l : List α} {m : List β}, Paired R l m → ∀ x ∈ l, ∃ y ∈ m, R x y
  | _, _, .cons (a := a) (b := b) h r, x, hx => by
    rcases List.mem_cons.1 hx with rfl | hx
    · exact ⟨b, List.mem_cons_self, h⟩
    · obtain ⟨y, hy, q⟩ := paired_mem r x hx
      exact ⟨y, List.mem_cons_of_mem _ hy, q⟩
theorem paired_app {α β : Type} {R : α → β → Prop} : ∀ {l l' : List α} {m m' : List β}, Paired R l m → Paired R l' m' → Paired R (l ++ l') (m ++ m')
  | _, _, _, _, .nil, q => q
  | _, _, _, _, .cons h r, q => .cons h (paired_app r q)
/-- cut where the first list is cut -/
theorem paired_cut {α β : Type} {R : α → β → Prop} : ∀ {d r : List α} {m : List β}, Paired R (d ++ r) m → ∃ md mr, m = md ++ mr ∧ Paired R d md ∧ Paired R r mr
  | [], r, m, h => ⟨[], m, rfl, .nil, h⟩
  | x :: d, r, _, .cons h q => by
    obtain ⟨md, mr, rfl, h1, h2⟩ := paired_cut (d := d) q
    exact ⟨_ :: md, mr, rfl, .cons h h1, h2⟩
theorem paired_cons {α β : Type} {R : α → β → Prop} {x : α} {r : List α} {m : List β} (h : Paired R (x :: r) m) : ∃ y mr, m = y :: mr ∧ R x y ∧ Paired R r mr := by
  cases h with
  | cons h q => exact ⟨_, _, rfl, h, q⟩
/-- what is told of each item alone -/
theorem paired_filterMap {α β γ δ : Type} {R : α → β → Prop} {R' : γ → δ → Prop} {f : α → Option γ} {g : β → Option δ}
    (h : ∀ a b, R a b → (f a = none ∧ g b = none) ∨ ∃ x y, f a = some x ∧ g b = some y ∧ R' x y) : ∀ {l : List α} {m : List β}, Paired R l m → Paired R' (l.filterMap f) (m.filterMap g)
  | _, _, .nil => .nil
  | _, _, .cons (a := a) (b := b) q r => by
    have ih := paired_filterMap h r
    rcases h a b q with ⟨h1, h2⟩ | ⟨x, y, h1, h2, h3⟩
    · rw [List.filterMap_cons_none h1, List.filterMap_cons_none h2]
      exact ih
    · rw [List.filterMap_cons_some h1, List.filterMap_cons_some h2]
      exact .cons h3 ih
/-! ### the places of a column's values -/
theorem Col.at0 (c : Col) : atI c.vals 0 = some (.str c.kind) := by
  cases c with
  | plain f n => cases f <;> rfl
  | word n o => rfl
  | link n t o l => rfl
theorem Col.at1 (c : Col) : atI c.vals 1 = some (.str c.name) := by
  cases c with
  | plain f n => cases f <;> rfl
  | word n o => rfl
  | link n t o l => rfl
theorem Col.at2 {c : Col} (h : c.isLink = true) : atI c.vals 2 = some (.str c.target) := by
  cases c with
  | link n t o l => rfl
  | _ => cases h
theorem Col.at3 {c : Col} (h : c.isLink = true) : atI c.vals 3 = some (.bl c.opt) := by
  cases c with
  | link n t o l => rfl
  | _ => cases h
theorem Col.at4 {c : Col} (h : c.isLink = true) : atI c.vals 4 = some (vOpt c.lst) := by
  cases c with
  | link n t o l => rfl
  | _ => cases h
theorem Col.kind_link (c : Col) : decide (V.str c.kind = V.str "link") = c.isLink := by
  cases c with
  | plain f n =>
    cases f with
    | true => show decide (V.str "flag" = V.str "link") = false; decide +kernel
    | false => show decide (V.str "number" = V.str "link") = false; decide +kernel
  | word n o => show decide (V.str "word" = V.str "link") = false; decide +kernel
  | link n t o l => exact decide_eq_true rfl
/-- a link of the columns that has been told -/
theorem vOpt_non (o : Option Str) : (!decide (vOpt o = V.non)) = o.isSome := by
  cases o with
  | none => rfl
  | some x => rfl
end LP
namespace LP
open PySem L2
open Evl (Ex)
def tJn (ts : List TE) : TE := fun σ H Q => tJs ts Str.empty σ H fun out H1 => Q (.str out) H1
def kFmt (x : V) (H1 : Hp) (Q : VK) : Prop := (∃ y : Str, x = .str y ∧ y.length ≤ sizeLine ∧ Q (.str y) H1) ∨ ∃ i : Int, x = .int i ∧ i.natAbs.log2 < 1920 ∧ Q (.str (toString i)) H1
section
variable {X : Cx} {v1 v2 : Expr} {rest : List Expr} {ts : List TE} {pos : Pos} {t te : TE} {σ : L2.St} {H : Hp} {Q : VK} {acc y : Str}
theorem pe_joinedN (h : PJ X (v1 :: v2 :: rest) ts) : PE X (.JoinedStr (v1 :: v2 :: rest) pos) (tJn ts) := pe_joined h
theorem w_jn (h : tJs ts Str.empty σ H fun out H1 => Q (.str out) H1) : tJn ts σ H Q := h
theorem w_jcons {q : Str → Hp → Prop} (h : t σ H fun x H1 => ∃ y : Str, x = .str y ∧ (acc ++ y).length ≤ sizeLine ∧ tJs ts (acc ++ y) σ H1 q) : tJs (t :: ts) acc σ H q := h
theorem w_jnil {q : Str → Hp → Prop} (h : q acc H) : tJs [] acc σ H q := h
theorem w_jstr {q : Str → Prop} (hz : (acc ++ y).length ≤ sizeLine) (h : q y) : ∃ y' : Str, V.str y = .str y' ∧ (acc ++ y').length ≤ sizeLine ∧ q y' := ⟨y, rfl, hz, h⟩
theorem w_fmt (h : te σ H fun x H1 => kFmt x H1 Q) : tFmt te σ H Q := h
theorem w_kfmt (hz : y.length ≤ sizeLine) (h : Q (.str y) H) : kFmt (.str y) H Q := .inl ⟨y, rfl, hz, h⟩
def kKeys (x : V) (H1 : Hp) (R : It → Hp → Prop) : Prop := ∃ d o, x = .ref d ∧ ((∃ kvs, H1 d = some (.frz o (.dK kvs)) ∧ R (Itk d o kvs) H1) ∨ ∃ kvs, H1 d = some (.frz o (.dT kvs)) ∧ R (Itkt d o kvs) H1)
theorem w_iKeys {R : It → Hp → Prop} (h : te σ H fun x H1 => kKeys x H1 R) : iKeys te σ H R := h
theorem w_kKeys {R : It → Hp → Prop} {d : Addr} {o : Obj} {kvs : List (Key × V)} (h : H d = some (.frz o (.dK kvs))) (q : R (Itk d o kvs) H) : kKeys (.ref d) H R := ⟨d, o, rfl, .inl ⟨kvs, h, q⟩⟩
end
theorem len_cat (x y : Str) : (x ++ y).length = x.length + y.length := by
  show (x.cps ++ y.cps).size = _
  rw [Array.size_append]
  rfl
theorem lenE : (Str.empty).length = 0 := rfl
theorem lenS1 : (Str.ofString " ").length = 1 := by decide
theorem lenS2 : (Str.ofString "?").length = 1 := by decide
theorem lenS3 : (Str.ofString "").length = 0 := by decide
theorem lenS4 : (Str.ofString " to ").length = 4 := by decide
theorem lenS5 : (Str.ofString " as ").length = 4 := by decide
theorem lenS6 : (Str.ofString "table ").length = 6 := by decide
theorem lenS7 : (Str.ofString "user ").length = 5 := by decide
theorem small_le {n : Nat} (h : n ≤ 100000) : n ≤ sizeLine := Nat.le_trans h (by decide)
section
variable {g : TG} {tb : TS} {D : Ends} {σ : L2.St} {H : Hp} {d : Addr} {o : Obj} {kvs : List (Key × V)}
/-- a for over the keys of a locked dict -/
theorem loopK (Pv : List (Key × V) → List (Key × V) → L2.St → Hp → Prop) (h0 : Pv [] kvs σ H) (hl : ∀ d' r σ H, d' ++ r = kvs → Pv d' r σ H → H d = some (.frz o (.dK kvs)))
    (hs : ∀ d' y r σ H, d' ++ y :: r = kvs → Pv d' (y :: r) σ H → g (kV y.1) σ H fun σ2 H2 => tb { D with nx := Pv (d' ++ [y]) r, ct := Pv (d' ++ [y]) r, bk := D.nx } σ2 H2) (hd : ∀ σ H, Pv kvs [] σ H → D.nx σ H) :
    ∃ W : Nat →
            Nat → L2.St → Hp → Prop, (∃ m, W 0 m σ H) ∧ ∀ i m σ H, W i m σ H →
      ((Itk d o kvs).stop i H ∧ D.nx σ H) ∨ ((Itk d o kvs).go i H ∧ ∃ N : L2.St → Hp → Prop, (∀ σ' H', N σ' H' → ∃ m', m' < m ∧ W (i + 1) m' σ' H') ∧ ∀ x H', (Itk d o kvs).yld i H x H' → g x σ H' fun σ2 H2 => tb { D with nx := N, ct := N, bk := D.nx } σ2 H2) := by
  refine ⟨fun i m σ H => m = kvs.length - i ∧ i ≤ kvs.length ∧ Pv (kvs.take i) (kvs.drop i) σ H, ⟨kvs.length, by simp, Nat.zero_le _, by simpa using h0⟩, ?_⟩
  rintro i m σ H ⟨rfl, hi, p⟩
  have q := hl _ _ σ H (List.take_append_drop i kvs) p
  by_cases hlt : i < kvs.length
  · refine .inr ⟨⟨q, hlt⟩, fun σ H => Pv (kvs.take (i + 1)) (kvs.drop (i + 1)) σ H, fun σ' H' p' => ⟨kvs.length - (i + 1), by omega, rfl, hlt, p'⟩, fun x H' y => ?_⟩
    obtain ⟨e, k, v, hx, rfl⟩ := y
    subst e
    have e0 : kvs[i] = (k, v) := (List.getElem?_eq_some_iff.mp hx).2
    have e1 : kvs.drop i = (k, v) :: kvs.drop (i + 1) := by
      rw [List.drop_eq_getElem_cons hlt, e0]
    have e2 : kvs.take (i + 1) = kvs.take i ++ [(k, v)] := by
      rw [List.take_succ, hx]
      rfl
    have z := hs (kvs.take i) (k, v) (kvs.drop (i + 1)) σ H' (by rw [← e1]; exact List.take_append_drop i kvs) (by rw [← e1]; exact p)
    rw [← e2] at z
    exact z
  · refine .inl ⟨⟨q, by omega⟩, hd σ H ?_⟩
    have : i = kvs.length := by omega
    rw [this, List.take_length, List.drop_length] at p
    exact p
end
theorem w_sfld {K : PySem.W.Frag} {σ : L2.St} {H : Hp} {ta tv : TE} {f : Str} {D : Ends} (h : tv σ H fun y H1 => ta σ H1 fun x H2 => ∃ a C dx fs, x = .ref a ∧ H2 a = some (.ins C dx fs) ∧ Cls K C ∧ NoAttr K C f ∧ fs.length < 1000 ∧ D.nx σ (upd H2 a (.ins C dx (putF f y fs)))) : sFld K ta tv f D σ H := h
theorem w_kSfld {K : PySem.W.Frag} {H : Hp} {a C dx : Addr} {fs : List (Str × V)} {f : Str} {y : V} {z : Hp → Prop} (e : H a = some (.ins C dx fs)) (c : Cls K C) (n : NoAttr K C f) (l : fs.length < 1000) (q : z (upd H a (.ins C dx (putF f y fs)))) :
    ∃ a' C dx fs, V.ref a = .ref a' ∧ H a' = some (.ins C dx fs) ∧ Cls K C ∧ NoAttr K C f ∧ fs.length < 1000 ∧ z (upd H a' (.ins C dx (putF f y fs))) := ⟨a, C, dx, fs, rfl, e, c, n, l, q⟩
theorem w_dnew {σ : L2.St} {H : Hp} {Q : VK} (h : ∀ d, H d = none → Q (.ref d) (upd H d (.dK []))) : tDNewK σ H Q := h
theorem ps_fldK {X : Cx} {K : PySem.W.Frag} {o value : Expr} {ta tv : TE} {f : Str} {pos pos' : Pos} (hK : X.K = K) (ha : PE X o ta) (hv : PE X value tv) (hs : swapsWith value (some (.Attribute o f pos')) pos.line X.env = pure false) : PS X (.Assign [.Attribute o f pos'] value pos) (sFld K ta tv f) := hK ▸ ps_fld ha hv hs
theorem w_kI2 {H : Hp} {a : Addr} {kvs : List (Key × V)} {k : Str} {z : Option V → Prop} (h : H a = some (.dK kvs)) (q : z (valV kvs (Sum.inr k : Key))) : ∃ a' o, V.ref a = .ref a' ∧ DGet H a' (.str k) o ∧ z o := ⟨a, _, rfl, DGet.k (k := Sum.inr k) h, q⟩
end LP
namespace LP
open PySem L2
open PySem.W (takerIn hasDictIn excOver excInitIn)
/-! ### own exceptions over LookupError -/
def bmL : List Value := [.type "LookupError", .type "Exception", .type "BaseException", .type "object"]
structure OexL (K : PySem.W.Frag) (C : Addr) : Prop where
  cls : excInitIn K C bmL "LookupError.__new__" = true
  ov : excOver K C bmL = true
  hd : hasDictIn K C = true
  sa : PySem.W.findIn K
          (.ref C) "__setattr__" = some (some (.builtin "object.__setattr__"))
  exC : PySem.W.subIn K
          (.ref C) (.type "BaseException") = some true
  tyC : PySem.W.typeIn K
          (.ref C) = some (.type "type")
  kC : PySem.W.keepIn K
          (.ref C) = true
section
variable {X : Cx} {pins : List (Addr × Obj)} {σ : L2.St} {H : Hp} {s : Shared} {a C : Addr} {f : Str} {y : V} {u : Value} {Q : Unit → Shared → Prop} {E : Value → Shared → Prop} {A : Around}
theorem ostL_new (T : OexL X.K C) (I : Inv X pins σ H s) (e : H a = some (exo a C none)) (hno : NoAttr X.K C f) (ry : RelV y u)
    (h : ∀ dx s', H dx = none → dx ≠ a →
      Inv X pins σ (upd (upd H dx (exd dx [(f, y)])) a (exo a C (some dx))) s' → Q () s') : wpAny (model X.prog X.w) A (setAttr (.ref a) f u) Q E s := by
  obtain ⟨t1,
          ho⟩ := exo_at I.hok e
  obtain ⟨cd, hc, hd'⟩ := PySem.W.any_some T.hd
  have hn : H s.heap.objs.size =
          none := I.hok.fresh (Nat.le_refl _)
  have hna : s.heap.objs.size ≠ a := fun z => by rw [z, e] at hn; cases hn
  refine PySem.W.set_plain (od := none) I.kIn ⟨ho, rfl, rfl, trivial⟩ T.sa ?_
  refine PySem.W.osa_openX (s := { s with toks := s.toks + 1 }) (od := none) PySem.F.store_LookupError I.kIn ⟨ho, rfl, rfl, trivial⟩ T.ov hno.taker fun b => ?_
  refine wpAny_bind (wpAny_pure (wpAny_bind (PySem.W.instanceDict_exc (s := { s with toks := s.toks + 1 }) ho (PySem.W.looks_clsIn I.kIn hc) hd' ?_)))
  show wpAny _ _ (Builtin.ObjectAttr.storeInDict s.heap.objs.size (.str f s.toks) f u) _ _ _
  have old : ∀ b o, s.heap.get? b = some o → (s.heap.push (PySem.W.dictOf [] 0)).get? b = some o := fun b o q => Heap.get?_push_of_some _ q
  have at1 : (s.heap.push (PySem.W.dictOf [] 0)).get? s.heap.objs.size = some (PySem.W.dictOf [] 0) := Heap.get?_push_size _ rfl
  have void : (s.heap.push (PySem.W.dictOf [] 0)).Ns s.heap.objs.size (fun _ => none) := ⟨_, #[], _, at1, rfl, (fun _ q => absurd q (by simp)), fun _ => rfl⟩
  have J1 : Inv X pins σ (upd H s.heap.objs.size (exd s.heap.objs.size [])) { s with heap := s.heap.push (PySem.W.dictOf [] 0) } :=
    I.laid (t' := s.toks) old (Nat.le_refl _) (exd_ok (Heap.Ns1.of_empty void) fun _ => True.intro)
  have ea1 : (upd H s.heap.objs.size (exd s.heap.objs.size [])) a = some (exo a C none) := by rw [upd_ne (Ne.symm hna)]; exact e
  have ho1 := old _ _ ho
  generalize hG : (s.heap.push (PySem.W.dictOf [] 0)).update a (fun o => { o with dict := some s.heap.objs.size }) = G
  have hxG : G.get? a = some { cls := .ref C, dict := some s.heap.objs.size, data := .fields #[.ref t1, .none, .none, .none, .bool false, .none] } := by
    rw [← hG]
    exact Heap.get?_update_self _ ho1 rfl
  have keepG : ∀ b o, b ≠ a → (s.heap.push (PySem.W.dictOf [] 0)).get? b = some o → G.get? b = some o := fun b o n q => by
    rw [← hG]
    exact (Heap.get?_update_ne _ _ _ _ n).trans q
  have J2 : Inv X pins σ (upd (upd H s.heap.objs.size (exd s.heap.objs.size [])) a (exo a C (some s.heap.objs.size))) { s with heap := G } :=
    J1.write (t' := s.toks) (x := a) (e := a) (by rw [ea1]; exact True.intro) (.inl rfl) keepG ⟨_, hxG⟩ (exo_ok hxG)
  have voidG : G.Ns s.heap.objs.size (fun _ => none) := ⟨_, #[], _, keepG _ _ hna at1, rfl, (fun _ q => absurd q (by simp)), fun _ => rfl⟩
  refine PySem.HandSPX.store_in_new voidG fun h' tk' hn' hs => ?_
  have ed2 : (upd (upd H s.heap.objs.size (exd s.heap.objs.size [])) a (exo a C (some s.heap.objs.size))) s.heap.objs.size = some (exd s.heap.objs.size []) := by rw [upd_ne hna]; exact upd_same
  have there : ∃ o, h'.get? s.heap.objs.size = some o := let ⟨o, _, _, q, _⟩ := hn'; ⟨o, q⟩
  have J3 := J2.write (t' := tk') (x := s.heap.objs.size) (e := s.heap.objs.size) (o := exd s.heap.objs.size [(f, y)]) (by rw [ed2]; exact True.intro) (.inl rfl) (fun b o n q => (hs.2 b n).trans q) there
    (exd_ok hn' (relO_put (fs := []) ry fun _ => True.intro))
  have same : upd (upd (upd H s.heap.objs.size (exd s.heap.objs.size [])) a (exo a C (some s.heap.objs.size))) s.heap.objs.size (exd s.heap.objs.size [(f, y)]) = upd (upd H s.heap.objs.size (exd s.heap.objs.size [(f, y)])) a (exo a C (some s.heap.objs.size)) := by
    funext b
    by_cases q1 : b = s.heap.objs.size
    · rw [q1, upd_same, upd_ne hna, upd_same]
    · rw [upd_ne q1]
      by_cases q2 : b = a
      · rw [q2, upd_same, upd_same]
      · rw [upd_ne q2, upd_ne q1, upd_ne q2, upd_ne q1]
  rw [same] at J3
  exact h _ _ hn hna J3
end
def kOst (K : PySem.W.Frag) (f : Str) (y x : V) (H : Hp) (q : Hp → Prop) : Prop := ∃ a C : Addr, x = .ref a ∧ OexL K C ∧ NoAttr K C f ∧ H a = some (exo a C none) ∧ ∀ dx, H dx = none → dx ≠ a → q (upd (upd H dx (exd dx [(f, y)])) a (exo a C (some dx)))
/-- self.f = e, self an exception that is being made -/
def tOstL (K : PySem.W.Frag) (f : Str) (to te : TE) : TS := fun D σ H => te σ H fun y H1 => to σ H1 fun x H2 => kOst K f y x H2 (D.nx σ)
/-- C(e, ..), C over LookupError, its __init__ keeping sp -/
def tMkL (C : Addr) (sp : Sp) (ta : TA) : L2.St → Hp → XK → Prop := fun σ H Q => ta σ H fun vs H1 => vs.length ≤ 1000 ∧ ∀ a, H1 a = none →
  sp (.ref a :: vs) (upd H1 a (exo a C none)) (fun v H2 => v = .non ∧ ∃ (d : Addr) (fs : List (Str × V)), H2 a = some (exo a C (some d)) ∧ H2 d = some (exd d fs) ∧ H1 d = none ∧ Q (.ref C) (some d) (upd (L2.del H2 a) d (.xd fs))) (fun _ _ _ => False)
section
variable {X : Cx} {K : PySem.W.Frag} {o e : Expr} {es : List Expr} {to te : TE} {ta : TA} {f : Str} {p p' pos : Pos}
theorem ps_ostL (hK : X.K = K) (ho : PE X o to) (he : PE X e te) (hs : swapsWith e (some (.Attribute o f p')) pos.line X.env = pure false) : PS X (.Assign [.Attribute o f p'] e pos) (tOstL K f to te) := by
  subst hK
  refine ⟨fun pins s σ H D I h => plainObj_wpAny_Assign_Attribute (thn (he.run pins s σ H _ I h) fun v s1 hv => ?_) hs⟩
  obtain ⟨y, H1, I1, r1, q1⟩ := hv
  refine thn (ho.run pins s1 σ H1 _ I1 q1) fun u s2 hu => ?_
  obtain ⟨x, H2, I2, r2, a, C, ex, T, n, ea, q⟩ := hu
  subst ex
  cases (show u = Value.ref a from r2)
  exact ostL_new T I2 ea n r1 fun dx s' n ne J => ⟨σ, _, J, q dx n ne⟩
theorem pmk_L {x : Str} {C fI : Addr} {k : Nat} {fd : FuncData} {ps : List Str} {sp : Sp} (T : OexL X.K C) (iC : PySem.W.findIn X.K (.ref C) "__init__" = some (some (.ref fI))) (tI : PySem.W.typeIn X.K (.ref fI) = some (.type "function"))
    (F1 : FnOk X.prog X.w X.K X.mg X.base C8.CX0 k fI fd ps sp) (hr : Room (k + 1) X.A) (hb : Binds X.K fd ps []) (hg : Gl X x) (hm : X.mg x = some (.ref C)) (ha : PA X (e :: es) ta)
    (hdb :
            (x == ("__debug__" : Str)) = false := by decide) (he : starEach (e :: es) X.env = (false, eval e X.env) :: starEach es X.env := by rfl) (hpl : (backTo pos (starEach es X.env)).any (·.1) = false := by rfl) :
    PMk X (.Call (.Name x p) (e :: es) [] pos) (tMkL C sp ta) := by
  intro pins s σ H Q I h
  refine wpAny_Call_Name_kw
          (ld_glob I hg hm ?_ hdb)
  refine PySem.W.callWith_K (h₀ := X.base) I.ok.mod.kin T.kC (thn (ha.run pos pins s σ H _ I h) fun us s1 hu => ?_) he hpl
  obtain ⟨vs, H1, I1, r1, hz, q1⟩ := hu
  refine ⟨I1.kIn, ?_⟩
  show wpAny _ _
          (call (.ref C) us) _ _ _
  obtain ⟨hp,
          g, dr, tk, os⟩ := s1
  obtain ⟨nm, N, qn, bs, bm, hdct, sn, sub, ab, col, dd, k0, k1, k2, k3, k5, hC, hT⟩ := PySem.W.excInit_of I1.kIn T.cls
  have new : hp.objs.size ≤ hp.objs.size + 1 := Nat.le_succ _
  have hq := q1 _ (I1.hok.fresh new)
  have kk : ∀ b u, hp.get? b = some u → ((hp.push (PySem.W.kdv_tup us)).push (PySem.HandSPX.excO C hp.objs.size)).get? b = some u := fun b u z => Heap.get?_push_of_some _ (Heap.get?_push_of_some _ z)
  have hget :
          ((hp.push (PySem.W.kdv_tup us)).push (PySem.HandSPX.excO C hp.objs.size)).get? (hp.objs.size + 1) = some (PySem.HandSPX.excO C hp.objs.size) := by heap_get
  have I2 : Inv X pins σ (upd H1 (hp.objs.size + 1) (exo (hp.objs.size + 1) C none)) ⟨(hp.push (PySem.W.kdv_tup us)).push (PySem.HandSPX.excO C hp.objs.size), g, dr, tk, os⟩ := I1.laid (t' := tk) kk new (exo_ok hget)
  have r2 : Vals
          (V.ref (hp.objs.size + 1) :: vs) (Value.ref (hp.objs.size + 1) :: us) := .cons rfl r1
  have hl : (Value.ref (hp.objs.size + 1) :: us).length = ps.length := r2.length.symm.trans (F1.len _ _ _ _ hq)
  have hus : us.length ≤
          sizeLine := by
    rw [← Paired.length r1]
    exact Nat.le_trans hz (by decide)
  have bnd := hb _ (Value.ref (hp.objs.size + 1) :: us) I2.kIn (by rw [List.append_nil]; exact hl)
  rw [List.append_nil] at bnd
  have go := F1.run _ X.stack _ _ ⟨Value.ref (hp.objs.size + 1) :: us, []⟩ (Value.ref (hp.objs.size + 1) :: us) _ _ (fun _ _ _ => False) (hr.make C us []) (I2.env0.make C us []) bnd r2 hq
  refine wpAny_call (PySem.HandSPX.call_own PySem.F.excBase_LookupError hT hC (PySem.W.looks_findIn I1.kIn iC) (fun self => PySem.W.bind_fn I1.kIn self tI) hus (codeAny_mono go fun r s' hq' => ?_))
  cases r with
  | error er => exact hq'.elim
  | ok fl =>
    cases fl with
    | ret u =>
      obtain ⟨v,
              H2, os2, bare2, un2, hok2, rv, ev, d, fs, ea, ed, hd1, q2⟩ := hq'
      subst ev
      obtain ⟨h2,
              g2, d2, t2, os'⟩ := s'
      exact ⟨rv, mk_end (raises_own T.exC T.tyC) I1 new kk un2 hok2 os2 bare2 ea ed hd1 q2⟩
    | next => exact hq'.elim
    | brk => exact hq'.elim
    | cont => exact hq'.elim
end
/-- raise C(..) -/
def tRaiseL (C : Addr) (sp : Sp) (ta : TA) (E : XK) : TS := fun _ σ H => tMkL C sp ta σ H fun cls d H' => E cls d H'
theorem ps_raiseL {X : Cx} {ex : Expr} {C : Addr} {sp : Sp} {ta : TA} {E : XK} {pos : Pos} (hc : X.calm = true) (tk : Takes X fun cls d _ H => E cls d H) (h : PMk X ex (tMkL C sp ta)) : PS X (.Raise (some ex) none pos) (tRaiseL C sp ta E) := ps_raise hc tk h
theorem w_ostL {K : PySem.W.Frag} {f : Str} {to te : TE} {D : Ends} {σ : L2.St} {H : Hp} (h : te σ H fun y H1 => to σ H1 fun x H2 => kOst K f y x H2 (D.nx σ)) : tOstL K f to te D σ H := h
theorem w_raiseL {C : Addr} {sp : Sp} {ta : TA} {E : XK} {D : Ends} {σ : L2.St} {H : Hp} (h : ta σ H fun vs H1 => vs.length ≤ 1000 ∧ ∀ a, H1 a = none →
    sp (.ref a :: vs) (upd H1 a (exo a C none)) (fun v H2 => v = .non ∧ ∃ (d : Addr) (fs : List (Str × V)), H2 a = some (exo a C (some d)) ∧ H2 d = some (exd d fs) ∧ H1 d = none ∧ E (.ref C) (some d) (upd (L2.del H2 a) d (.xd fs))) (fun _ _ _ => False)) : tRaiseL C sp ta E D σ H := h
theorem fnX {P : Program} {w : World} {K : PySem.W.Frag} {mg : Str → Option Value} {base : Heap} {x qual : Str} {st : Stmt} {f : Addr} {fd : FuncData} {N ps : List Str} {k : Nat} {sp : Sp} (F : C8.Fun K x qual st f fd) (S : FnScope N ps (C8.fnScope st)) (len : ∀ vs H Q E, sp vs H Q E → vs.length = ps.length)
    (hb : ∀ (cdv : Value) (A : Around) (outer : List Env) (s : Shared) (H : Hp) (vs : List V) (Q : VK) (E : XK), Room k (A.deeper (PyProof.Rows.envOfC qual (C8.fnScope st) s.heap.objs.size f cdv)) → sp vs H Q E →
      ∃ t, PSs (cxOf (L2.CX P w) P w K mg base N qual (C8.fnScope st) f cdv A outer s H E) (C8.fnBody st) t ∧ t { nx := fun _ H' => Q .non H', rt := Q } (L2.start N vs) H) : FnOk P w K mg base (L2.CX P w) (k + 1) f fd ps sp := by
  obtain ⟨oc,
          od, dV, kV, doc, pm, an, cdv, ct, osl, rfl, lk, hcd⟩ := F.ex
  exact fn_of lk hcd S len fun A outer s H vs Q E hr hsp => hb cdv A outer s H vs Q E hr hsp
/-- what a class over LookupError with one field is, all in one -/
def spExI (C : Addr) (f : Str) : Sp := fun vs H Q _ => ∃ (a : Addr) (v : V), vs = [.ref a, v] ∧ H a = some (exo a C none) ∧ ∀ dx, H dx = none → dx ≠ a → Q .non (upd (upd H dx (exd dx [(f, v)])) a (exo a C (some dx)))
structure ExC (P : Program) (w : World) (K : PySem.W.Frag) (mg : Str → Option Value) (base : Heap) (x : Str) (C fI : Addr) (fd : FuncData) (ps : List Str) (k : Nat) (sp : Sp) : Prop where
  T : OexL K C
  iC : PySem.W.findIn K (.ref C) "__init__" = some (some (.ref fI))
  tI : PySem.W.typeIn K (.ref fI) = some (.type "function")
  F : FnOk P w K mg base C8.CX0 k fI fd ps sp
  b : Binds K fd ps []
  mgC : mg x = some (.ref C)
end LP
namespace LP
open PySem L2
/-! ### isinstance(e, ..), e an own exception that the suite holds, with its dict -/
structure ExcK (K : PySem.W.Frag) (D : Addr) : Prop where
  hg : PySem.W.findIn K
          (.ref D) "__getattribute__" = some (some (.builtin "BaseException.__getattribute__"))
  hk : PySem.W.findIn K
          (.ref D) "__getattr__" = some none
  hs : PySem.W.subIn K
          (.ref D) (.type "BaseException") = some true
  hc : (PySem.W.clsIn K D).isSome = true
  ha : PySem.W.findIn K
          (.ref D) "__class__" = some (some (.builtin "object.__class__"))
  hn : PySem.W.specialIn K
          (.builtin "object.__class__") "__get__" = some (some (.builtin "getset_descriptor.__get__"))
  ht : PySem.W.takesIn K
          (.builtin "object.__class__") = some true
  hm : PySem.W.mroIn K D
          (.type "object") = some true
def kDict (cls : Value) (d : Option Addr) (D : Addr) (H : Hp) : Prop := cls = .ref D ∧ ∃ (dd : Addr) (fs : List (Str × V)), d = some dd ∧ H dd = some (.xd fs)
/-- one class -/
def rIsX (K : PySem.W.Frag) (D a : Addr) (cls : Value) (d : Option Addr) : List V → Hp → VK → Prop := fun xs H Q => ∃ (c : V) (u : Value) (b : Bool), xs = [.ref a, c] ∧ kDict cls d D H ∧ ClsV c u ∧ PySem.W.kitOne K (.ref D) u = some b ∧ Q (.bl b) H
/-- a tuple of classes -/
def rIsXT (K : PySem.W.Frag) (D a : Addr) (cls : Value) (d : Option Addr) : List V → Hp → VK → Prop := fun xs H Q => ∃ (tp : Addr) (cs : List V) (us : List Value) (b : Bool), xs = [.ref a, .ref tp] ∧ kDict cls d D H ∧ H tp = some (.tup cs) ∧ Paired ClsV cs us ∧
  PySem.W.kitAny K (.ref D) us = some b ∧ Q (.bl b) H
section
variable {X : Cx} {a D : Addr} {oe : Obj} {cls : Value} {d : Option Addr} {pn pins : List (Addr × Obj)} {σ : L2.St} {H : Hp} {s : Shared}
theorem inst_x (I : Inv (X.suite a ((a, oe) :: pn)) pins σ H s) (k : kDict cls d D H) (hz : Zc cls d oe) (hf : ∃ vs, oe.data = .fields vs) : ∃ od, PySem.W.InstAt s.heap a oe D (some od) := by
  obtain ⟨ec, dd, fs, ed, ea⟩ := k
  subst ec ed
  obtain ⟨at_, _⟩ := I.pin (a, oe) (List.mem_append_left _ List.mem_cons_self)
  obtain ⟨vs, hv⟩ := hf
  have hx : ObjOk X.prog X.w H s.heap dd (.xd fs) := I.hok dd _ ea
  obtain ⟨mA, hns, _⟩ := hx
  obtain ⟨od, ho, _⟩ := lookIn_ns hns
  exact ⟨od, at_, hz.1, by unfold PySem.W.notCls; rw [hv] <;> rfl, by rw [hz.2]; exact ho⟩
theorem call_isX (C : ExcK X.K D) (hz : Zc cls d oe) (hf : ∃ vs, oe.data = .fields vs) : CallR (X.suite a ((a, oe) :: pn)) (.builtin "isinstance") (rIsX X.K D a cls d) := by
  intro pins s σ H xs us Q I r h; obtain ⟨c, u, b, rfl, k, cv, e, q⟩ := h
  obtain ⟨u1,
          u2, rfl, r1, r2⟩ := vals2 r
  cases (show u1 =
          Value.ref a from r1)
  have e2 := cv.eq r2
  subst e2
  obtain ⟨od, J⟩ := inst_x I k hz hf
  exact PySem.W.kia_one (PySem.W.kitx_exc C.hc C.hg C.hk C.hs C.ha C.hn C.ht C.hm) I.kIn J e (fun z => nomatch z) fun tk => ⟨.bl b, H, I.tok tk, rfl, q⟩
theorem call_isXT (C : ExcK X.K D) (hz : Zc cls d oe) (hf : ∃ vs, oe.data = .fields vs) : CallR (X.suite a ((a, oe) :: pn)) (.builtin "isinstance") (rIsXT X.K D a cls d) := by
  intro pins s σ H xs us Q I r h; obtain ⟨tp, cs, ws, b, rfl, k, hT, cv, e, q⟩ := h
  obtain ⟨u1,
          u2, rfl, r1, r2⟩ := vals2 r
  cases (show u1 =
          Value.ref a from r1)
  cases (show u2 =
          Value.ref tp from r2)
  obtain ⟨od, J⟩ := inst_x I k hz hf
  obtain ⟨_,
          its, rv, o, h1, h2, n, h3⟩ := (show ObjOk X.prog X.w H s.heap tp (.tup cs) from I.hok tp _ hT)
  have e3 := ClsV.all cv rv
  subst e3
  obtain ⟨oc, od', dt, sl⟩ := o
  simp only at h2 h3
  subst h2 h3
  exact PySem.W.kia_tup (PySem.W.kitx_exc C.hc C.hg C.hk C.hs C.ha C.hn C.ht C.hm) I.kIn J h1 e (fun z => nomatch z) fun tk => ⟨.bl b, H, I.tok tk, rfl, q⟩
end
end LP
namespace LP
open PySem.Spec PyProof.Rows PySem L2
/-! ### defs told by their statements -/
def dn (x : Str) (st : Stmt) : He.DefD := ⟨(x, none), x, x, C8.fnArgs st, C8.fnBody st, C8.fnScope st, [], []⟩
def dm (C m q : Str) (st : Stmt) : He.DefD := ⟨(C, some m), m, q, C8.fnArgs st, C8.fnBody st, C8.fnScope st, [], []⟩
theorem told_fun {K : PySem.W.Frag} {x q : Str} {st : Stmt} {f : Addr} {fd : FuncData} (F : FunD K x q (C8.fnArgs st) (C8.fnBody st) (C8.fnScope st) [] [] f fd) : C8.Fun K x q st f fd ∧ fd.defaults = .none := by
  obtain ⟨oc, od, dV, kV, doc, pm, an, cdv, ct, osl, e, lk, hc, hd, _⟩ := F.ex
  refine ⟨⟨oc, od, dV, kV, doc, pm, an, cdv, ct, osl, e, lk, hc⟩, ?_⟩
  rcases hd with ⟨_, z⟩ | ⟨z, _⟩
  · rw [e]
    exact z
  · exact absurd rfl z
section
variable {fa : List He.Fa} {fn : List He.DefD} {K : PySem.W.Frag} {h : Heap} {mg : Str → Option Value}
theorem told_def (c : He.SaysD fa fn K) (i : Nat) {x : Str} {st : Stmt} (hi : fn[i]? = some (dn x st)) (hg : mg x = some (.ref (He.ga K x))) : ∃ fd, C8.Def K mg x st (He.ga K x) fd ∧ fd.defaults = .none := by
  obtain ⟨fd, F⟩ := c.def_ i hi
  obtain ⟨a, b⟩ := told_fun F
  exact ⟨fd, ⟨a, hg, F.kp⟩, b⟩
theorem told_meth (c : He.SaysD fa fn K) (i : Nat) {C m q : Str} {st : Stmt} (hi : fn[i]? = some (dm C m q st)) : ∃ fd, C8.Fun K m q st (He.ma K (He.ga K C) m) fd ∧ fd.defaults = .none := by
  obtain ⟨fd, F⟩ := c.def_ i hi
  obtain ⟨a, b⟩ := told_fun F
  exact ⟨fd, a, b⟩
theorem is_ref {x : Str} {a : Addr} (e : mg x = some (.ref a)) : ∃ u, mg x = some u ∧ RelV (.ref a) u := ⟨_, e, rfl⟩
theorem is_int {x : Str} {i : Int} (e : ∃ t, mg x = some (.int i t)) : ∃ u, mg x = some u ∧ RelV (.int i) u := by
  obtain ⟨t, e⟩ := e
  exact ⟨_, e, t, rfl⟩
end
theorem bindLaw {K : PySem.W.Frag} {x : Str} {st : Stmt} {f : Addr} {fd : FuncData} (F : C8.Fun K x x st f fd) (df : fd.defaults = .none) (s : Shared) (u : Value) {p : Str}
    (e : ∀ (kV doc pm : Value) (an : Option Addr) (cdv ct : Value), bindArgs (PySem.W.fnOf x x (C8.fnArgs st) (C8.fnBody st) (C8.fnScope st) .none kV doc pm an cdv ct) ⟨[u], []⟩ = pure [(p, u)] := by intros; rfl) : BindsTo s fd ⟨[u], []⟩ [(p, u)] := by
  obtain ⟨oc,
          od, dV, kV, doc, pm, an, cdv, ct, osl, rfl, lk, hcd⟩ := F.ex
  have z : dV = .none := df
  subst z
  exact .of_eq (e kV doc pm an cdv ct)
/-! ### static methods -/
structure SDef where
  cls : Str
  name : Str
  qual : Str
  st : Stmt
def SDef.box (K : PySem.W.Frag) (d : SDef) : Addr := He.ma K (He.ga K d.cls) d.name
def SDef.ad (K : PySem.W.Frag) (d : SDef) : Addr := match PySem.W.recIn K (d.box K) "staticmethod" with
  | some (.ref g :: _) => g
  | _ => 0
def SDef.see (K : PySem.W.Frag) (d : SDef) : He.FnW := match K.lookup (d.ad K) with
  | some ⟨_, _, .func u, _⟩ => some (u.name, u.qualname, u.params, u.body, u.scope, u.globals, u.closure, u.builtins)
  | _ => none
def SDef.val (d : SDef) : He.FnW := some (d.name, d.qual, C8.fnArgs d.st, .stmts (C8.fnBody d.st), C8.fnScope d.st, mainGlobals, [], builtinsNs)
def noDfl : Value → Bool
  | .none => true
  | _ => false
def SDef.okF (K : PySem.W.Frag) (d : SDef) : Bool := match K.lookup (d.ad K) with
  | some ⟨_, _, .func u, _⟩ => PySem.W.codeIn K u.code d.qual && noDfl u.defaults
  | _ => false
def SDef.okM (K : PySem.W.Frag) (d : SDef) : Bool := match PySem.W.findCls K (.ref (He.ga K d.cls)) (.type "type") d.name with
  | some (.get (.builtin g) (.ref p) .none (.ref C)) => decide (g = "staticmethod.__get__") && (decide (p = d.box K) && decide (C = He.ga K d.cls))
  | _ => false
def SDef.okR (K : PySem.W.Frag) (d : SDef) : Bool := match PySem.W.recIn K (d.box K) "staticmethod" with
  | some (.ref _ :: _) => true
  | _ => false
def SDef.ok (K : PySem.W.Frag) (d : SDef) : Bool :=
  d.okF K && (d.okM K && (d.okR K && (PySem.W.keepIn K (.ref (d.ad K)) && (PySem.W.readsIn K (He.ga K d.cls) (.type "type") && (He.eqO (PySem.W.specialIn K (.ref (He.ga K d.cls)) "__getattribute__") (some (some (.builtin "type.__getattribute__"))) &&
    (PySem.W.plainGet K (He.ga K d.cls) Str.empty && (PySem.W.isClsIn K (He.ga K d.cls) && (He.eqO (PySem.W.findIn K (.ref (He.ga K d.cls)) d.name) (some (some (.ref (d.box K)))) && (decide (PySem.W.typeIn K (.ref (d.box K)) = some (.type "staticmethod")) &&
    (He.eqO (PySem.W.specialIn K (.ref (d.box K)) "__get__") (some (some (.builtin "staticmethod.__get__"))) && (decide (PySem.W.takesIn K (.ref (d.box K)) = some false) && !PySem.W.copiedNames.contains d.name)))))))))))
theorem SDef.fun_ {K : PySem.W.Frag} {d : SDef} (e : d.see K = d.val) (c : d.okF K = true) : ∃ fd, C8.Fun K d.name d.qual d.st (d.ad K) fd ∧ fd.defaults = .none := by
  unfold SDef.see at e
  unfold SDef.okF at c
  cases q : K.lookup (d.ad K) with
  | none =>
    rw [q] at c
    cases c
  | some o =>
    obtain ⟨oc, od, dt, osl⟩ := o
    rw [q] at c e
    cases dt with
    | func u =>
      obtain ⟨n1, n2, n3, n4, n5, n6, n7, n8, n9, n10, n11, n12, n13, n14, n15⟩ := u
      have e2 : (some (n1, n2, n3, n4, n5, n6, n7, n15) : He.FnW) = d.val := e
      unfold SDef.val at e2
      simp only [Option.some.injEq,
              Prod.mk.injEq] at e2
      obtain ⟨h1,
              h2, h3, h4, h5, h6, h7, h8⟩ := e2
      subst h1 h2 h3 h4 h5 h6 h7 h8
      obtain ⟨k1, k2⟩ := He.ba (show (PySem.W.codeIn K n13 d.qual && noDfl n8) = true from c)
      cases n8 with
      | none => exact ⟨_, ⟨oc, od, .none, n9, n10, n11, n12, n13, n14, osl, rfl, q, k1⟩, rfl⟩
      | _ => cases k2
    | _ => cases c
theorem SDef.rec_ {K : PySem.W.Frag} {d : SDef} (h : d.okR K = true) : ∃ rest, PySem.W.recIn K (d.box K) "staticmethod" = some (.ref (d.ad K) :: rest) := by
  unfold SDef.okR at h
  unfold SDef.ad
  split at h
  · rename_i g rest e
    rw [e]
    exact ⟨rest, rfl⟩
  · cases h
theorem SDef.at_ {K : PySem.W.Frag} {d : SDef} (h : d.okM K = true) : PySem.W.findCls K (.ref (He.ga K d.cls)) (.type "type") d.name = some (.get (.builtin "staticmethod.__get__") (.ref (d.box K)) .none (.ref (He.ga K d.cls))) := by
  unfold SDef.okM at h
  split at h
  · rename_i g p C e
    obtain ⟨h1, h⟩ := He.ba h
    obtain ⟨h2, h3⟩ := He.ba h
    rw [e, of_decide_eq_true h1, of_decide_eq_true h2, of_decide_eq_true h3]
  · cases h
theorem SDef.all {K : PySem.W.Frag} {d : SDef} (e : d.see K = d.val) (h : d.ok K = true) : (∃ fd, C8.Fun K d.name d.qual d.st (d.ad K) fd ∧ fd.defaults = .none) ∧ ClX.CRead K (He.ga K d.cls) (.type "type") ∧ SMet K (He.ga K d.cls) (.type "type") d.name (d.box K) (d.ad K) ∧
    SInst K (He.ga K d.cls) d.name (d.box K) (d.ad K) := by
  obtain ⟨h1, h⟩ := He.ba h
  obtain ⟨h2, h⟩ := He.ba h
  obtain ⟨h3, h⟩ := He.ba h
  obtain ⟨h4, h⟩ := He.ba h
  obtain ⟨h5, h⟩ := He.ba h
  obtain ⟨h6, h⟩ := He.ba h
  obtain ⟨h7, h⟩ := He.ba h
  obtain ⟨h8, h⟩ := He.ba h
  obtain ⟨h9, h⟩ := He.ba h
  obtain ⟨h10, h⟩ := He.ba h
  obtain ⟨h11, h⟩ := He.ba h
  obtain ⟨h12, h13⟩ := He.ba h
  have c : PySem.W.copiedNames.contains d.name = false := by
    cases z : PySem.W.copiedNames.contains d.name with
    | false => rfl
    | true =>
      rw [z] at h13
      cases h13
  exact ⟨SDef.fun_ e h1, ⟨h5, He.eqO_ok h6⟩, ⟨SDef.at_ h2, SDef.rec_ h3, h4⟩, ⟨h7, h8, He.eqO_ok h9, of_decide_eq_true h10, He.eqO_ok h11, of_decide_eq_true h12, c, SDef.rec_ h3, h4⟩⟩
/-! ### class methods -/
def SDef.adC (K : PySem.W.Frag) (d : SDef) : Addr := match PySem.W.recIn K (d.box K) "classmethod" with
  | some (.ref g :: _) => g
  | _ => 0
def SDef.seeC (K : PySem.W.Frag) (d : SDef) : He.FnW := match K.lookup (d.adC K) with
  | some ⟨_, _, .func u, _⟩ => some (u.name, u.qualname, u.params, u.body, u.scope, u.globals, u.closure, u.builtins)
  | _ => none
def SDef.okFC (K : PySem.W.Frag) (d : SDef) : Bool := match K.lookup (d.adC K) with
  | some ⟨_, _, .func u, _⟩ => PySem.W.codeIn K u.code d.qual && noDfl u.defaults
  | _ => false
def SDef.okMC (K : PySem.W.Frag) (d : SDef) : Bool := match PySem.W.findCls K (.ref (He.ga K d.cls)) (.type "type") d.name with
  | some (.get (.builtin g) (.ref p) .none (.ref C)) => decide (g = "classmethod.__get__") && (decide (p = d.box K) && decide (C = He.ga K d.cls))
  | _ => false
def SDef.okRC (K : PySem.W.Frag) (d : SDef) : Bool := match PySem.W.recIn K (d.box K) "classmethod" with
  | some (.ref _ :: _) => true
  | _ => false
def SDef.okC (K : PySem.W.Frag) (d : SDef) : Bool :=
  d.okFC K && (d.okMC K && (d.okRC K && (PySem.W.fnIn K (d.adC K) && (PySem.W.readsIn K (He.ga K d.cls) (.type "type") && He.eqO (PySem.W.specialIn K (.ref (He.ga K d.cls)) "__getattribute__") (some (some (.builtin "type.__getattribute__")))))))
theorem SDef.funC {K : PySem.W.Frag} {d : SDef} (e : d.seeC K = d.val) (c : d.okFC K = true) : ∃ fd, C8.Fun K d.name d.qual d.st (d.adC K) fd ∧ fd.defaults = .none := by
  unfold SDef.seeC at e
  unfold SDef.okFC at c
  cases q : K.lookup (d.adC K) with
  | none =>
    rw [q] at c
    cases c
  | some o =>
    obtain ⟨oc, od, dt, osl⟩ := o
    rw [q] at c e
    cases dt with
    | func u =>
      obtain ⟨n1, n2, n3, n4, n5, n6, n7, n8, n9, n10, n11, n12, n13, n14, n15⟩ := u
      have e2 : (some (n1, n2, n3, n4, n5, n6, n7, n15) : He.FnW) = d.val := e
      unfold SDef.val at e2
      simp only [Option.some.injEq,
              Prod.mk.injEq] at e2
      obtain ⟨h1,
              h2, h3, h4, h5, h6, h7, h8⟩ := e2
      subst h1 h2 h3 h4 h5 h6 h7 h8
      obtain ⟨k1, k2⟩ := He.ba (show (PySem.W.codeIn K n13 d.qual && noDfl n8) = true from c)
      cases n8 with
      | none => exact ⟨_, ⟨oc, od, .none, n9, n10, n11, n12, n13, n14, osl, rfl, q, k1⟩, rfl⟩
      | _ => cases k2
    | _ => cases c
theorem SDef.recC {K : PySem.W.Frag} {d : SDef} (h : d.okRC K = true) : ∃ rest, PySem.W.recIn K (d.box K) "classmethod" = some (.ref (d.adC K) :: rest) := by
  unfold SDef.okRC at h
  unfold SDef.adC
  split at h
  · rename_i g rest e
    rw [e]
    exact ⟨rest, rfl⟩
  · cases h
theorem SDef.atC {K : PySem.W.Frag} {d : SDef} (h : d.okMC K = true) : PySem.W.findCls K (.ref (He.ga K d.cls)) (.type "type") d.name = some (.get (.builtin "classmethod.__get__") (.ref (d.box K)) .none (.ref (He.ga K d.cls))) := by
  unfold SDef.okMC at h
  split at h
  · rename_i g p C e
    obtain ⟨h1, h⟩ := He.ba h
    obtain ⟨h2, h3⟩ := He.ba h
    rw [e, of_decide_eq_true h1, of_decide_eq_true h2, of_decide_eq_true h3]
  · cases h
theorem SDef.allC {K : PySem.W.Frag} {d : SDef} (e : d.seeC K = d.val) (h : d.okC K = true) : (∃ fd, C8.Fun K d.name d.qual d.st (d.adC K) fd ∧ fd.defaults = .none) ∧ ClX.CRead K (He.ga K d.cls) (.type "type") ∧ ClX.CMet K (He.ga K d.cls) (.type "type") d.name (d.box K) (d.adC K) := by
  obtain ⟨h1, h⟩ := He.ba h
  obtain ⟨h2, h⟩ := He.ba h
  obtain ⟨h3, h⟩ := He.ba h
  obtain ⟨h4, h⟩ := He.ba h
  obtain ⟨h5, h6⟩ := He.ba h
  exact ⟨SDef.funC e h1, ⟨h5, He.eqO_ok h6⟩, ⟨SDef.atC h2, SDef.recC h3, h4⟩⟩
/-! ### classes of errors -/
def oexB (K : PySem.W.Frag) (x : Str) : Bool := PySem.W.excInitIn K (He.ga K x) bmL "LookupError.__new__" && (PySem.W.excOver K (He.ga K x) bmL && (PySem.W.hasDictIn K (He.ga K x) && (He.eqO (PySem.W.findIn K (.ref (He.ga K x)) "__setattr__") (some (some (.builtin "object.__setattr__"))) &&
  (decide (PySem.W.subIn K (.ref (He.ga K x)) (.type "BaseException") = some true) && (decide (PySem.W.typeIn K (.ref (He.ga K x)) = some (.type "type")) && PySem.W.keepIn K (.ref (He.ga K x)))))))
theorem oexB_ok {K : PySem.W.Frag} {x : Str} (h : oexB K x = true) : OexL K (He.ga K x) := by
  obtain ⟨h1, h⟩ := He.ba h
  obtain ⟨h2, h⟩ := He.ba h
  obtain ⟨h3, h⟩ := He.ba h
  obtain ⟨h4, h⟩ := He.ba h
  obtain ⟨h5, h⟩ := He.ba h
  obtain ⟨h6, h7⟩ := He.ba h
  exact ⟨h1, h2, h3, He.eqO_ok h4, of_decide_eq_true h5, of_decide_eq_true h6, h7⟩
/-- the class's own __init__ is a plain def -/
def oinB (K : PySem.W.Frag) (x : Str) : Bool := He.eqO (PySem.W.findIn K (.ref (He.ga K x)) "__init__") (some (some (.ref (He.ma K (He.ga K x) "__init__")))) && decide (PySem.W.typeIn K (.ref (He.ma K (He.ga K x) "__init__")) = some (.type "function"))
theorem oinB_ok {K : PySem.W.Frag} {x : Str} (h : oinB K x = true) : PySem.W.findIn K (.ref (He.ga K x)) "__init__" = some (some (.ref (He.ma K (He.ga K x) "__init__"))) ∧ PySem.W.typeIn K (.ref (He.ma K (He.ga K x) "__init__")) = some (.type "function") := by
  obtain ⟨h1, h2⟩ := He.ba h
  exact ⟨He.eqO_ok h1, of_decide_eq_true h2⟩
def exkB (K : PySem.W.Frag) (x : Str) : Bool := He.eqO (PySem.W.findIn K (.ref (He.ga K x)) "__getattribute__") (some (some (.builtin "BaseException.__getattribute__"))) && (He.eqO (PySem.W.findIn K (.ref (He.ga K x)) "__getattr__") (some none) && (decide (PySem.W.subIn K (.ref (He.ga K x)) (.type "BaseException") = some true) &&
  ((PySem.W.clsIn K (He.ga K x)).isSome && (He.eqO (PySem.W.findIn K (.ref (He.ga K x)) "__class__") (some (some (.builtin "object.__class__"))) && (He.eqO (PySem.W.specialIn K (.builtin "object.__class__") "__get__") (some (some (.builtin "getset_descriptor.__get__"))) &&
  (decide (PySem.W.takesIn K (.builtin "object.__class__") = some true) && decide (PySem.W.mroIn K (He.ga K x) (.type "object") = some true)))))))
theorem exkB_ok {K : PySem.W.Frag} {x : Str} (h : exkB K x = true) : ExcK K (He.ga K x) := by
  obtain ⟨h1, h⟩ := He.ba h
  obtain ⟨h2, h⟩ := He.ba h
  obtain ⟨h3, h⟩ := He.ba h
  obtain ⟨h4, h⟩ := He.ba h
  obtain ⟨h5, h⟩ := He.ba h
  obtain ⟨h6, h⟩ := He.ba h
  obtain ⟨h7, h8⟩ := He.ba h
  exact ⟨He.eqO_ok h1, He.eqO_ok h2, of_decide_eq_true h3, h4, He.eqO_ok h5, He.eqO_ok h6, of_decide_eq_true h7, of_decide_eq_true h8⟩
/-! ### the Hook with static methods -/
abbrev AlS : Type := ((He.AlT × Bool) × List He.FnW) × List He.FnW
/-- a table stands empty, and is left out -/
theorem tabs_told {as : List Addr} {fa : List He.Fa} {fn : List He.DefD} {ts : List He.Tab} {tf : List He.Defn} {ex : PySem.W.Frag → Bool} {w : World} {h : Heap} {K : PySem.W.Frag} (eK : K = He.frT h.get? as)
    (a : He.obsT fa fn ts K = He.valT fn ts w) (b : ex K = true) (c : He.tabsB h.get? tf K = true) : He.SaysX fa fn ts tf ex w h K := by
  have each : ∀ p ∈ tf, PySem.W.codeHdIn K (He.cT K p).1 (He.cT K p).2 = true ∧ ∃ o, h.get? (He.cT K p).2 = some o ∧ He.emptyTab o = true := by
    intro p hp
    have z := List.all_eq_true.mp c p hp
    rw [Bool.and_eq_true] at z
    refine ⟨z.1, ?_⟩
    have z2 := z.2
    split at z2
    · rename_i o e
      exact ⟨o, e, z2⟩
    · cases z2
  refine ⟨a, b, fun p hp => (each p hp).1, fun p hp => ?_, fun p hp => ?_⟩
  · obtain ⟨_, o, e, t⟩ := each p hp
    rw [eK] at e ⊢
    exact He.frT_none e t
  · obtain ⟨_, o, e, t⟩ := each p hp
    rw [e]
    exact congrArg some (He.emptyTab_eq t)
structure Tell where
  n : Nat
  fa : List He.Fa
  fn : List He.DefD
  ts : List He.Tab
  tf : List He.Defn
  ex : PySem.W.Frag → Bool
  sd : List SDef
  cd : List SDef
/-- what is looked at: what the names reach, the model's own table of statics -/
def Tell.frag (t : Tell) (g : Addr → Option Obj) : PySem.W.Frag := He.frT g (cStatics :: He.asD g t.n)
def Tell.seeK (t : Tell) (g : Addr → Option Obj) (K : PySem.W.Frag) : AlS := (((He.obsT t.fa t.fn t.ts K, t.ex K && He.tabsB g t.tf K), t.sd.map fun d => d.see K), t.cd.map fun d => d.seeC K)
def Tell.see (t : Tell) (g : Addr → Option Obj) : AlS := t.seeK g (t.frag g)
def Tell.due (t : Tell) (w : World) : AlS := (((He.valT t.fn t.ts w, true), t.sd.map SDef.val), t.cd.map SDef.val)
structure Tell.Ok (t : Tell) (w : World) (h : Heap) (K : PySem.W.Frag) : Prop where
  x : He.SaysX t.fa t.fn t.ts t.tf t.ex w h K
  s : (t.sd.map fun d => d.see K) = t.sd.map SDef.val
  c : (t.cd.map fun d => d.seeC K) = t.cd.map SDef.val
theorem Tell.told {t : Tell} {w : World} {h : Heap} (e : t.see h.get? = t.due w) : t.Ok w h (t.frag h.get?) := by
  obtain ⟨e0, e7⟩ := Prod.mk.inj (show t.seeK h.get? (t.frag h.get?) = t.due w from e)
  obtain ⟨e1, e2⟩ := Prod.mk.inj e0
  obtain ⟨e3, e4⟩ := Prod.mk.inj e1
  obtain ⟨e5, e6⟩ := He.ba e4
  exact ⟨tabs_told rfl e3 e5 e6, e2, e7⟩
def Tell.hook (t : Tell) : PySem.W.Hook where
  α := AlS
  obs := fun s => t.see s.heap.get?
  val := fun w => t.due w
  says := fun w h => ∃ K : PySem.W.Frag, K.In h ∧ t.Ok w h K
  of := fun _ _ e => ⟨_, He.frT_in, Tell.told e⟩
  keeps := fun _ _ _ ⟨K, i, c⟩ k => ⟨K, PySem.W.Frag.In.keeps i k, ⟨c.x.t, c.x.more, c.x.hd, c.x.out, fun p m => k _ _ (c.x.empty p m)⟩, c.s, c.c⟩
theorem Tell.see_eq {t : Tell} {g : Addr → Option Obj} {s : Shared} (h : ∀ a, g a = s.heap.get? a) : t.see g = t.hook.obs s := by
  have e : g =
          s.heap.get? := funext h
  rw [e]
  rfl
theorem Tell.Ok.clsm {t : Tell} {w : World} {h : Heap} {K : PySem.W.Frag} (c : t.Ok w h K) (i : Nat) {d : SDef} (hi : t.cd[i]? = some d) : d.seeC K = d.val := by
  have e : (t.cd.map fun d => d.seeC K)[i]? = (t.cd.map SDef.val)[i]? := by rw [c.c]
  rw [List.getElem?_map, List.getElem?_map, hi] at e
  exact Option.some.inj e
theorem Tell.Ok.static {t : Tell} {w : World} {h : Heap} {K : PySem.W.Frag} (c : t.Ok w h K) (i : Nat) {d : SDef} (hi : t.sd[i]? = some d) : d.see K = d.val := by
  have e : (t.sd.map fun d => d.see K)[i]? = (t.sd.map SDef.val)[i]? := by rw [c.s]
  rw [List.getElem?_map, List.getElem?_map, hi] at e
  exact Option.some.inj e
end LP
namespace LP
open PySem.Spec PyProof.Rows PySem L2
/-! ### a method with defaults, told by its statement -/
def dmd (C m q : Str) (st : Stmt) (df : List He.Dv) : He.DefD := ⟨(C, some m), m, q, C8.fnArgs st, C8.fnBody st, C8.fnScope st, df, []⟩
theorem funD_fun {K : PySem.W.Frag} {x q : Str} {st : Stmt} {dvs : List V} {kws : List (Str × V)} {f : Addr} {fd : FuncData} (F : FunD K x q (C8.fnArgs st) (C8.fnBody st) (C8.fnScope st) dvs kws f fd) : C8.Fun K x q st f fd := by
  obtain ⟨oc, od, dV, kV, doc, pm, an, cdv, ct, osl, e, lk, hc, _⟩ := F.ex
  exact ⟨oc, od, dV, kV, doc, pm, an, cdv, ct, osl, e, lk, hc⟩
theorem told_methD {fa : List He.Fa} {fn : List He.DefD} {K : PySem.W.Frag} (c : He.SaysD fa fn K) (i : Nat) {C m q : Str} {st : Stmt} {df : List He.Dv} (hi : fn[i]? = some (dmd C m q st df)) : ∃ fd, FunD K m q (C8.fnArgs st) (C8.fnBody st) (C8.fnScope st) (df.map (He.Dv.v K)) [] (He.ma K (He.ga K C) m) fd := c.def_ i hi
end LP
namespace LP
open PySem L2
def top (i : Nat) : Stmt := PySem.Challenge.pw_listandpage_k07_stores_made.main.body.getD i (.Pass ⟨0, 0, 0, 0⟩)
abbrev s__wall : Stmt := top 0
abbrev s_is_integer : Stmt := top 3
abbrev s_is_index : Stmt := top 4
abbrev s_is_letters : Stmt := top 5
abbrev s_is_word : Stmt := top 6
abbrev s_is_link : Stmt := top 8
abbrev s_has_list : Stmt := top 9
abbrev s_may_lack : Stmt := top 10
abbrev s_ListandpageError : Stmt := top 12
abbrev s_BadSchema : Stmt := top 13
abbrev s_BadSchema___init__ : Stmt := inClass (top 13) 0
abbrev s_BadLine : Stmt := top 14
abbrev s_BadLine___init__ : Stmt := inClass (top 14) 0
abbrev s_BadStore : Stmt := top 15
abbrev s_BadStore___init__ : Stmt := inClass (top 15) 0
abbrev s_NoName : Stmt := top 16
abbrev s_NoName___init__ : Stmt := inClass (top 16) 0
abbrev s_NoRow : Stmt := top 17
abbrev s_NoRow___init__ : Stmt := inClass (top 17) 0
abbrev s_Store : Stmt := top 20
abbrev s_Store___init__ : Stmt := inClass (top 20) 0
abbrev s_Store__check_row : Stmt := inClass (top 20) 1
abbrev s_Store__fits : Stmt := inClass (top 20) 2
abbrev s_Store__need_table : Stmt := inClass (top 20) 3
abbrev s_Store__need_row : Stmt := inClass (top 20) 4
abbrev s_Store__place : Stmt := inClass (top 20) 5
abbrev s_Store_rows : Stmt := inClass (top 20) 6
abbrev s_Store_value : Stmt := inClass (top 20) 7
abbrev s_Store_listed : Stmt := inClass (top 20) 8
abbrev s_Store_add : Stmt := inClass (top 20) 9
abbrev s_Store_change : Stmt := inClass (top 20) 10
abbrev s_Store_copy : Stmt := inClass (top 20) 11
abbrev s_Store_part : Stmt := inClass (top 20) 12
abbrev s_Store__renumbered : Stmt := inClass (top 20) 13
abbrev s_Store_printed : Stmt := inClass (top 20) 14
abbrev s_Store___len__ : Stmt := inClass (top 20) 15
abbrev s_Store___contains__ : Stmt := inClass (top 20) 16
abbrev s_Store___eq__ : Stmt := inClass (top 20) 17
abbrev s_write_lines : Stmt := top 22
abbrev s__write_column : Stmt := top 23
abbrev s_read_lines : Stmt := top 24
abbrev s__is_head : Stmt := top 25
abbrev s__read_column : Stmt := top 26
abbrev s__read_link : Stmt := top 27
abbrev s_Schema : Stmt := top 33
abbrev s_Schema___init__ : Stmt := inClass (top 33) 0
abbrev s_Schema__take_columns : Stmt := inClass (top 33) 1
abbrev s_Schema__is_column : Stmt := inClass (top 33) 2
abbrev s_Schema__is_list : Stmt := inClass (top 33) 3
abbrev s_Schema_columns : Stmt := inClass (top 33) 4
abbrev s_Schema_lists : Stmt := inClass (top 33) 5
abbrev s_Schema_filled : Stmt := inClass (top 33) 6
abbrev s_Schema_read : Stmt := inClass (top 33) 7
abbrev s_Schema_is_name : Stmt := inClass (top 33) 8
abbrev s_Schema___len__ : Stmt := inClass (top 33) 9
abbrev s_Schema___contains__ : Stmt := inClass (top 33) 10
abbrev s_Schema___eq__ : Stmt := inClass (top 33) 11
abbrev s_Schema___str__ : Stmt := inClass (top 33) 12
abbrev s__meets : Stmt := top 34
abbrev s__law_start : Stmt := top 36
abbrev s__law_take : Stmt := top 37
abbrev s__law_of : Stmt := top 38
abbrev s__law_reserved : Stmt := top 39
abbrev s__law_draw_letters : Stmt := top 40
abbrev s__law_new_name : Stmt := top 41
abbrev s__law_all_links : Stmt := top 42
abbrev s__law_reach : Stmt := top 43
abbrev s__law_is_listed : Stmt := top 44
abbrev s__law_is_heavy : Stmt := top 45
abbrev s__law_names_taken : Stmt := top 46
abbrev s__law_allowed : Stmt := top 47
abbrev s__law_draw_columns : Stmt := top 48
abbrev s__law_draw_tables : Stmt := top 49
abbrev s__law_draw_cell : Stmt := top 50
abbrev s__law_draw_rows : Stmt := top 51
abbrev s__law_in_list : Stmt := top 52
abbrev s__law_list_names : Stmt := top 53
abbrev s__law_same : Stmt := top 54
abbrev s__law_is_table_told : Stmt := top 55
abbrev s__law_is_told : Stmt := top 56
abbrev s__law_other : Stmt := top 57
abbrev s_law : Stmt := top 58
end LP
namespace LP
open PySem L2
/-! ### an own exception over ValueError with two fields -/
def spEx2 (C : Addr) (f g : Str) : Sp := fun vs H Q _ => ∃ (a : Addr) (v u : V), vs = [.ref a, v, u] ∧ H a = some (exo a C none) ∧ ∀ dx, H dx = none → dx ≠ a → Q .non (upd (upd (upd H dx (exd dx [(f, v)])) a (exo a C (some dx))) dx (exd dx [(g, u), (f, v)]))
structure ExV (P : Program) (w : World) (K : PySem.W.Frag) (mg : Str → Option Value) (base : Heap) (x : Str) (C fI : Addr) (fd : FuncData) (ps : List Str) (k : Nat) (sp : Sp) : Prop where
  T : OexC K C
  iC : PySem.W.findIn K (.ref C) "__init__" = some (some (.ref fI))
  tI : PySem.W.typeIn K (.ref fI) = some (.type "function")
  F : FnOk P w K mg base C8.CX0 k fI fd ps sp
  b : Binds K fd ps []
  mgC : mg x = some (.ref C)
/-- self.f = e, self an exception that is being made -/
def kOs2 (K : PySem.W.Frag) (f : Str) (y x : V) (H : Hp) (q : Hp → Prop) : Prop := ∃ a C : Addr, x = .ref a ∧ OexC K C ∧ PySem.W.findIn K (.ref C) f = some none ∧
  ((H a = some (exo a C none) ∧ ∀ dx, H dx = none → dx ≠ a → q (upd (upd H dx (exd dx [(f, y)])) a (exo a C (some dx)))) ∨
    ∃ (dx : Addr) (fs : List (Str × V)), H a = some (exo a C (some dx)) ∧ H dx = some (exd dx fs) ∧ fs.length ≤ 900 ∧ q (upd H dx (exd dx ((f, y) :: fs))))
def tOs2 (K : PySem.W.Frag) (f : Str) (to te : TE) : TS := fun D σ H => te σ H fun y H1 => to σ H1 fun x H2 => kOs2 K f y x H2 (D.nx σ)
theorem ps_os2 {X : Cx} {K : PySem.W.Frag} {o e : Expr} {to te : TE} {f : Str} {p' pos : Pos} (hK : X.K = K) (ho : PE X o to) (he : PE X e te) (hs : swapsWith e (some (.Attribute o f p')) pos.line X.env = pure false := by rfl) : PS X (.Assign [.Attribute o f p'] e pos) (tOs2 K f to te) := hK ▸ ps_ost ho he hs
theorem w_os2 {K : PySem.W.Frag} {f : Str} {to te : TE} {D : Ends} {σ : L2.St} {H : Hp} (h : te σ H fun y H1 => to σ H1 fun x H2 => kOs2 K f y x H2 (D.nx σ)) : tOs2 K f to te D σ H := h
/-- C(..) that is raised -/
def tMkV (C : Addr) (sp : Sp) (ta : TA) : L2.St → Hp → XK → Prop := fun σ H Q => ta σ H fun vs H1 => vs.length ≤ 1000 ∧ ∀ a, H1 a = none →
  sp (.ref a :: (vs ++ [])) (upd H1 a (exo a C none)) (fun v H2 => v = .non ∧ ∃ (d : Addr) (fs : List (Str × V)), H2 a = some (exo a C (some d)) ∧ H2 d = some (exd d fs) ∧ H1 d = none ∧ Q (.ref C) (some d) (upd (L2.del H2 a) d (.xd fs))) (fun _ _ _ => False)
def tRaiseV (C : Addr) (sp : Sp) (ta : TA) (E : XK) : TS := fun _ σ H => tMkV C sp ta σ H fun cls d H' => E cls d H'
theorem pmk_V {X : Cx} {e : Expr} {es : List Expr} {ta : TA} {p pos : Pos} {x : Str} {C fI : Addr} {k j : Nat} {fd : FuncData} {ps : List Str} {sp : Sp} (c : ExV X.prog X.w X.K X.mg X.base x C fI fd ps k sp) (hr : Room j X.A) (hk : k + 1 ≤ j) (hg : Gl X x) (ha : PA X (e :: es) ta)
    (hdb :
            (x == ("__debug__" : Str)) = false := by decide) (he : starEach (e :: es) X.env = (false, eval e X.env) :: starEach es X.env := by rfl) (hpl : (backTo pos (starEach es X.env)).any (·.1) = false := by rfl) :
    PMk X (.Call (.Name x p) (e :: es) [] pos) (tMkV C sp ta) := pmk_oex (dvs := []) (ds := []) c.T c.iC c.tI c.F (hr.mono hk) c.b .nil C8.pass0 hg c.mgC ha hdb he hpl
theorem ps_raiseV {X : Cx} {ex : Expr} {C : Addr} {sp : Sp} {ta : TA} {E : XK} {pos : Pos} (hc : X.calm = true) (tk : Takes X fun cls d _ H => E cls d H) (h : PMk X ex (tMkV C sp ta)) : PS X (.Raise (some ex) none pos) (tRaiseV C sp ta E) := ps_raise hc tk h
theorem w_raiseV {C : Addr} {sp : Sp} {ta : TA} {E : XK} {D : Ends} {σ : L2.St} {H : Hp} (h : ta σ H fun vs H1 => vs.length ≤ 1000 ∧ ∀ a, H1 a = none →
    sp (.ref a :: (vs ++ [])) (upd H1 a (exo a C none)) (fun v H2 => v = .non ∧ ∃ (d : Addr) (fs : List (Str × V)), H2 a = some (exo a C (some d)) ∧ H2 d = some (exd d fs) ∧ H1 d = none ∧ E (.ref C) (some d) (upd (L2.del H2 a) d (.xd fs))) (fun _ _ _ => False)) : tRaiseV C sp ta E D σ H := h
/-- what a def wishes that may refuse with two values -/
def Bad2 (C : Addr) (f g : Str) (v u : V) (H : Hp) (E : XK) : Prop := ∀ (dd : Addr) (H' : Hp), (∀ b o, H b = some o → H' b = some o) → H' dd = some (.xd [(g, u), (f, v)]) → E (.ref C) (some dd) H'
theorem raised2 {H : Hp} {C : Addr} {f g : Str} {v u : V} {E : XK} (k : Bad2 C f g v u H E) (a : Addr) (ha : H a = none) : spEx2 C f g [.ref a, v, u] (upd H a (exo a C none))
    (fun x H2 => x = .non ∧ ∃ (d : Addr) (fs : List (Str × V)), H2 a = some (exo a C (some d)) ∧ H2 d = some (exd d fs) ∧ H d = none ∧ E (.ref C) (some d) (upd (L2.del H2 a) d (.xd fs))) (fun _ _ _ => False) := by
  refine ⟨a, v, u, rfl, upd_same, fun dx hdx ne => ⟨rfl, dx, _, by rw [upd_ne ne.symm]; exact upd_same, upd_same, ?_, ?_⟩⟩
  · rw [upd_ne ne] at hdx
    exact hdx
  · rw [upd_ne ne] at hdx
    refine k dx _ (fun b o hb => ?_) upd_same
    have b1 : b ≠ dx := ne_of_none hb hdx
    have b2 : b ≠ a := ne_of_none hb ha
    rw [upd_ne b1, L2.del_ne b2, upd_ne b1, upd_ne b2, upd_ne b1, upd_ne b2]
    exact hb
/-! ### calls that may raise -/
structure CalX (P : Program) (w : World) (K : PySem.W.Frag) (mg : Str → Option Value) (base : Heap) (k : Nat) (x : Str) (sp : Sp) : Prop where
  ex : ∃ (f : Addr) (fd : FuncData) (ps : List Str), FnOk P w K mg base (L2.CX P w) k f fd ps sp ∧ mg x = some (.ref f) ∧ PySem.W.keepIn K (.ref f) = true ∧ Binds K fd ps []
structure MakX (P : Program) (w : World) (K : PySem.W.Frag) (mg : Str → Option Value) (base : Heap) (k : Nat) (x : Str) (C : Addr) (sp : Sp) : Prop where
  ex : ∃ (f : Addr) (fd : FuncData) (ps : List Str), Mk K C f ∧ FnOk P w K mg base (L2.CX P w) k f fd ps sp ∧ mg x = some (.ref C) ∧ Binds K fd ps []
section
variable {X : Cx} {k j : Nat} {x : Str} {C : Addr} {sp : Sp} {E : XK} {e : Expr} {es : List Expr} {p pos : Pos} {t : TA}
theorem pe_cx (c : CalX X.prog X.w X.K X.mg X.base k x sp) (hr : Room j X.A) (hk : k ≤ j) (hx : Passes (L2.CX X.prog X.w) X E) (hg : Gl X x) (ha : PA X (e :: es) t)
    (hdb :
            (x == ("__debug__" : Str)) = false := by decide) (he : starEach (e :: es) X.env = (false, eval e X.env) :: starEach es X.env := by rfl) (hpl : (backTo pos (starEach es X.env)).any (·.1) = false := by rfl) :
    PE X (.Call (.Name x p) (e :: es) [] pos) (tCall sp [] E t) := by
  obtain ⟨f, fd, ps, F, hm, kp, b⟩ := c.ex
  exact pe_call F (hr.mono hk) hg hm kp b .nil hx ha hdb he hpl
theorem pe_mkx (c : MakX X.prog X.w X.K X.mg X.base k x C sp) (hr : Room j X.A) (hk : k + 1 ≤ j) (hx : Passes (L2.CX X.prog X.w) X E) (hg : Gl X x) (ha : PA X (e :: es) t)
    (hdb :
            (x == ("__debug__" : Str)) = false := by decide) (he : starEach (e :: es) X.env = (false, eval e X.env) :: starEach es X.env := by rfl) (hpl : (backTo pos (starEach es X.env)).any (·.1) = false := by rfl) :
    PE X (.Call (.Name x p) (e :: es) [] pos) (tMake C sp [] E t) := by
  obtain ⟨f, fd, ps, M, F, hm, b⟩ := c.ex
  exact pe_make M F (hr.mono hk) hg hm b .nil hx ha hdb he hpl
theorem passE {X : Cx} {E : XK} (tk : Takes X fun cls d _ H => E cls d H) : Passes (L2.CX X.prog X.w) X E := passes_call tk fun _ _ _ _ h => h
end
/-! ### the class, told by its record -/
def oxcB (K : PySem.W.Frag) (C : Addr) : Bool := match K.lookup C with
  | some ⟨.type "type",
          _, .cls cd, sl⟩ => (match cd.mro, sl.toList with
    | .ref C' :: bm, [_, _, _, _, some (.builtin n), _] => C' == C && (n == "ValueError.__new__" && (!cd.hasDel && (cd.hasDict && PySem.HandSPX.refsVE bm)))
    | _, _ => false)
  | _ => false
theorem oxcB_ok {K : PySem.W.Frag} {C : Addr} (q : oxcB K C = true) : ∃ nm qn N bs bm sn sub ab col dd k0 k1 k2 k3 k5, K.lookup C = some (PySem.excClassObj nm qn C N bs bm true sn sub ab col dd k0 k1 k2 k3 k5 "ValueError.__new__") ∧ PySem.HandSPX.refsVE bm = true := by
  unfold oxcB at q
  split at q
  · rename_i dd cd sl ho
    split at q
    · rename_i CR bm k0 k1 k2 k3 n k5 hm hs
      simp only [Bool.and_eq_true,
              beq_iff_eq, Bool.not_eq_true'] at q
      obtain ⟨rfl, rfl, hdel, hdc, hv⟩ := q
      obtain ⟨nm,
              bs, mro, ns, qn, hd, sn, sub, ab, col, del⟩ := cd
      dsimp only at hm hdel hdc
      subst hm hdel hdc
      have hsl : sl = #[k0, k1, k2, k3, some (.builtin "ValueError.__new__"), k5] := by
        obtain ⟨l⟩ := sl
        simp only at hs
        rw [hs]
      subst hsl
      exact ⟨nm, qn, ns, bs, bm, sn, sub, ab, col, dd, k0, k1, k2, k3, k5, ho, hv⟩
    · cases q
  · cases q
def oxvB (K : PySem.W.Frag) (x : Str) : Bool := oxcB K (He.ga K x) && (He.eqO (PySem.W.findIn K (.ref (He.ga K x)) "__setattr__") (some (some (.builtin "object.__setattr__"))) &&
  (decide (PySem.W.subIn K (.ref (He.ga K x)) (.type "BaseException") = some true) && (decide (PySem.W.typeIn K (.ref (He.ga K x)) = some (.type "type")) && PySem.W.keepIn K (.ref (He.ga K x)))))
theorem oxvB_ok {K : PySem.W.Frag} {x : Str} (h : oxvB K x = true) : OexC K (He.ga K x) := by
  obtain ⟨h1, h⟩ := He.ba h
  obtain ⟨h2, h⟩ := He.ba h
  obtain ⟨h3, h⟩ := He.ba h
  obtain ⟨h4, h5⟩ := He.ba h
  exact ⟨oxcB_ok h1, He.eqO_ok h2, of_decide_eq_true h3, of_decide_eq_true h4, h5⟩
end LP
namespace LP
open PySem.Spec PyProof.Rows PySem L2
def k07_fa_0 : List He.Fa := [.glo "is_integer", .glo "is_index", .glo "is_letters", .glo "is_word", .glo "is_link", .glo "has_list", .glo "may_lack", .glo "write_lines", .glo "_write_column", .glo "_meets", .glo "_law_start", .glo "_law_take", .glo "_law_of", .glo "_law_reserved", .glo "_law_draw_letters", .glo "_law_new_name", .glo "_law_all_links", .glo "_law_reach", .glo "_law_is_listed", .glo "_law_is_heavy", .glo "_law_names_taken", .glo "_law_allowed", .glo "_law_draw_columns", .glo "_law_draw_tables", .glo "_law_draw_cell", .glo "_law_draw_rows", .glo "_law_in_list", .glo "_law_list_names", .glo "_law_same", .glo "_law_is_table_told"]
def k07_fa_1 : List He.Fa := [.glo "_law_is_told", .glo "_law_other", .glo "law", .free "len", .free "int", .free "abs", .free "max", .free "min", .free "any", .free "all", .free "str", .free "bool", .free "list", .free "tuple", .free "dict", .free "isinstance", .free "range", .free "reversed", .free "enumerate", .free "zip", .free "sum", .int "MOST_LETTERS" 8, .int "MOST_TABLES" 6, .int "MOST_COLUMNS" 6, .glo "RESERVED", .glo "Schema", .int "TOO_LARGE" 1000000000000000000000000000000, .glo "Store", .cls "Schema", .noat "Schema" "_columns"]
def k07_fa_2 : List He.Fa := [.noat "Schema" "_lists", .noat "Schema" "user", .noat "Schema" "tables", .noat "Schema" "_lines", .cls "Store", .noat "Store" "schema", .noat "Store" "_rows", .glo "LENGTHS", .mkr "Schema", .mkr "Store", .meth "Schema" "__contains__", .meth "Schema" "_is_list", .meth "Schema" "_is_column", .meth "Schema" "_take_columns", .meth "Schema" "columns", .meth "Schema" "lists", .meth "Schema" "__eq__", .meth "Store" "_check_row", .meth "Store" "_fits", .meth "Store" "_need_table", .meth "Store" "_need_row", .meth "Store" "_place", .meth "Store" "rows", .meth "Store" "value", .meth "Store" "listed", .meth "Store" "__len__", .meth "Store" "__contains__", .meth "Store" "__eq__", .noat "NoName" "name", .noat "NoRow" "table"]
def k07_fa_3 : List He.Fa := [.noat "NoRow" "at", .noat "BadStore" "table", .noat "BadStore" "at", .noat "BadStore" "column", .glo "NoName", .glo "NoRow", .glo "BadStore"]
def k07_fa : List He.Fa := k07_fa_0 ++ (k07_fa_1 ++ (k07_fa_2 ++ k07_fa_3))
def k07_fn_0 : List He.DefD := [dn "is_integer" s_is_integer, dn "is_index" s_is_index, dn "is_letters" s_is_letters, dn "is_word" s_is_word, dn "is_link" s_is_link, dn "has_list" s_has_list, dn "may_lack" s_may_lack, dn "write_lines" s_write_lines, dn "_write_column" s__write_column, dn "_meets" s__meets, dn "_law_start" s__law_start, dn "_law_take" s__law_take, dn "_law_of" s__law_of, dn "_law_reserved" s__law_reserved, dn "_law_draw_letters" s__law_draw_letters, dn "_law_new_name" s__law_new_name, dn "_law_all_links" s__law_all_links, dn "_law_reach" s__law_reach, dn "_law_is_listed" s__law_is_listed, dn "_law_is_heavy" s__law_is_heavy, dn "_law_names_taken" s__law_names_taken, dn "_law_allowed" s__law_allowed, dn "_law_draw_columns" s__law_draw_columns, dn "_law_draw_tables" s__law_draw_tables, dn "_law_draw_cell" s__law_draw_cell, dn "_law_draw_rows" s__law_draw_rows, dn "_law_in_list" s__law_in_list, dn "_law_list_names" s__law_list_names, dn "_law_same" s__law_same, dn "_law_is_table_told" s__law_is_table_told]
def k07_fn_1 : List He.DefD := [dn "_law_is_told" s__law_is_told, dn "_law_other" s__law_other, dn "law" s_law, dm "Schema" "__init__" "Schema.__init__" s_Schema___init__, dm "Schema" "_take_columns" "Schema._take_columns" s_Schema__take_columns, dm "Schema" "_is_column" "Schema._is_column" s_Schema__is_column, dm "Schema" "_is_list" "Schema._is_list" s_Schema__is_list, dm "Schema" "columns" "Schema.columns" s_Schema_columns, dm "Schema" "lists" "Schema.lists" s_Schema_lists, dm "Schema" "__contains__" "Schema.__contains__" s_Schema___contains__, dm "Schema" "__eq__" "Schema.__eq__" s_Schema___eq__, dm "Store" "_check_row" "Store._check_row" s_Store__check_row, dm "Store" "_fits" "Store._fits" s_Store__fits, dm "Store" "_need_table" "Store._need_table" s_Store__need_table, dm "Store" "_need_row" "Store._need_row" s_Store__need_row, dm "Store" "_place" "Store._place" s_Store__place, dm "Store" "rows" "Store.rows" s_Store_rows, dm "Store" "value" "Store.value" s_Store_value, dm "Store" "listed" "Store.listed" s_Store_listed, dm "Store" "__len__" "Store.__len__" s_Store___len__, dm "Store" "__contains__" "Store.__contains__" s_Store___contains__, dm "Store" "__eq__" "Store.__eq__" s_Store___eq__, dm "NoName" "__init__" "NoName.__init__" s_NoName___init__, dm "NoRow" "__init__" "NoRow.__init__" s_NoRow___init__, dm "BadStore" "__init__" "BadStore.__init__" s_BadStore___init__, dmd "Store" "__init__" "Store.__init__" s_Store___init__ [.non]]
def k07_fn : List He.DefD := k07_fn_0 ++ k07_fn_1
def k07_ex : List (PySem.W.Frag → Bool) := [fun K => He.tupB K "RESERVED" (reservedL.map He.Dv.str), fun K => SDef.ok K (⟨"Schema", "is_name", "Schema.is_name", s_Schema_is_name⟩ : SDef), fun K => He.valsB K (He.ga K "LENGTHS") [("flag", .int 2), ("number", .int 2), ("word", .int 3), ("link", .int 5)], fun K => oexB K "NoName", fun K => oinB K "NoName", fun K => oexB K "NoRow", fun K => oinB K "NoRow", fun K => oxvB K "BadStore", fun K => oinB K "BadStore", fun K => He.eqO (PySem.W.findIn K (.ref (He.ga K "Schema")) "__class__") (some (some (.builtin "object.__class__"))), fun K => He.eqO (PySem.W.specialIn K (.builtin "object.__class__") "__get__") (some (some (.builtin "getset_descriptor.__get__"))), fun K => decide (PySem.W.takesIn K (.builtin "object.__class__") = some true), fun K => decide (PySem.W.mroIn K (He.ga K "Schema") (.type "object") = some true), fun K => (["NoneType", "int", "str", "list"].all fun t => decide (PySem.W.kitOne K (.type t) (.ref (He.ga K "Schema")) = some false)), fun K => He.eqO (PySem.W.findIn K (.ref (He.ga K "Schema")) "__ne__") (some (some (.builtin "object.__ne__"))), fun K => He.eqO (PySem.W.findIn K (.ref (He.ga K "Store")) "__class__") (some (some (.builtin "object.__class__"))), fun K => decide (PySem.W.mroIn K (He.ga K "Store") (.type "object") = some true), fun K => (["NoneType", "int", "str", "list"].all fun t => decide (PySem.W.kitOne K (.type t) (.ref (He.ga K "Store")) = some false)), fun K => He.eqO (PySem.W.findIn K (.ref (He.ga K "Store")) "__ne__") (some (some (.builtin "object.__ne__"))), fun K => decide (PySem.W.kitOne K (.type "dict") (.ref (He.ga K "Store")) = some false), fun K => decide (PySem.W.kitOne K (.ref (He.ga K "Schema")) (.ref (He.ga K "Store")) = some false), fun K => decide (PySem.W.subIn K (.ref (He.ga K "Schema")) (.ref (He.ga K "Store")) = some false)]
def k07_tell : Tell := ⟨6, k07_fa, k07_fn, [(fun K => He.ga K "LENGTHS", ["flag", "number", "word", "link"])], [], fun K => k07_ex.all fun e => e K, [⟨"Schema", "is_name", "Schema.is_name", s_Schema_is_name⟩], []⟩
def k07_names_0 : List Str := ["_wall", "MOST_LETTERS", "is_integer", "is_index", "is_letters", "is_word", "is_link", "has_list", "may_lack", "ListandpageError", "BadSchema", "BadLine", "BadStore", "NoName", "NoRow", "TOO_LARGE", "Store", "write_lines", "_write_column", "read_lines", "_is_head", "_read_column", "_read_link", "MOST_TABLES", "MOST_COLUMNS", "RESERVED", "LENGTHS", "Schema", "_meets", "_law_start"]
def k07_names_1 : List Str := ["_law_take", "_law_of", "_law_reserved", "_law_draw_letters", "_law_new_name", "_law_all_links", "_law_reach", "_law_is_listed", "_law_is_heavy", "_law_names_taken", "_law_allowed", "_law_draw_columns", "_law_draw_tables", "_law_draw_cell", "_law_draw_rows", "_law_in_list", "_law_list_names", "_law_same", "_law_is_table_told", "_law_is_told", "_law_other"]
def k07_names : List Str := k07_names_0 ++ k07_names_1
abbrev k07_R : PySem.W.OpenRow := PySem.W.OpenLaw.row PySem.Challenge.rw_listandpage_k07_stores_made
def k07_ob (s : PySem.W.SharedT) : AlS := k07_tell.see (HandSHeadRun.getT s)
theorem k07_ob_eq (s : PySem.W.SharedT) : k07_ob s = k07_tell.hook.obs s.abs := Tell.see_eq (HandSHeadRun.getT_eq s)
end LP
namespace LP
open PySem.Spec PyProof.Rows PySem L2
abbrev k07_Run (w : World) : Prop := HandSHeadRun.RunEq k07_R (PySem.W.view k07_R.prog [58]) k07_tell.hook k07_ob 9000 k07_names w
theorem k07_run_false (w : World) : k07_Run (w.withFollow "special-get-raises" false) := by
  intro os
  kernel_rfl
theorem k07_run_true (w : World) : k07_Run (w.withFollow "special-get-raises" true) := by
  intro os
  kernel_rfl
theorem k07_run (w : World) : k07_Run w := PySem.W.byRow2 "special-get-raises" k07_run_false k07_run_true w
end LP
namespace LP
open PySem L2
open PySem.W (KdlSrc)
section
variable {prog : Program}
        {w : World} {A : Around} {E : Value → Shared → Prop} {s : Shared} {T : String} {r d : Addr} {n : Nat} {P : Nat → Value → Prop} {OK : Heap → Prop}
/-- what list(x) can take, a tuple can be made of -/
theorem collect_src {Q : List Value → Shared → Prop} (src : KdlSrc prog w T r d n P OK) (calm : A.handled = none) (ok : OK s.heap) (few : n ≤ sizeLine)
    (q : ∀ (h' : Heap) (tk : Nat) (acc : Array Value), (∀ b o, s.heap.get? b = some o → h'.get? b = some o) → ItemsOf P acc n → Q acc.toList { s with heap := h', toks := tk }) : wpAny (model prog w) A (collect (.ref r)) Q E s := by
  have lt := src.there _ ok
  let S := s.heap.objs.size
  let s1 : Shared := { s with heap := s.heap.push { cls := .type "list", data := .seq ([] : List Value).toArray } }
  have hS : s1.heap.get? S = some { cls := .type "list", data := .seq #[] 0 } := Heap.get?_push_size _ rfl
  have up : ∀ b o, s.heap.get? b = some o → s1.heap.get? b = some o := fun b o e => Heap.get?_push_of_some _ e
  have ok1 : OK s1.heap := src.keep _ _ ok fun b _ o e => up b o e
  unfold collect
  refine wpAny_bind
          (wpAny_runValue (codeAny_builtin F.entry_proto_collect ?_))
  rw [Around.under_plainId F.plain_proto_collect _]; show wpAny _ A.in1 (newList [] >>= fun l => again (.builtin "list.__iadd__" ⟨[l, .ref r], []⟩)) _ _ s
  refine wpAny_bind (wpAny_newObj_type (wpAny_pure ⟨plainId_quiet F.plain_list_iadd _, codeAny_builtin F.entry_list_iadd ?_⟩))
  rw [Around.under_plainId F.plain_list_iadd _]; show wpAny _ A.in1 (Builtin.List.listExtendWith (.ref S) (.ref r) (.ref S)) _ _ s1
  let R : Result → Shared → Prop := fun rr s' => rr = .ok (.ret (.ref S)) ∧ ∃ (h' : Heap) (tk : Nat) (acc : Array Value) (c : Nat), s' = { s with heap := h', toks := tk } ∧ (∀ b o, s.heap.get? b = some o → h'.get? b = some o) ∧ h'.get? S = some { cls := .type "list", dict := none, data := .seq acc c, slots := #[] } ∧ ItemsOf P acc n
  have ext := PySem.W.kdl_extend (A := A) (R := R) src calm ok1 S (Nat.ne_of_gt lt.1) (Nat.ne_of_gt lt.2) (.ref S) 0 hS (fun h' tk acc c k e i => ⟨rfl, h', tk, acc, c, rfl, fun b o z => k b o (Nat.ne_of_lt (Heap.lt_size z)) (up b o z), e, i⟩) few
  have fin : ∀ {s' : Shared}, R (.ok (.ret (.ref S))) s' → wpAny (model prog w) A (load S >>= fun ob => match ob.data with | Data.seq xs _ => pure xs.toList | _ => unsupported "internal:collect") Q E s' := fun {s'} h => by
    obtain ⟨_, h', tk, acc, c, rfl, k, hS', i⟩ := h
    exact wpAny_bind (wpAny_load hS' (wpAny_pure (q h' tk acc k i)))
  refine wpAny_mono ext (fun f s' h => ?_) (fun e s' h => absurd h.1 (by simp))
  cases f with
  | done f =>
    cases h.1
    exact fin h
  | again c => exact ⟨h.1, codeAny_mono h.2 fun rr s'' z => by cases z.1; exact fin z⟩
theorem tuple_new_dict {Q : Value → Shared → Prop} (src : KdlSrc prog w "dict" r d n P OK) (calm : A.handled = none) (ok : OK s.heap) (few : n ≤ sizeLine)
    (q : ∀ (h' : Heap) (tk : Nat) (acc : Array Value), (∀ b o, s.heap.get? b = some o → h'.get? b = some o) → ItemsOf P acc n → Q (.ref h'.objs.size) { s with heap := h'.push { cls := .type "tuple", data := .seq acc }, toks := tk }) :
    codeAny (model prog w) A (.call (.builtin "tuple.__new__") ⟨[.type "tuple", .ref r], []⟩) (wants Q E) s := by
  refine codeAny_of_tree ?_
  show wpAny _ A.in1 (checkBuiltinCall "tuple.__new__" ⟨[.type "tuple", .ref r], []⟩ >>= fun _ => again (.builtin "tuple.__new__" ⟨[.type "tuple", .ref r], []⟩)) _ _ s
  refine wpAny_bind
          (wpAny_of_eq (F.newCall_tuple_1 _) (wpAny_pure ⟨plainId_quiet F.plain_tuple_new _, codeAny_builtin F.entry_tuple_new ?_⟩))
  rw [Around.under_plainId F.plain_tuple_new _]; have f1 := sub_tuple_self
  have f2 := init_tuple_lookup
  have f3 := madeHere_tuple
  have f4 := src.type s ok
  have calm1 : A.in1.handled = none := calm
  wp_walk using wpAny_typeOf f4, collect_src (A := A.in1) src calm1 ok few
  intro h' tk acc keep items
  have e : acc.toList.toArray =
          acc := by simp
  show wpAny _ _ (Builtin.Tuple.tupleExact acc.toList.toArray >>= fun z => ret z) _ _ _
  rw [e]
  unfold Builtin.Tuple.tupleExact; exact wpAny_bind (wpAny_newObj_type (wpAny_pure (q h' tk acc keep items)) (by show acc.size ≤ sizeLine; rw [items.1]; exact few))
theorem call_tuple_dict {Q : Value → Shared → Prop} (src : KdlSrc prog w "dict" r d n P OK) (calm : A.handled = none) (ok : OK s.heap) (few : n ≤ sizeLine)
    (q : ∀ (h' : Heap) (tk : Nat) (acc : Array Value), (∀ b o, s.heap.get? b = some o → h'.get? b = some o) → ItemsOf P acc n → Q (.ref h'.objs.size) { s with heap := h'.push { cls := .type "tuple", data := .seq acc }, toks := tk }) :
    wpAny (model prog w)
            A (call (.type "tuple") [.ref r]) Q E s := by
  have made := tuple_new_dict (A := A.in1) (E := E) (Q := fun obj s₁ => s₁.TypeIs obj "tuple" ∧ Q obj s₁) src calm ok few fun h' tk acc k i => ⟨⟨_, Heap.get?_push_size _ rfl, rfl⟩, q h' tk acc k i⟩
  refine callType_codes F.called_tuple (F.typeCall_tuple_1 _) F.entry_object_init made fun obj s₁ h₁ => ⟨h₁.1, F.args_object_init_2 obj _, ?_⟩
  exact object_init_meets F.called_tuple.init.lookup F.called_tuple.made (by decide) prog w A.in1 _ s₁ ⟨h₁.1, rfl, h₁.2⟩
end
section
variable {X : Cx}
theorem call_tupD (calm : X.calm = true) : CallR X (.type "tuple") rTupD := by
  intro pins s σ H xs us Q I rv q
  obtain ⟨a, kvs, rfl, hd, q⟩ := q
  obtain ⟨u, rfl, rx⟩ := vals1 rv
  cases rx
  obtain ⟨z,
          lo, vs, rel, dd⟩ := dk_rd I.hok hd
  obtain ⟨ep, hat⟩ := dd.dictAt
  have ek :
          (kvs.map fun kv => kV kv.1) = vs.map fun p => kV p.1 := by
    have e :=
            congrArg (List.map kV) rel.keys
    rw [List.map_map,
            List.map_map] at e
    exact e
  refine call_tuple_dict (PySem.W.kdl_dict (knd := mixKind X.prog X.w) (kvs := vs) (ep := ep) lo) (I.ok.hd calm) hat (by rw [← rel.length]; exact z) fun h' tk acc hk hacc => ?_
  have hv : Vals
          (vs.map fun p => kV p.1) acc.toList := keys_at (by rw [Array.length_toList]; exact hacc.1) fun j v e => hacc.2 j v (by rw [← Array.getElem?_toList]; exact e)
  have I1 : Inv X pins σ H { s with heap := h', toks := tk } := I.kept (t' := tk) hk
  have I2 : Inv X pins σ (upd H h'.objs.size (.tup (kvs.map fun kv => kV kv.1))) { s with heap := h'.push { cls := .type "tuple", data := .seq acc }, toks := tk } :=
    I1.laid (t' := tk) (fun b o e => Heap.get?_push_of_some _ e) (Nat.le_refl _) (show ObjOk X.prog X.w _ _ _ (.tup (kvs.map fun kv => kV kv.1)) from ⟨by rw [List.length_map]; exact z, acc.toList, by rw [ek]; exact hv, by
      rw [Array.toArray_toList]
      exact PyProof.Rows.IsTup.new _ _⟩)
  exact ⟨.ref h'.objs.size,
          _, I2, rfl, q _ (I1.hok.fresh (Nat.le_refl _))⟩
end
end LP
namespace LP
open PySem L2
/-! ### d.get(k, x), d a dict of the module with text keys, the key there -/
def tKGet (K : PySem.W.Frag) (d : Addr) (td ty tx : TE) : TE := fun σ H Q => td σ H fun x H1 => x = .ref d ∧ ty σ H1 fun y H2 => tx σ H2 fun _ H3 => ∃ k u0 v0, y = .str k ∧ PySem.W.nsIn K d k = some (some u0) ∧ RelV v0 u0 ∧ Q v0 H3
section
variable {X : Cx} {d : Addr} {es : Array DictEntry} {n : Nat} {o e f : Expr} {apos cpos : Pos} {td ty tx : TE}
theorem pe_kget2 (D : KDict X.K X.w d es n) (ho : PE X o td) (he : PE X e ty) (hf : PE X f tx) (m : M2 X o "get" apos e f cpos) : PE X (.Call (.Attribute o "get" apos) [e, f] [] cpos) (tKGet X.K d td ty tx) := by
  refine ⟨fun pins s σ H Q I h => ?_⟩; refine wpAny_Call_method m.base m.few m.line PySem.F.plainAttrs_dict PySem.F.slot_dict_get PySem.F.type_dict_get (thn (ho.run pins s σ H _ I h) fun u s1 ⟨x, H1, I1, rx, ex, q1⟩ => ?_)
  subst ex
  cases (show u = Value.ref d from rx)
  have at1 := I1.kIn d _ D.at_
  refine ⟨kd_type D I1, fun b eb => ?_, ?_⟩
  · cases eb
    exact ⟨_, at1, rfl⟩
  · rw [m.trees]
    refine Calls.callWith_builtin rfl (Calls.evalArgs_plain (Calls.spliced_cons (thn (he.run pins s1 σ H1 _ I1 q1) fun iv s2 ⟨y, H2, I2, ry, q2⟩ => Calls.spliced_cons (thn (hf.run pins s2 σ H2 _ I2 q2) fun fv s3 ⟨z, H3, I3, rz, k, u0, v0, ey, e0, r0, q3⟩ => Calls.spliced_nil ?_))))
    subst ey
    obtain ⟨t, rfl⟩ := (show ∃ t, iv = Value.str k t from ry)
    have mp := PySem.W.mapOf_K (prog := X.prog) (w := X.w) I3.kIn D.at_ D.lit
    have mt := meets_dict_get_default (PySem.strKind X.prog X.w) d (PySem.strKind_is X.prog X.w k t) D.low fv
    refine call_meetsIn PySem.F.slot_dict_get mp.typeIs PySem.F.entry_dict_get (PySem.F.args_dict_get_3 _ _ _) mt ⟨_, mp, ⟨v0, H3, I3.tok _, ?_, q3⟩⟩
    rw [PySem.W.find_K D.at_ e0]
    exact r0
end
end LP
namespace LP
open PySem L2
open Evl (Ex)
/-! ### what the helpers reckon -/
def reachStep (t : Str × List Col) (found : List Str) : List Str := if t.1 ∈ found then found ++ (t.2.filter Col.isLink).map Col.target else found
def reach (ts : Tabs) (n : Str) : List Str := ts.foldr reachStep [n]
def isListed (cs : List Col) : Bool := cs.any fun c => c.lst.isSome
def isHeavy (ts : Tabs) (c : Col) : Bool := c.isLink && ts.any fun t => decide (t.1 ∈ reach ts c.target) && isListed t.2
def linkLists (cs : List Col) (tg : Str) : List (Option Str) := (cs.filter fun c => c.isLink && decide (c.target = tg)).map Col.lst
def takenStep (tg : Str) (t : Str × List Col) : List (Option Str) := linkLists t.2 tg ++ if t.1 = tg then t.2.map (fun c => some c.name) else []
def namesTaken (ts : Tabs) (cs : List Col) (tg : Str) : List (Option Str) := ts.flatMap (takenStep tg) ++ linkLists cs tg
theorem taken_len (tg : Str) {ts : Tabs} (h : ∀ t ∈ ts, t.2.length ≤ 20) : (ts.flatMap (takenStep tg)).length ≤ 40 * ts.length := by
  induction ts with
  | nil => exact Nat.zero_le _
  | cons t r ih =>
    have := ih fun t' ht' => h t' (List.mem_cons_of_mem _ ht')
    have l1 := h t List.mem_cons_self
    rw [List.flatMap_cons, List.length_append, List.length_cons]
    have l2 : (takenStep tg t).length ≤ 40 := by
      unfold takenStep linkLists
      rw [List.length_append, List.length_map]
      have l3 := List.length_filter_le (fun c => c.isLink && decide (c.target = tg)) t.2
      split
      · rw [List.length_map]
        omega
      · rw [List.length_nil]
        omega
    omega
def listedOf (cs : List Col) : List Col := cs.filter fun c => c.lst.isSome
def Col.bare : Col → Col
  | .link n t o _ => .link n t o none
  | c => c
def allowStep (ts : Tabs) (first c : Col) : Option Col := if c.isLink = false ∨ c = first then some c else if isHeavy ts c = true then none else some c.bare
def allowed (ts : Tabs) (cs : List Col) : List Col :=
  match listedOf cs with
  | [] => cs
  | first :: _ => if cs.any (isHeavy ts) = true then cs.filterMap (allowStep ts first) else cs
/-- few tables, few columns -/
def Few (ts : Tabs) : Prop := ts.length ≤ 20 ∧ ∀ t ∈ ts, t.2.length ≤ 20
theorem reachStep_in {t : Str × List Col} {f : List Str} (h : t.1 ∈ f) : reachStep t f = f ++ (t.2.filter Col.isLink).map Col.target := by unfold reachStep; rw [if_pos h]
theorem reachStep_out {t : Str × List Col} {f : List Str} (h : ¬ t.1 ∈ f) : reachStep t f = f := by unfold reachStep; rw [if_neg h]
theorem reach_len {ts : Tabs} (h : ∀ t ∈ ts, t.2.length ≤ 20) (n : Str) : (ts.foldr reachStep [n]).length ≤ 1 + 20 * ts.length := by
  induction ts with
  | nil => show 1 ≤ 1 + 20 * 0; omega
  | cons t r ih =>
    have := ih fun t' ht' => h t' (List.mem_cons_of_mem _ ht')
    have l1 := h t List.mem_cons_self
    have l2 := List.length_filter_le Col.isLink t.2
    rw [List.foldr_cons, List.length_cons]
    unfold reachStep
    split
    · rw [List.length_append, List.length_map]
      unfold reachStep at this
      omega
    · unfold reachStep at this
      omega
/-! ### promises -/
section
variable (K : PySem.W.Frag)
/-- a list of columns, read -/
def ColsR (H : Hp) (p : Addr) (cs : List Col) : Prop := ∃ vs, SqL K H p vs ∧ ColsV H vs cs
def TabsR (H : Hp) (p : Addr) (ts : Tabs) : Prop := ∃ vs, SqL K H p vs ∧ TabsV H vs ts
variable {K}
theorem ColsR.ext {H H' : Hp} {p : Addr} {cs : List Col} (e : Ex H H') (h : ColsR K H p cs) : ColsR K H' p cs := by
  obtain ⟨vs, hp, hv⟩ := h
  exact ⟨vs, Evl.ex_l e hp, hv.ext e⟩
theorem TabsR.ext {H H' : Hp} {p : Addr} {ts : Tabs} (e : Ex H H') (h : TabsR K H p ts) : TabsR K H' p ts := by
  obtain ⟨vs, hp, hv⟩ := h
  exact ⟨vs, Evl.ex_l e hp, hv.ext e⟩
theorem ColsAt.read {H : Hp} {p : Addr} {cs : List Col} (h : ColsAt H p cs) : ColsR K H p cs := by
  obtain ⟨vs, hp, hv⟩ := h
  exact ⟨vs, SqL.of hp, hv⟩
theorem TabsAt.read {H : Hp} {p : Addr} {ts : Tabs} (h : TabsAt H p ts) : TabsR K H p ts := by
  obtain ⟨vs, hp, hv⟩ := h
  exact ⟨vs, SqL.of hp, hv⟩
variable (K)
def spAllLinks : Sp := fun vs H Q _ => ∃ (p : Addr) (cs : List Col), vs = [.ref p] ∧ ColsR K H p cs ∧ cs.length ≤ 20 ∧
  ∀ (q : Addr) (H' : Hp), H q = none → Ex H H' → ColsAt H' q (cs.filter Col.isLink) → Q (.ref q) H'
def spReach : Sp := fun vs H Q _ => ∃ (p : Addr) (ts : Tabs) (n : Str), vs = [.ref p, .str n] ∧ TabsR K H p ts ∧ Few ts ∧
  ∀ (q : Addr) (H' : Hp), H q = none → Ex H H' → H' q = some (.lst ((reach ts n).map V.str)) → Q (.ref q) H'
def spIsListed : Sp := fun vs H Q _ => ∃ (p : Addr) (cs : List Col), vs = [.ref p] ∧ ColsR K H p cs ∧ cs.length ≤ 20 ∧
  ∀ (H' : Hp), Ex H H' → Q (.bl (isListed cs)) H'
def spIsHeavy : Sp := fun vs H Q _ => ∃ (p : Addr) (ts : Tabs) (v : V) (c : Col), vs = [.ref p, v] ∧ TabsR K H p ts ∧ Few ts ∧ ColAt H v c ∧
  ∀ (H' : Hp), Ex H H' → Q (.bl (isHeavy ts c)) H'
def spNamesTaken : Sp := fun vs H Q _ => ∃ (p r : Addr) (ts : Tabs) (cs : List Col) (tg : Str), vs = [.ref p, .ref r, .str tg] ∧ TabsR K H p ts ∧ Few ts ∧ ColsR K H r cs ∧ cs.length ≤ 20 ∧
  ∀ (q : Addr) (H' : Hp), H q = none → Ex H H' → H' q = some (.lst ((namesTaken ts cs tg).map vOpt)) → Q (.ref q) H'
end
end LP
namespace LP
open PySem L2
open Evl (Ex)
section
variable {K : PySem.W.Frag} {a : Addr} {xs : List V} {g : TG} {tt : TT} {te : TE} {vs : List Nat} {σ : L2.St} {H1 : Hp} {D : Addr} {Qd : Hp → Prop}
/-- a comprehension beside a list of data: each item has a value, or is left out; nothing but new things comes of a turn -/
theorem compQ {α δ : Type} (zs : List α) (R : V → α → Prop) (f : α → Option δ) (R' : V → δ → Prop) (hD : H1 D = none) (hx : SqL K H1 a xs) (hlen : xs.length ≤ 90000) (hz : Paired R xs zs)
    (hs : ∀ y z, R y z → z ∈ zs → ∀ H, Ex H1 H → ∀ (k : V → Hp → Prop) (kn : Hp → Prop), (∀ y' d H4, Ex H H4 → f z = some d → R' y' d → k y' H4) → (∀ H3, Ex H H3 → f z = none → kn H3) →
      g y (wipe σ vs) H fun σ2 H2 => wipe σ2 vs = wipe σ vs ∧ tt σ2 H2 fun b H3 => if b = true then te σ2 H3 k else kn H3)
    (hd : ∀ got H, Ex H1 H → H D = some (.lst got) → Paired R' got (zs.filterMap f) → Qd H) :
    ∃ W : Nat →
            Nat → Hp → Prop, (∃ m, W 0 m (upd H1 D (.lst []))) ∧ ∀ i m H, W i m H →
      ((Itl K a).stop i H ∧ Qd H) ∨ ((Itl K a).go i H ∧ ∃ Go : Hp → Prop, (∀ H', Go H' → ∃ m', m' < m ∧ W (i + 1) m' H') ∧ ∀ x H', (Itl K a).yld i H x H' → g x (wipe σ vs) H' fun σ2 H2 => wipe σ2 vs = wipe σ vs ∧ tt σ2 H2 fun b H3 =>
        if b = true then te σ2 H3 fun y H4 => ∃ got, H4 D = some (.lst got) ∧ got.length < sizeLine ∧ Go (upd H4 D (.lst (got ++ [y]))) else Go H3) := by
  refine compL (xs := xs) (fun d r got H => Ex H1 H ∧ ∃ md mr, zs = md ++ mr ∧ Paired R d md ∧ Paired R r mr ∧ Paired R' got (md.filterMap f)) hlen ⟨Ex.new hD, [], zs, rfl, .nil, hz, .nil⟩ (fun _ _ _ H _ h => Evl.ex_l h.1 hx) (fun d y r got H hd ha _ h k kn hk hn => ?_) (fun got H ha _ h => ?_)
  · obtain ⟨e, md, mr, ez, p1, p2, p3⟩ := h
    obtain ⟨z, mr, rfl, rz, p2⟩ := paired_cons p2
    have ez' : zs = (md ++ [z]) ++ mr := by rw [ez, List.append_assoc]; rfl
    refine hs y z rz (by rw [ez]; simp) H e k kn (fun y' d' H4 e4 hv hr => ?_) (fun H3 e3 hv => ?_)
    · refine hk y' H4 (e4 _ _ ha) ⟨(e.trans e4).mut hD, md ++ [z], mr, ez', paired_app p1 (.cons rz .nil), p2, ?_⟩
      rw [List.filterMap_append, List.filterMap_cons_some hv, List.filterMap_nil]
      exact paired_app p3 (.cons hr .nil)
    · refine hn H3 (e3 _ _ ha) ⟨e.trans e3, md ++ [z], mr, ez', paired_app p1 (.cons rz .nil), p2, ?_⟩
      rw [List.filterMap_append, List.filterMap_cons_none hv, List.filterMap_nil, List.append_nil]
      exact p3
  · obtain ⟨e, md, mr, ez, p1, p2, p3⟩ := h
    cases p2
    rw [List.append_nil] at ez
    subst ez
    exact hd got H e ha p3
/-- the values of a list of texts (or None) -/
theorem vals_strs {got : List V} {l : List Str} (h : Paired (fun v x => v = V.str x) got l) : got = l.map V.str := by
  induction h with
  | nil => rfl
  | cons h _ ih => rw [List.map_cons, h, ih]
theorem vals_opts {got : List V} {l : List (Option Str)} (h : Paired (fun v x => v = vOpt x) got l) : got = l.map vOpt := by
  induction h with
  | nil => rfl
  | cons h _ ih => rw [List.map_cons, h, ih]
theorem vals_bls {got : List V} {l : List Bool} (h : Paired (fun v x => v = V.bl x) got l) : got = l.map V.bl := by
  induction h with
  | nil => rfl
  | cons h _ ih => rw [List.map_cons, h, ih]
theorem filterMap_some {α β : Type} (f : α → β) (l : List α) : l.filterMap (fun x => some (f x)) = l.map f := by
  induction l with
  | nil => rfl
  | cons x r ih => exact congrArg (f x :: ·) ih
theorem filterMap_if {α : Type} (p : α → Bool) (l : List α) : l.filterMap (fun x => if p x = true then some x else none) = l.filter p := by
  induction l with
  | nil => rfl
  | cons x r ih =>
    cases h : p x with
    | true => rw [List.filterMap_cons_some (by rw [if_pos h]), ih, List.filter_cons_of_pos h]
    | false => rw [List.filterMap_cons_none (by rw [h]; rfl), ih, List.filter_cons_of_neg (by rw [h]; exact Bool.false_ne_true)]
theorem filterMap_ifm {α β : Type} (p : α → Bool) (f : α → β) (l : List α) : l.filterMap (fun x => if p x = true then some (f x) else none) = (l.filter p).map f := by
  induction l with
  | nil => rfl
  | cons x r ih =>
    cases h : p x with
    | true => rw [List.filterMap_cons_some (by rw [if_pos h]), ih, List.filter_cons_of_pos h, List.map_cons]
    | false => rw [List.filterMap_cons_none (by rw [h]; rfl), ih, List.filter_cons_of_neg (by rw [h]; exact Bool.false_ne_true)]
end
end LP
namespace LP
open PySem L2
open Evl (Ex)
section
variable {K : PySem.W.Frag} {a : Addr} {xs : List V} {g : TG} {tb : TS} {D : Ends} {σ : L2.St} {H H1 : Hp}
theorem loopT (Pv : List V → List V → L2.St → Hp → Prop) (h0 : Pv [] xs σ H) (hl : ∀ d r σ H, d ++ r = xs → Pv d r σ H → SqT K H a xs)
    (hs : ∀ d y r σ H, d ++ y :: r = xs → Pv d (y :: r) σ H → g y σ H fun σ2 H2 => tb { D with nx := Pv (d ++ [y]) r, ct := Pv (d ++ [y]) r, bk := D.nx } σ2 H2) (hd : ∀ σ H, Pv xs [] σ H → D.nx σ H) :
    ∃ W : Nat →
            Nat → L2.St → Hp → Prop, (∃ m, W 0 m σ H) ∧ ∀ i m σ H, W i m σ H →
      ((Itt K a).stop i H ∧ D.nx σ H) ∨ ((Itt K a).go i H ∧ ∃ N : L2.St → Hp → Prop, (∀ σ' H', N σ' H' → ∃ m', m' < m ∧ W (i + 1) m' σ' H') ∧ ∀ x H', (Itt K a).yld i H x H' → g x σ H' fun σ2 H2 => tb { D with nx := N, ct := N, bk := D.nx } σ2 H2) := by
  refine for_tup (xs := xs) (fun i σ H => Pv (xs.take i) (xs.drop i) σ H) (by simpa using h0) (fun i σ H _ h => hl _ _ σ H (List.take_append_drop i xs) h) (fun i x σ H hx h => ?_) (fun σ H h => hd σ H (by simpa using h))
  have hlt : i < xs.length := (List.getElem?_eq_some_iff.mp hx).1
  have e1 : xs.drop i = x :: xs.drop (i + 1) := by
    rw [List.drop_eq_getElem_cons hlt, (List.getElem?_eq_some_iff.mp hx).2]
  have e2 : xs.take (i + 1) = xs.take i ++ [x] := by
    rw [List.take_succ, hx]
    rfl
  have z := hs (xs.take i) x (xs.drop (i + 1)) σ H (by rw [← e1]; exact List.take_append_drop i xs) (by rw [← e1]; exact h)
  rw [← e2] at z
  exact z
end
section
variable {K : PySem.W.Frag} {a : Addr} {xs : List V} {g : TG} {tt : TT} {te : TE} {vs : List Nat} {σ : L2.St} {H1 : Hp} {D : Addr} {Qd : Hp → Prop}
theorem compLT (Pv : List V → List V → List V → Hp → Prop) (hlen : xs.length ≤ 90000) (h0 : Pv [] xs [] (upd H1 D (.lst []))) (hl : ∀ d r got H, d ++ r = xs → Pv d r got H → SqT K H a xs)
    (hs : ∀ d y r got H, d ++ y :: r = xs → H D = some (.lst got) → got.length ≤ d.length → Pv d (y :: r) got H → ∀ (k : V → Hp → Prop) (kn : Hp → Prop),
      (∀ y' H4, H4 D = some (.lst got) → Pv (d ++ [y]) r (got ++ [y']) (upd H4 D (.lst (got ++ [y']))) → k y' H4) → (∀ H3, H3 D = some (.lst got) → Pv (d ++ [y]) r got H3 → kn H3) →
      g y (wipe σ vs) H fun σ2 H2 => wipe σ2 vs = wipe σ vs ∧ tt σ2 H2 fun b H3 => if b = true then te σ2 H3 k else kn H3)
    (hd : ∀ got H, H D = some (.lst got) → got.length ≤ xs.length → Pv xs [] got H → Qd H) :
    ∃ W : Nat →
            Nat → Hp → Prop, (∃ m, W 0 m (upd H1 D (.lst []))) ∧ ∀ i m H, W i m H →
      ((Itt K a).stop i H ∧ Qd H) ∨ ((Itt K a).go i H ∧ ∃ Go : Hp → Prop, (∀ H', Go H' → ∃ m', m' < m ∧ W (i + 1) m' H') ∧ ∀ x H', (Itt K a).yld i H x H' → g x (wipe σ vs) H' fun σ2 H2 => wipe σ2 vs = wipe σ vs ∧ tt σ2 H2 fun b H3 =>
        if b = true then te σ2 H3 fun y H4 => ∃ got, H4 D = some (.lst got) ∧ got.length < sizeLine ∧ Go (upd H4 D (.lst (got ++ [y]))) else Go H3) := by
  have sz : ∀ n : Nat, n ≤ 90000 → n < sizeLine := fun n h => Nat.lt_of_le_of_lt h (by decide)
  refine lc_tup (xs := xs) (fun i H => ∃ got, H D = some (.lst got) ∧ got.length ≤ i ∧ Pv (xs.take i) (xs.drop i) got H) ⟨[], upd_same, Nat.le_refl _, by simpa using h0⟩ (fun i H _ ⟨got, _, _, h⟩ => hl _ _ got H (List.take_append_drop i xs) h) (fun i x H hx ⟨got, ha, hacc, h⟩ => ?_) (fun H ⟨got, ha, hacc, h⟩ => hd got H ha hacc (by simpa using h))
  have hlt : i < xs.length := (List.getElem?_eq_some_iff.mp hx).1
  have e1 : xs.drop i = x :: xs.drop (i + 1) := by
    rw [List.drop_eq_getElem_cons hlt, (List.getElem?_eq_some_iff.mp hx).2]
  have e2 : xs.take (i + 1) = xs.take i ++ [x] := by
    rw [List.take_succ, hx]
    rfl
  refine hs (xs.take i) x (xs.drop (i + 1)) got H (by rw [← e1]; exact List.take_append_drop i xs) ha (by rw [List.length_take]; omega) (by rw [← e1]; exact h) _ _ (fun y' H4 h4 p => ?_) (fun H3 h3 p => ?_)
  · exact ⟨got, h4, sz _ (by omega), got ++ [y'], upd_same, by rw [List.length_append]; simp; omega, by rw [e2]; exact p⟩
  · exact ⟨got, h3, by omega, by rw [e2]; exact p⟩
theorem compQT {α δ : Type} (zs : List α) (R : V → α → Prop) (f : α → Option δ) (R' : V → δ → Prop) (hD : H1 D = none) (hx : SqT K H1 a xs) (hlen : xs.length ≤ 90000) (hz : Paired R xs zs)
    (hs : ∀ y z, R y z → z ∈ zs → ∀ H, Ex H1 H → ∀ (k : V → Hp → Prop) (kn : Hp → Prop), (∀ y' d H4, Ex H H4 → f z = some d → R' y' d → k y' H4) → (∀ H3, Ex H H3 → f z = none → kn H3) →
      g y (wipe σ vs) H fun σ2 H2 => wipe σ2 vs = wipe σ vs ∧ tt σ2 H2 fun b H3 => if b = true then te σ2 H3 k else kn H3)
    (hd : ∀ got H, Ex H1 H → H D = some (.lst got) → Paired R' got (zs.filterMap f) → Qd H) :
    ∃ W : Nat →
            Nat → Hp → Prop, (∃ m, W 0 m (upd H1 D (.lst []))) ∧ ∀ i m H, W i m H →
      ((Itt K a).stop i H ∧ Qd H) ∨ ((Itt K a).go i H ∧ ∃ Go : Hp → Prop, (∀ H', Go H' → ∃ m', m' < m ∧ W (i + 1) m' H') ∧ ∀ x H', (Itt K a).yld i H x H' → g x (wipe σ vs) H' fun σ2 H2 => wipe σ2 vs = wipe σ vs ∧ tt σ2 H2 fun b H3 =>
        if b = true then te σ2 H3 fun y H4 => ∃ got, H4 D = some (.lst got) ∧ got.length < sizeLine ∧ Go (upd H4 D (.lst (got ++ [y]))) else Go H3) := by
  refine compLT (xs := xs) (fun d r got H => Ex H1 H ∧ ∃ md mr, zs = md ++ mr ∧ Paired R d md ∧ Paired R r mr ∧ Paired R' got (md.filterMap f)) hlen ⟨Ex.new hD, [], zs, rfl, .nil, hz, .nil⟩ (fun _ _ _ H _ h => Evl.ex_t h.1 hx) (fun d y r got H hd ha _ h k kn hk hn => ?_) (fun got H ha _ h => ?_)
  · obtain ⟨e, md, mr, ez, p1, p2, p3⟩ := h
    obtain ⟨z, mr, rfl, rz, p2⟩ := paired_cons p2
    have ez' : zs = (md ++ [z]) ++ mr := by rw [ez, List.append_assoc]; rfl
    refine hs y z rz (by rw [ez]; simp) H e k kn (fun y' d' H4 e4 hv hr => ?_) (fun H3 e3 hv => ?_)
    · refine hk y' H4 (e4 _ _ ha) ⟨(e.trans e4).mut hD, md ++ [z], mr, ez', paired_app p1 (.cons rz .nil), p2, ?_⟩
      rw [List.filterMap_append, List.filterMap_cons_some hv, List.filterMap_nil]
      exact paired_app p3 (.cons hr .nil)
    · refine hn H3 (e3 _ _ ha) ⟨e.trans e3, md ++ [z], mr, ez', paired_app p1 (.cons rz .nil), p2, ?_⟩
      rw [List.filterMap_append, List.filterMap_cons_none hv, List.filterMap_nil, List.append_nil]
      exact p3
  · obtain ⟨e, md, mr, ez, p1, p2, p3⟩ := h
    cases p2
    rw [List.append_nil] at ez
    subst ez
    exact hd got H e ha p3
end
end LP
namespace LP
open PySem L2
open Evl (Ex)
/-! ### columns as data that == compares -/
def SOk (x : Str) : Prop := PyData.strOk x = true
theorem SOk.low {x : Str} (h : Low x) : SOk x := by
  unfold SOk PyData.strOk
  rw [← Array.all_toList,
          List.all_eq_true]
  intro c hc
  have := h c hc
  exact decide_eq_true
          (by omega)
def dOpt : Option Str → PyData
  | none => .none
  | some x => .str x
def Col.ds : Col → List PyData
  | .plain f n => [.str (if f then "flag" else "number"), .str n]
  | .word n o => [.str "word", .str n, .bool o]
  | .link n t o l => [.str "link", .str n, .str t, .bool o, dOpt l]
def Col.data (c : Col) : PyData := .tuple c.ds
def Col.Ok : Col → Prop
  | .plain _ n => SOk n
  | .word n _ => SOk n
  | .link n t _ l => SOk n ∧ SOk t ∧ ∀ x, l = some x → SOk x
theorem dp_opt {K : PySem.W.Frag} {H : Hp} (l : Option Str) : Dp K H (vOpt l) (dOpt l) := by
  cases l with
  | none => exact .non
  | some x => exact .str x
theorem ColAt.dp {K : PySem.W.Frag} {H : Hp} {v : V} {c : Col} (h : ColAt H v c) : Dp K H v c.data := by
  obtain ⟨a, rfl, ha⟩ := h
  refine .tup (SqT.of ha) ?_
  cases c with
  | plain f n => exact .cons (.str _) (.cons (.str _) .nil)
  | word n o => exact .cons (.str _) (.cons (.str _) (.cons (.bl _) .nil))
  | link n t o l => exact .cons (.str _) (.cons (.str _) (.cons (.str _) (.cons (.bl _) (.cons (dp_opt l) .nil))))
theorem ColsV.dp {K : PySem.W.Frag} {H : Hp} {vs : List V} {cs : List Col} (h : ColsV H vs cs) : DpAll K H vs (cs.map Col.data) := by
  induction h with
  | nil => exact .nil
  | cons h _ ih => exact .cons h.dp ih
theorem Col.shaped {c : Col} (h : c.Ok) : SeqAt.shaped c.data = true := by
  unfold SeqAt.shaped
  rw [Bool.and_eq_true]
  have h4 : PyData.strOk "flag" = true := by decide +kernel
  have h5 : PyData.strOk "number" = true := by decide +kernel
  have h6 : PyData.strOk "word" = true := by decide +kernel
  have h7 : PyData.strOk "link" = true := by decide +kernel
  cases c with
  | plain f n =>
    have h1 : PyData.strOk n = true := h
    refine ⟨?_, ?_⟩
    · simp only [Col.data, Col.ds, PyData.canLay0, PyData.canLayAll0, h1, Bool.and_true, Bool.true_and]
      cases f <;> assumption
    · simp [Col.data, Col.ds, PyData.depth, PyData.depthAll]
  | word n o =>
    have h1 : PyData.strOk n = true := h
    refine ⟨?_, ?_⟩
    · simp only [Col.data, Col.ds, PyData.canLay0, PyData.canLayAll0, h1, h6, Bool.and_true, Bool.true_and]
    · simp [Col.data, Col.ds, PyData.depth, PyData.depthAll]
  | link n t o l =>
    obtain ⟨h1, h2, h3⟩ := h
    have h1 : PyData.strOk n = true := h1
    have h2 : PyData.strOk t = true := h2
    refine ⟨?_, ?_⟩
    · cases l with
      | none => simp only [Col.data, Col.ds, dOpt, PyData.canLay0, PyData.canLayAll0, h1, h2, h7, Bool.and_true, Bool.true_and]
      | some x =>
        have h3 : PyData.strOk x = true := h3 x rfl
        simp only [Col.data, Col.ds, dOpt, PyData.canLay0, PyData.canLayAll0, h1, h2, h3, h7, Bool.and_true, Bool.true_and]
    · cases l <;> simp [Col.data, Col.ds, dOpt, PyData.depth, PyData.depthAll]
theorem bdec {α : Type} [BEq α] [LawfulBEq α] [DecidableEq α] (a b : α) : (a == b) = decide (a = b) := by
  by_cases h : a = b
  · rw [decide_eq_true h, beq_iff_eq.mpr h]
  · rw [decide_eq_false h, beq_eq_false_iff_ne.mpr h]
theorem Col.eqv (c d : Col) : PyData.eqv c.data d.data = decide (c = d) := by
  have n1 : ((("flag" : Str)) == ("number" : Str)) = false := by decide +kernel
  have n2 : ((("number" : Str)) == ("flag" : Str)) = false := by decide +kernel
  have n3 : ((("word" : Str)) == ("link" : Str)) = false := by decide +kernel
  cases c with
  | plain f n =>
    cases d with
    | plain g m => cases f <;> cases g <;> simp [Col.data, Col.ds, PyData.eqv, PyData.eqvAll, n1, n2, bdec]
    | word m o => cases f <;> simp [Col.data, Col.ds, PyData.eqv, PyData.eqvAll]
    | link m t o l => cases f <;> simp [Col.data, Col.ds, PyData.eqv, PyData.eqvAll]
  | word n o =>
    cases d with
    | plain g m => cases g <;> simp [Col.data, Col.ds, PyData.eqv, PyData.eqvAll]
    | word m o' => simp [Col.data, Col.ds, PyData.eqv, PyData.eqvAll, bdec]
    | link m t o l => simp [Col.data, Col.ds, PyData.eqv, PyData.eqvAll]
  | link n t o l =>
    cases d with
    | plain g m => cases g <;> simp [Col.data, Col.ds, PyData.eqv, PyData.eqvAll]
    | word m o' => simp [Col.data, Col.ds, PyData.eqv, PyData.eqvAll]
    | link m t' o' l' => cases l <;> cases l' <;> simp [Col.data, Col.ds, dOpt, PyData.eqv, PyData.eqvAll, bdec]
theorem shapedL_cols {cs : List Col} (h : ∀ c ∈ cs, c.Ok) : SeqAt.shaped (.list (cs.map Col.data)) = true := by
  have key : ∀ cs : List Col, (∀ c ∈ cs, c.Ok) → PyData.canLayAll0 (cs.map Col.data) = true ∧ PyData.depthAll (cs.map Col.data) ≤ 63 := fun cs => by
    induction cs with
    | nil => exact fun _ => ⟨rfl, by show 0 ≤ 63; omega⟩
    | cons c r ih =>
      intro h
      obtain ⟨i1, i2⟩ := ih fun c hc => h c (List.mem_cons_of_mem _ hc)
      have s := Col.shaped (h c List.mem_cons_self)
      unfold SeqAt.shaped at s
      rw [Bool.and_eq_true, decide_eq_true_eq] at s
      have d1 : PyData.depth c.data ≤ 2 := by
        cases c with
        | plain f n => simp [Col.data, Col.ds, PyData.depth, PyData.depthAll]
        | word n o => simp [Col.data, Col.ds, PyData.depth, PyData.depthAll]
        | link n t o l => cases l <;> simp [Col.data, Col.ds, dOpt, PyData.depth, PyData.depthAll]
      rw [List.map_cons]
      refine ⟨?_, ?_⟩
      · simp only [PyData.canLayAll0, s.1, i1, Bool.and_self]
      · simp only [PyData.depthAll]
        omega
  obtain ⟨k1, k2⟩ := key cs h
  unfold SeqAt.shaped
  rw [Bool.and_eq_true, decide_eq_true_eq]
  exact ⟨by simp only [PyData.canLay0]; exact k1, by simp only [PyData.depth]; omega⟩
theorem eqv_nil (cs : List Col) : PyData.eqv (.list (cs.map Col.data)) (.list []) = cs.isEmpty := by
  cases cs with
  | nil => simp [PyData.eqv, PyData.eqvAll]
  | cons c r => simp [PyData.eqv, PyData.eqvAll]
theorem listed_link (cs : List Col) : ((cs.filter Col.isLink).filter fun c => c.lst.isSome) = listedOf cs := by
  unfold listedOf
  rw [List.filter_filter]
  refine List.filter_congr fun c _ => ?_
  cases c <;> simp [Col.lst, Col.isLink]
theorem shaped_nil : SeqAt.shaped (.list []) = true := by decide
def spAllowed (K : PySem.W.Frag) : Sp := fun vs H Q _ => ∃ (p r : Addr) (ts : Tabs) (cs : List Col), vs = [.ref p, .ref r] ∧ TabsR K H p ts ∧ Few ts ∧ ColsAt H r cs ∧ cs.length ≤ 20 ∧ (∀ c ∈ cs, c.Ok) ∧
  ∀ (q : Addr) (H' : Hp), Ex H H' → ColsAt H' q (allowed ts cs) → Q (.ref q) H'
end LP
namespace LP
open PySem L2
open Evl (Ex)
/-! ### columns and tables that may stand -/
structure PreCols (ts : Tabs) (cs : List Col) : Prop where
  nm : ∀ c ∈ cs, IsName c.name
  nd : (cs.map Col.name).Nodup
  tg : ∀ c ∈ cs, c.isLink = true → c.target ∈ ts.map (·.1)
  ls : ∀ c ∈ cs, ∀ l, c.lst = some l → IsName l
  fr : cs.Pairwise fun c c' => c.isLink = true → c.target = c'.target → ∀ l, c'.lst = some l → c.lst ≠ some l
  old : ∀ c ∈ cs, ∀ l, c.lst = some l → ∀ t ∈ ts, some l ∉ takenStep c.target t
/-- whether a table is listed or leads to a listed one, by the tables ahead of it -/
def meetOf (m : List (Str × Bool)) (cs : List Col) : Bool := isListed cs || cs.any fun c => c.isLink && (m.lookup c.target == some true)
def meetMap (ts : Tabs) : List (Str × Bool) := ts.foldl (fun m t => m ++ [(t.1, meetOf m t.2)]) []
def meets (ts : Tabs) (n : Str) : Bool := (meetMap ts).lookup n == some true
def Rule6 (ts : Tabs) (cs : List Col) : Prop := ∀ c ∈ cs, c.isLink = true → meets ts c.target = true → listedOf cs ≠ [] → listedOf cs = [c]
structure GoodCols (ts : Tabs) (cs : List Col) : Prop extends PreCols ts cs where
  few : cs.length ≤ 6
  r6 : Rule6 ts cs
inductive GoodTabs : Tabs → Prop where
  | nil : GoodTabs []
  | snoc {ts : Tabs} {n : Str} {cs : List Col} : GoodTabs ts → IsName n → n ∉ ts.map (·.1) → GoodCols ts cs → GoodTabs (ts ++ [(n, cs)])
theorem lst_link {c : Col} {l : Str} (h : c.lst = some l) : c.isLink = true := by
  cases c with
  | link n t o l => rfl
  | plain f n => cases h
  | word n o => cases h
theorem bare_name (c : Col) : c.bare.name = c.name := by cases c <;> rfl
theorem bare_target (c : Col) : c.bare.target = c.target := by cases c <;> rfl
theorem bare_link (c : Col) : c.bare.isLink = c.isLink := by cases c <;> rfl
theorem bare_lst (c : Col) : c.bare.lst = none := by cases c <;> rfl
/-- what stays of a column -/
structure Stays (c c' : Col) : Prop where
  nm : c'.name = c.name
  tg : c'.target = c.target
  lk : c'.isLink = c.isLink
  ls : c'.lst = c.lst ∨ c'.lst = none
theorem allow_stays {ts : Tabs} {f c c' : Col} (h : allowStep ts f c = some c') : Stays c c' := by
  unfold allowStep at h
  split at h
  · cases h
    exact ⟨rfl, rfl, rfl, .inl rfl⟩
  · split at h
    · cases h
    · cases h
      exact ⟨bare_name c, bare_target c, bare_link c, .inr (bare_lst c)⟩
theorem PreCols.filterMap {ts : Tabs} {cs : List Col} {f : Col → Option Col} (h : PreCols ts cs) (hf : ∀ c c', f c = some c' → Stays c c') : PreCols ts (cs.filterMap f) := by
  have mem : ∀ c' ∈ cs.filterMap f, ∃ c ∈ cs, Stays c c' := fun c' hc' => by
    obtain ⟨c, hc, e⟩ := List.mem_filterMap.mp hc'
    exact ⟨c, hc, hf c c' e⟩
  have lsm : ∀ {c c' : Col} {l : Str}, Stays c c' → c'.lst = some l → c.lst = some l := fun {c c' l} s e => by
    rcases s.ls with h | h
    · rw [← h]; exact e
    · rw [h] at e; cases e
  refine ⟨fun c' hc' => ?_, ?_, fun c' hc' hl => ?_, fun c' hc' l hl => ?_, ?_, fun c' hc' l hl t ht => ?_⟩
  · obtain ⟨c, hc, s⟩ := mem c' hc'
    rw [s.nm]
    exact h.nm c hc
  · have nd := List.pairwise_map.mp h.nd
    refine List.pairwise_map.mpr (nd.filterMap f fun a a' hn b hb b' hb' e => hn ?_)
    rw [← (hf a b hb).nm, ← (hf a' b' hb').nm]
    exact e
  · obtain ⟨c, hc, s⟩ := mem c' hc'
    rw [s.tg]
    exact h.tg c hc (s.lk ▸ hl)
  · obtain ⟨c, hc, s⟩ := mem c' hc'
    exact h.ls c hc l (lsm s hl)
  · refine h.fr.filterMap f fun a a' hn b hb b' hb' hl et l hbl hbl' => ?_
    have sa := hf a b hb
    have sb := hf a' b' hb'
    exact hn (sa.lk ▸ hl) (by rw [← sa.tg, ← sb.tg]; exact et) l (lsm sb hbl) (lsm sa hbl')
  · obtain ⟨c, hc, s⟩ := mem c' hc'
    rw [s.tg]
    exact h.old c hc l (lsm s hl) t ht
theorem allowed_eq (ts : Tabs) (cs : List Col) : (allowed ts cs = cs ∧ (listedOf cs = [] ∨ cs.any (isHeavy ts) = false)) ∨ ∃ f, f ∈ listedOf cs ∧ allowed ts cs = cs.filterMap (allowStep ts f) := by
  cases e : listedOf cs with
  | nil => exact .inl ⟨by unfold allowed; rw [e], .inl rfl⟩
  | cons f r =>
    cases ea : cs.any (isHeavy ts) with
    | false => exact .inl ⟨by unfold allowed; rw [e]; show (if cs.any (isHeavy ts) = true then _ else cs) = cs; rw [ea]; rfl, .inr rfl⟩
    | true =>
      refine .inr ⟨f, List.mem_cons_self, ?_⟩
      unfold allowed
      rw [e]
      show (if cs.any (isHeavy ts) = true then _ else cs) = _
      rw [ea]
      rfl
theorem PreCols.allowed {ts : Tabs} {cs : List Col} (h : PreCols ts cs) : PreCols ts (allowed ts cs) := by
  rcases allowed_eq ts cs with ⟨e, _⟩ | ⟨f, _, e⟩
  · rw [e]; exact h
  · rw [e]; exact h.filterMap fun _ _ => allow_stays
theorem allowed_len (ts : Tabs) (cs : List Col) : (allowed ts cs).length ≤ cs.length := by
  rcases allowed_eq ts cs with ⟨e, _⟩ | ⟨f, _, e⟩
  · rw [e]; exact Nat.le_refl _
  · rw [e]; exact List.length_filterMap_le _ _
/-! ### what leads to a listed table is heavy -/
theorem reachStep_sub {t : Str × List Col} {f g : List Str} (h : ∀ x ∈ f, x ∈ g) : ∀ x ∈ reachStep t f, x ∈ reachStep t g := fun x hx => by
  by_cases h1 : t.1 ∈ f
  · rw [reachStep_in h1] at hx
    rw [reachStep_in (h _ h1)]
    rcases List.mem_append.1 hx with hx | hx
    · exact List.mem_append.mpr (.inl (h x hx))
    · exact List.mem_append.mpr (.inr hx)
  · rw [reachStep_out h1] at hx
    by_cases h2 : t.1 ∈ g
    · rw [reachStep_in h2]
      exact List.mem_append.mpr (.inl (h x hx))
    · rw [reachStep_out h2]
      exact h x hx
theorem foldr_sub {ts : Tabs} {f g : List Str} (h : ∀ x ∈ f, x ∈ g) : ∀ x ∈ ts.foldr reachStep f, x ∈ ts.foldr reachStep g := by
  induction ts with
  | nil => exact h
  | cons t r ih => exact reachStep_sub ih
theorem foldr_keep {ts : Tabs} {f : List Str} : ∀ x ∈ f, x ∈ ts.foldr reachStep f := by
  induction ts with
  | nil => exact fun x h => h
  | cons t r ih =>
    intro x hx
    have := ih x hx
    rw [List.foldr_cons]
    by_cases h1 : t.1 ∈ r.foldr reachStep f
    · rw [reachStep_in h1]
      exact List.mem_append.mpr (.inl this)
    · rw [reachStep_out h1]
      exact this
theorem meetMap_snoc (ts : Tabs) (t : Str × List Col) : meetMap (ts ++ [t]) = meetMap ts ++ [(t.1, meetOf (meetMap ts) t.2)] := by
  unfold meetMap
  rw [List.foldl_append]
  rfl
theorem meetMap_keys (ts : Tabs) : (meetMap ts).map (·.1) = ts.map (·.1) := by
  have : ∀ (ts : Tabs) (m : List (Str × Bool)), (ts.foldl (fun m t => m ++ [(t.1, meetOf m t.2)]) m).map (·.1) = m.map (·.1) ++ ts.map (·.1) := fun ts => by
    induction ts with
    | nil => intro m; simp
    | cons t r ih => intro m; rw [List.foldl_cons, ih]; simp
  unfold meetMap
  rw [this]
  rfl
theorem lookup_app {m m' : List (Str × Bool)} {n : Str} (h : n ∉ m.map (·.1)) : (m ++ m').lookup n = m'.lookup n := by
  induction m with
  | nil => rfl
  | cons p r ih =>
    rw [List.cons_append, List.lookup_cons]
    have h1 : n ≠ p.1 := fun e => h (by rw [e]; exact List.mem_cons_self)
    rw [show (n == p.1) = false from beq_eq_false_iff_ne.mpr h1]
    exact ih fun hx => h (List.mem_cons_of_mem _ hx)
theorem lookup_left {m m' : List (Str × Bool)} {n : Str} {b : Bool} (h : m.lookup n = some b) : (m ++ m').lookup n = some b := by
  induction m with
  | nil => cases h
  | cons p r ih =>
    rw [List.lookup_cons] at h
    rw [List.cons_append, List.lookup_cons]
    split
    · rename_i e
      rw [e] at h
      exact h
    · rename_i e
      rw [e] at h
      exact ih h
theorem lookup_none {m : List (Str × Bool)} {n : Str} (h : n ∉ m.map (·.1)) : m.lookup n = none := by
  have := lookup_app (m' := []) h
  rw [List.append_nil] at this
  exact this
theorem meets_heavy {ts : Tabs} (g : GoodTabs ts) : ∀ n, meets ts n = true → ∃ t ∈ ts, t.1 ∈ reach ts n ∧ isListed t.2 = true := by
  induction g with
  | nil => intro n h; cases h
  | snoc g hn hx hc ih =>
    rename_i ts n0 cs
    intro n h
    unfold meets at h
    rw [meetMap_snoc] at h
    by_cases hm : n ∈ ts.map (·.1)
    · have hne : n0 ≠ n := fun e => hx (e ▸ hm)
      have h1 : meets ts n = true := by
        unfold meets
        cases e : (meetMap ts).lookup n with
        | none =>
          rw [lookup_app (m' := [(n0, meetOf (meetMap ts) cs)])] at h
          · rw [List.lookup_cons, show (n == n0) = false from beq_eq_false_iff_ne.mpr (Ne.symm hne)] at h
            cases h
          · intro hk
            obtain ⟨p, hp, rfl⟩ := List.mem_map.mp hk
            have : ∀ (m : List (Str × Bool)), p ∈ m → m.lookup p.1 ≠ none := fun m => by
              induction m with
              | nil => intro h; cases h
              | cons q r ih =>
                intro hq
                rw [List.lookup_cons]
                split
                · intro h; cases h
                · rename_i e
                  rcases List.mem_cons.1 hq with rfl | hq
                  · simp at e
                  · exact ih hq
            exact this _ hp e
        | some b =>
          rw [lookup_left e] at h
          exact h
      obtain ⟨t, ht, hr, hl⟩ := ih n h1
      refine ⟨t, List.mem_append.mpr (.inl ht), ?_, hl⟩
      unfold reach at hr ⊢
      rw [List.foldr_append, List.foldr_cons, List.foldr_nil, reachStep_out (by simpa using hne)]
      exact hr
    · rw [lookup_app (by rw [meetMap_keys]; exact hm), List.lookup_cons] at h
      split at h
      · rename_i e
        have e : n = n0 := beq_iff_eq.mp e
        subst e
        have h2 : meetOf (meetMap ts) cs = true := by simpa using h
        unfold meetOf at h2
        rw [Bool.or_eq_true] at h2
        rcases h2 with h2 | h2
        · exact ⟨(n, cs), by simp, foldr_keep _ (by simp), h2⟩
        · rw [List.any_eq_true] at h2
          obtain ⟨c, hc', h3⟩ := h2
          rw [Bool.and_eq_true] at h3
          obtain ⟨t, ht, hr, hl⟩ := ih c.target h3.2
          refine ⟨t, List.mem_append.mpr (.inl ht), ?_, hl⟩
          unfold reach at hr ⊢
          rw [List.foldr_append, List.foldr_cons, List.foldr_nil, reachStep_in (by simp)]
          refine foldr_sub (fun x hx => ?_) _ hr
          rw [List.mem_singleton.1 hx]
          exact List.mem_append.mpr (.inr (List.mem_map.mpr ⟨c, List.mem_filter.mpr ⟨hc', h3.1⟩, rfl⟩))
      · rw [List.lookup_nil] at h
        cases h
theorem heavy_of {ts : Tabs} (g : GoodTabs ts) {c : Col} (hl : c.isLink = true) (h : meets ts c.target = true) : isHeavy ts c = true := by
  obtain ⟨t, ht, hr, hls⟩ := meets_heavy g _ h
  unfold isHeavy
  rw [hl, Bool.true_and, List.any_eq_true]
  exact ⟨t, ht, by rw [decide_eq_true hr, hls]; rfl⟩
theorem all_one {α : Type} {l : List α} {f : α} (nd : l.Nodup) (hf : f ∈ l) (h : ∀ x ∈ l, x = f) : l = [f] := by
  cases l with
  | nil => cases hf
  | cons a r =>
    have ea := h a List.mem_cons_self
    subst ea
    cases r with
    | nil => rfl
    | cons b r =>
      have eb := h b (by simp)
      subst eb
      exact absurd (List.nodup_cons.mp nd).1 (by simp)
/-- what the rule of listed tables asks, of the columns that are left -/
theorem allowed_r6 {ts : Tabs} {cs : List Col} (g : GoodTabs ts) (pre : PreCols ts cs) : Rule6 ts (allowed ts cs) := by
  intro c hc hl hm hne
  have hv := heavy_of g hl hm
  have nd2 := pre.allowed.nd
  rcases allowed_eq ts cs with ⟨e, h1 | h1⟩ | ⟨f, hf, e⟩
  · rw [e] at hne
    exact absurd h1 hne
  · rw [e] at hc
    have : cs.any (isHeavy ts) = true := List.any_eq_true.mpr ⟨c, hc, hv⟩
    rw [h1] at this
    cases this
  · have hf' := List.mem_filter.mp hf
    have hfl : f.isLink = true := by
      cases ef : f.lst with
      | none => rw [ef] at hf'; cases hf'.2
      | some l => exact lst_link ef
    have look : ∀ c' ∈ allowed ts cs, c' = f ∨ c'.isLink = false ∨ (c'.lst = none ∧ isHeavy ts c' = false) := fun c' hc' => by
      rw [e] at hc'
      obtain ⟨c0, h0, es⟩ := List.mem_filterMap.mp hc'
      unfold allowStep at es
      split at es
      · rename_i ho
        cases es
        rcases ho with ho | ho
        · exact .inr (.inl ho)
        · exact .inl ho
      · rename_i ho
        split at es
        · cases es
        · rename_i hh
          cases es
          refine .inr (.inr ⟨bare_lst c0, ?_⟩)
          have e1 : isHeavy ts c0.bare = isHeavy ts c0 := by unfold isHeavy; rw [bare_link, bare_target]
          rw [e1]
          exact Bool.eq_false_iff.mpr hh
    have ecf : c = f := by
      rcases look c hc with h | h | ⟨_, h⟩
      · exact h
      · rw [hl] at h; cases h
      · rw [hv] at h; cases h
    subst ecf
    refine all_one ?_ (List.mem_filter.mpr ⟨hc, hf'.2⟩) fun x hx => ?_
    · exact List.Pairwise.filter _ ((List.pairwise_map.mp nd2).imp fun hn e => hn (congrArg Col.name e))
    · obtain ⟨hx1, hx2⟩ := List.mem_filter.mp hx
      rcases look x hx1 with h | h | ⟨h, _⟩
      · exact h
      · cases ex : x.lst with
        | none => rw [ex] at hx2; cases hx2
        | some l => rw [lst_link ex] at h; cases h
      · rw [h] at hx2; cases hx2
theorem IsName.ok {x : Str} (h : IsName x) : SOk x := SOk.low h.1.2.2
theorem GoodTabs.names {ts : Tabs} (g : GoodTabs ts) : ∀ t ∈ ts, IsName t.1 := by
  induction g with
  | nil => exact fun t h => absurd h List.not_mem_nil
  | snoc g hn hx hc ih =>
    intro t ht
    rcases List.mem_append.1 ht with h | h
    · exact ih t h
    · rw [List.mem_singleton.1 h]
      exact hn
theorem GoodTabs.cols {ts : Tabs} (g : GoodTabs ts) : ∀ t ∈ ts, t.2.length ≤ 6 := by
  induction g with
  | nil => exact fun t h => absurd h List.not_mem_nil
  | snoc g hn hx hc ih =>
    intro t ht
    rcases List.mem_append.1 ht with h | h
    · exact ih t h
    · rw [List.mem_singleton.1 h]
      exact hc.few
theorem GoodTabs.few {ts : Tabs} (g : GoodTabs ts) (h : ts.length ≤ 20) : Few ts := ⟨h, fun t ht => Nat.le_trans (g.cols t ht) (by omega)⟩
theorem PreCols.ok {ts : Tabs} {cs : List Col} (g : GoodTabs ts) (h : PreCols ts cs) : ∀ c ∈ cs, c.Ok := fun c hc => by
  have h1 := (h.nm c hc).ok
  cases c with
  | plain f n => exact h1
  | word n o => exact h1
  | link n t o l =>
    refine ⟨h1, ?_, fun x e => (h.ls _ hc x e).ok⟩
    have h2 : t ∈ ts.map (·.1) := h.tg _ hc rfl
    obtain ⟨t', ht', rfl⟩ := List.mem_map.mp h2
    exact (g.names t' ht').ok
/-- one more column -/
theorem PreCols.snoc {ts : Tabs} {cs : List Col} {c : Col} (h : PreCols ts cs) (hn : IsName c.name) (hx : c.name ∉ cs.map Col.name) (ht : c.isLink = true → c.target ∈ ts.map (·.1))
    (hl : ∀ l, c.lst = some l → IsName l ∧ some l ∉ namesTaken ts cs c.target) : PreCols ts (cs ++ [c]) := by
  refine ⟨fun c' hc' => ?_, ?_, fun c' hc' hk => ?_, fun c' hc' l e => ?_, ?_, fun c' hc' l e t ht' => ?_⟩
  · rcases List.mem_append.mp hc' with h1 | h1
    · exact h.nm c' h1
    · rw [List.mem_singleton.1 h1]; exact hn
  · rw [List.map_append, List.map_cons, List.map_nil]
    refine List.nodup_append.mpr ⟨h.nd, by simp, fun a ha b hb e => ?_⟩
    rw [List.mem_singleton.1 hb] at e
    exact hx (e ▸ ha)
  · rcases List.mem_append.mp hc' with h1 | h1
    · exact h.tg c' h1 hk
    · rw [List.mem_singleton.1 h1] at hk ⊢; exact ht hk
  · rcases List.mem_append.mp hc' with h1 | h1
    · exact h.ls c' h1 l e
    · rw [List.mem_singleton.1 h1] at e; exact (hl l e).1
  · refine List.pairwise_append.mpr ⟨h.fr, by simp, fun a ha b hb hk et l e1 e2 => ?_⟩
    rw [List.mem_singleton.1 hb] at et e1
    refine (hl l e1).2 (List.mem_append.mpr (.inr ?_))
    unfold linkLists
    exact List.mem_map.mpr ⟨a, List.mem_filter.mpr ⟨ha, by rw [hk, Bool.true_and]; exact decide_eq_true et⟩, e2⟩
  · rcases List.mem_append.mp hc' with h1 | h1
    · exact h.old c' h1 l e t ht'
    · rw [List.mem_singleton.1 h1] at e ⊢
      exact fun z => (hl l e).2 (List.mem_append.mpr (.inl (List.mem_flatMap.mpr ⟨t, ht', z⟩)))
theorem PreCols.nil (ts : Tabs) : PreCols ts [] := ⟨fun _ h => absurd h List.not_mem_nil, List.nodup_nil, fun _ h => absurd h List.not_mem_nil, fun _ h => absurd h List.not_mem_nil, List.Pairwise.nil, fun _ h => absurd h List.not_mem_nil⟩
/-! ### tables as data -/
def tData (t : Str × List Col) : PyData := .tuple [.str t.1, .list (t.2.map Col.data)]
theorem TabsV.dp {K : PySem.W.Frag} {H : Hp} {vs : List V} {ts : Tabs} (h : TabsV H vs ts) : DpAll K H vs (ts.map tData) := by
  induction h with
  | nil => exact .nil
  | cons h _ ih =>
    obtain ⟨a, p, rfl, ha, ⟨cvs, hp, hc⟩⟩ := h
    exact .cons (.tup (SqT.of ha) (.cons (.str _) (.cons (.lst (SqL.of hp) (ColsV.dp hc)) .nil))) ih
theorem GoodTabs.oks {ts : Tabs} (g : GoodTabs ts) : ∀ t ∈ ts, ∀ c ∈ t.2, c.Ok := by
  induction g with
  | nil => exact fun t h => absurd h List.not_mem_nil
  | snoc g hn hx hc ih =>
    intro t ht
    rcases List.mem_append.1 ht with h | h
    · exact ih t h
    · rw [List.mem_singleton.1 h]
      exact hc.toPreCols.ok g
theorem shapedL_tabs {ts : Tabs} (h1 : ∀ t ∈ ts, SOk t.1) (h2 : ∀ t ∈ ts, ∀ c ∈ t.2, c.Ok) : PyData.canLayAll0 (ts.map tData) = true ∧ PyData.depthAll (ts.map tData) ≤ 62 := by
  induction ts with
  | nil => exact ⟨rfl, by show 0 ≤ 62; omega⟩
  | cons t r ih =>
    obtain ⟨i1, i2⟩ := ih (fun t ht => h1 t (List.mem_cons_of_mem _ ht)) (fun t ht => h2 t (List.mem_cons_of_mem _ ht))
    have s1 : PyData.strOk t.1 = true := h1 t List.mem_cons_self
    have s2 := shapedL_cols (h2 t List.mem_cons_self)
    have d2 : ∀ cs : List Col, PyData.depthAll (cs.map Col.data) ≤ 2 := fun cs => by
      induction cs with
      | nil => show 0 ≤ 2; omega
      | cons c r ih =>
        have d1 : PyData.depth c.data ≤ 2 := by
          cases c with
          | plain f n => simp [Col.data, Col.ds, PyData.depth, PyData.depthAll]
          | word n o => simp [Col.data, Col.ds, PyData.depth, PyData.depthAll]
          | link n t o l => cases l <;> simp [Col.data, Col.ds, dOpt, PyData.depth, PyData.depthAll]
        rw [List.map_cons]
        simp only [PyData.depthAll]
        omega
    have d3 := d2 t.2
    unfold SeqAt.shaped at s2
    rw [Bool.and_eq_true] at s2
    refine ⟨?_, ?_⟩
    · rw [List.map_cons]
      unfold tData
      simp only [PyData.canLayAll0, PyData.canLay0, s1, Bool.true_and, Bool.and_true]
      rw [Bool.and_eq_true]
      exact ⟨by have := s2.1; simp only [PyData.canLay0] at this; exact this, i1⟩
    · rw [List.map_cons]
      unfold tData
      simp only [PyData.depthAll, PyData.depth]
      unfold tData at i2
      omega
theorem shaped_tabs {ts : Tabs} (g : GoodTabs ts) : SeqAt.shaped (.list (ts.map tData)) = true := by
  obtain ⟨h1, h2⟩ := shapedL_tabs (fun t ht => (g.names t ht).ok) g.oks
  unfold SeqAt.shaped
  rw [Bool.and_eq_true, decide_eq_true_eq]
  exact ⟨by simp only [PyData.canLay0]; exact h1, by simp only [PyData.depth]; omega⟩
theorem eqv_tnil (ts : Tabs) : PyData.eqv (.list (ts.map tData)) (.list []) = ts.isEmpty := by
  cases ts with
  | nil => simp [PyData.eqv, PyData.eqvAll]
  | cons c r => simp [PyData.eqv, PyData.eqvAll]
/-! ### promises of the two that draw -/
def spDrawColumns (K : PySem.W.Frag) : Sp := fun vs H Q _ => ∃ (b p : Addr) (ts : Tabs) (most : Int) (n : Nat), vs = [.ref b, .ref p, .int most] ∧ BagAt H b n ∧ n < 80000000 ∧ TabsR K (del b H) p ts ∧ GoodTabs ts ∧ ts.length ≤ 6 ∧ 0 ≤ most ∧ most ≤ 6 ∧
  ∀ (q : Addr) (H' : Hp) (cs : List Col), ColsAt (del b H') q cs → GoodCols ts cs → BagAt H' b (n + 200) → Ex (del b H) H' → Q (.ref q) H'
def spDrawTables (K : PySem.W.Frag) : Sp := fun vs H Q _ => ∃ (b : Addr) (least most : Int) (n : Nat), vs = [.ref b, .int least, .int most] ∧ BagAt H b n ∧ n < 70000000 ∧ 1 ≤ least ∧ least ≤ most ∧ most ≤ 6 ∧
  ∀ (q : Addr) (H' : Hp) (ts : Tabs), TabsAt (del b H') q ts → GoodTabs ts → least ≤ ts.length → (ts.length : Int) ≤ most → BagAt H' b (n + 2000) → Ex (del b H) H' → Q (.ref q) H'
end LP
namespace LP
open PySem L2
open Evl (Ex)
/-! ### values of any kind, and what isinstance says of them -/
def tyD : PyData → String
  | .none => "NoneType"
  | .bool _ => "bool"
  | .int _ => "int"
  | .str _ => "str"
  | .list _ => "list"
  | .tuple _ => "tuple"
  | .dict _ => "dict"
theorem dp_ty {K : PySem.W.Frag} {H : Hp} {v : V} {d : PyData} (h : Dp K H v d) : TyX K H v (.type (tyD d)) := by
  cases h with
  | non => exact .base .non
  | bl b => exact .base (.bl b)
  | int i => exact .base (.int i)
  | str x => exact .base (.str x)
  | lst hs _ =>
    rcases hs with (h | ⟨o, h⟩) | ⟨o, its, n, h1, h2, _⟩
    · exact .base (.lst h)
    · exact .base (.frz h)
    · exact .kList h1 h2
  | tup hs _ =>
    rcases hs with (h | ⟨o, h⟩) | ⟨o, its, n, h1, h2, _⟩
    · exact .base (.tup h)
    · exact .fTuple h
    · exact .kTuple h1 h2
mutual
theorem dp_ext {K : PySem.W.Frag} {H H' : Hp} (e : Ex H H') : ∀ {v : V} {d : PyData}, Dp K H v d → Dp K H' v d
  | _, _, .non => .non
  | _, _, .bl b => .bl b
  | _, _, .int i => .int i
  | _, _, .str x => .str x
  | _, _, .lst h r => .lst (Evl.ex_l e h) (dpAll_ext e r)
  | _, _, .tup h r => .tup (Evl.ex_t e h) (dpAll_ext e r)
theorem dpAll_ext {K : PySem.W.Frag} {H H' : Hp} (e : Ex H H') : ∀ {vs : List V} {ds : List PyData}, DpAll K H vs ds → DpAll K H' vs ds
  | _, _, .nil => .nil
  | _, _, .cons h r => .cons (dp_ext e h) (dpAll_ext e r)
end
def isStrD (d : PyData) : Bool := match d with
  | .str _ => true
  | _ => false
section
variable {K : PySem.W.Frag} {H : Hp} {Q : VK} {v : V}
theorem w_isi {c t : String} {r : Bool} (ty : TyX K H v (.type t)) (hk : kitB t c = some r) (q : Q (.bl r) H) : rIsi K [v, .ty c] H Q := ⟨v, .ty c, .type t, .type c, r, rfl, .ty c, ty, kit_ty hk, q⟩
theorem w_isStr {d : PyData} (h : Dp K H v d) (q : Q (.bl (isStrD d)) H) : rIsi K [v, .ty "str"] H Q := by
  refine w_isi (dp_ty h) ?_ q
  cases d with
  | none => show kitB "NoneType" "str" = some false; decide +kernel
  | bool b => show kitB "bool" "str" = some false; decide +kernel
  | int i => show kitB "int" "str" = some false; decide +kernel
  | str x => show kitB "str" "str" = some true; decide +kernel
  | list l => show kitB "list" "str" = some false; decide +kernel
  | tuple l => show kitB "tuple" "str" = some false; decide +kernel
  | dict l => show kitB "dict" "str" = some false; decide +kernel
end
/-! ### letters -/
theorem letter_facts : ∀ c, c < 128 → Unicode.isAlpha c = (decide (65 ≤ c ∧ c ≤ 90) || decide (97 ≤ c ∧ c ≤ 122)) ∧ Unicode.isLower c = decide (97 ≤ c ∧ c ≤ 122) ∧ (Unicode.isUpper c || Unicode.isTitle c) = decide (65 ≤ c ∧ c ≤ 90) := by decide +kernel
def lettersB (w : Str) : Bool := Txt.isascii w && (Txt.isalpha w && Txt.islower w)
theorem lettersB_iff (w : Str) : lettersB w = true ↔ 1 ≤ w.length ∧ Low w := by
  unfold lettersB Txt.isascii Txt.isalpha Txt.islower Low
  simp only [Bool.and_eq_true, ← Array.all_toList, ← Array.any_toList, List.all_eq_true, List.any_eq_true, decide_eq_true_eq, Bool.not_eq_true']
  constructor
  · rintro ⟨h1, ⟨h2, h3⟩, h4, h5⟩
    refine ⟨by omega, fun c hc => ?_⟩
    have f := letter_facts c (h1 c hc)
    have a := h3 c hc
    rw [f.1, Bool.or_eq_true, decide_eq_true_eq, decide_eq_true_eq] at a
    rcases a with a | a
    · have b := List.any_eq_false.mp h5 c hc
      rw [f.2.2] at b
      exact absurd (decide_eq_true a) b
    · exact a
  · rintro ⟨h1, h2⟩
    have lt : ∀ c ∈ w.cps.toList, c < 128 := fun c hc => by have := h2 c hc; omega
    refine ⟨lt, ⟨by omega, fun c hc => ?_⟩, ?_, List.any_eq_false.mpr fun c hc => ?_⟩
    · rw [(letter_facts c (lt c hc)).1, Bool.or_eq_true, decide_eq_true_eq, decide_eq_true_eq]
      exact .inr (h2 c hc)
    · rw [len_tl] at h1
      cases e : w.cps.toList with
      | nil => rw [e] at h1; exact absurd h1 (by decide)
      | cons c r =>
        have hc : c ∈ w.cps.toList := by rw [e]; exact List.mem_cons_self
        exact ⟨c, List.mem_cons_self, by rw [(letter_facts c (lt c hc)).2.1]; exact decide_eq_true (h2 c hc)⟩
    · rw [(letter_facts c (lt c hc)).2.2]
      have := h2 c hc
      simp only [decide_eq_true_eq]
      omega
def wordB (w : Str) : Bool := lettersB w && decide (w.length ≤ 8)
theorem wordB_iff (w : Str) : wordB w = true ↔ IsWord w := by
  unfold wordB IsWord
  rw [Bool.and_eq_true, lettersB_iff, decide_eq_true_eq]
  constructor
  · rintro ⟨⟨h1, h2⟩, h3⟩; exact ⟨h1, h3, h2⟩
  · rintro ⟨h1, h2, h3⟩; exact ⟨⟨h1, h3⟩, h2⟩
def nameB (w : Str) : Bool := wordB w && !decide (w ∈ reservedL)
theorem nameB_iff (w : Str) : nameB w = true ↔ IsName w := by
  unfold nameB IsName
  rw [Bool.and_eq_true, wordB_iff, Bool.not_eq_true', decide_eq_false_iff_not]
def strD (f : Str → Bool) : PyData → Bool
  | .str w => f w
  | _ => false
/-! ### dicts with text keys -/
section
variable {K : PySem.W.Frag} {σ : L2.St} {H : Hp} {Q : VK} {v : V} {ta tb tc : TE} {D : Ends} {a : Addr} {kvs : List (Key × V)} {k : Str}
theorem w_dget (h : ta σ H fun x H1 => tb σ H1 fun y H2 => ∃ a v, x = .ref a ∧ DGet H2 a y (some v) ∧ Q v H2) : tDGet ta tb σ H Q := h
theorem w_din (h : ta σ H fun y H1 => tb σ H1 fun x H2 => ∃ a o, x = .ref a ∧ DGet H2 a y o ∧ Q (.bl o.isSome) H2) : tDIn ta tb σ H Q := h
theorem w_kGet (h : H a = some (.dK kvs)) (e : valV kvs (Sum.inr k : Key) = some v) (q : Q v H) : ∃ a' v', V.ref a = .ref a' ∧ DGet H a' (.str k) (some v') ∧ Q v' H := ⟨a, v, rfl, e ▸ DGet.k (k := Sum.inr k) h, q⟩
theorem w_kIn (h : H a = some (.dK kvs)) (q : Q (.bl (valV kvs (Sum.inr k : Key)).isSome) H) : ∃ a' o, V.ref a = .ref a' ∧ DGet H a' (.str k) o ∧ Q (.bl o.isSome) H := ⟨a, _, rfl, DGet.k (k := Sum.inr k) h, q⟩
theorem w_dput (h : tc σ H fun v H1 => ta σ H1 fun x H2 => tb σ H2 fun y H3 => ∃ a H4, x = .ref a ∧ DPut H3 a y v H4 ∧ D.nx σ H4) : sDPut ta tb tc D σ H := h
theorem w_kPut {q : Hp → Prop} (h : H a = some (.dK kvs)) (l : kvs.length < sizeLine) (hq : q (upd H a (.dK (putK kvs (Sum.inr k : Key) v)))) : ∃ a' H4, V.ref a = .ref a' ∧ DPut H a' (.str k) v H4 ∧ q H4 := ⟨a, _, rfl, DPut.k (k := Sum.inr k) h l, hq⟩
end
end LP
namespace PySem
open Sem (wp)
set_option maxHeartbeats 1300000 in
theorem meets_enum_one {v : Value} {o : Obj} {H : Heap → Prop} (B : Begins v o H) :
    Meets (Builtin.«enumerate.__new__» ⟨[.type "enumerate", v], []⟩) (fun _ R s => H s.heap ∧
      R (.ok (.ret (.ref (s.heap.push o).objs.size))) { s with heap := (s.heap.push o).push { cls := .type "enumerate", data := .fields #[.none, .bool false, .ref s.heap.objs.size, rawInt 0, .none, .none] } }) :=
  .of_wp fun prog w A R st h => by
    obtain ⟨hp, g, d, tk, os⟩ := st; obtain ⟨h1, h⟩ := h
    have hsub := sub_enumerate
    have q1 : ∀ {A' : Around}
            {E : Value → Shared → Prop} {Q : Value → Shared → Prop}, Q (.ref hp.objs.size) ⟨hp.push o, g, d, tk, os⟩ → wpAny (model prog w) A' (pyIter v) Q E ⟨hp, g, d, tk, os⟩ :=
      fun q => B.iter prog w _ _ ⟨hp,
              g, d, tk, os⟩ _ h1 q
    wp_walk using q1
    refine wpAny_stack_any fun st0 => wpAny_pure ?_
    split
    · rename_i c _ _ _ _ _
      cases (c ==
              Value.type "enumerate")
      · wp_walk using q1
        exact ⟨_, rfl, h⟩
      · wp_walk using q1
        exact ⟨_, rfl, h⟩
    · wp_walk using q1
      exact ⟨_, rfl, h⟩
section
variable {prog : Program}
        {w : World} {A : Around} {E : Value → Shared → Prop} {s : Shared}
theorem call_enum_tuple {l : Addr} {items : Array Value} {Q : Value → Shared → Prop} (hL : s.heap.IsTuple l items)
    (h : ∀ h', IsEnum h' (s.heap.objs.size + 1) s.heap.objs.size 0 .none → h'.IsTupleIter s.heap.objs.size l 0 → h'.objs.size = s.heap.objs.size + 2 →
      (∀ b o,
              s.heap.get? b = some o → h'.get? b = some o) → Q (.ref (s.heap.objs.size + 1)) { s with heap := h' }) :
    wpAny (model prog w) A (call (.type "enumerate") [Value.ref l]) Q E s := by
  refine callType_new F.called_enumerate (by decide) (F.typeCall_enumerate_1 _) (F.newCall_enumerate_1 _)
    (fun obj => F.args_object_init_2 obj _) F.entry_enumerate_new (meets_enum_one (begins_tuple l items)) ⟨hL, ?_⟩
  have hz : (s.heap.push { cls := .type "tuple_iterator", data := .fields #[.ref l, .int 0 0] }).objs.size = s.heap.objs.size + 1 := Heap.size_push ..
  show _ ∧ _
  rw [hz]
  have he : IsEnum ((s.heap.push { cls := .type "tuple_iterator", data := .fields #[.ref l, .int 0 0] }).push
      { cls :=
              .type "enumerate", data := .fields #[.none, .bool false, .ref s.heap.objs.size, rawInt 0, .none, .none] }) (s.heap.objs.size + 1) s.heap.objs.size 0 .none := by
    have := Heap.get?_push_size (s.heap.push { cls := .type "tuple_iterator", data := .fields #[.ref l, .int 0 0] })
      (o := { cls :=
              .type "enumerate", data := .fields #[.none, .bool false, .ref s.heap.objs.size, rawInt 0, .none, .none] }) rfl
    rw [hz] at this; exact this
  refine ⟨⟨_,
          he, rfl⟩, h _ he ⟨_, Heap.get?_push_of_some _ (Heap.get?_push_size _ rfl), rfl, rfl⟩ (by rw [Heap.size_push, hz]) fun b o x => Heap.get?_push_of_some _ (Heap.get?_push_of_some _ x)⟩
end
end PySem
namespace LP
open PySem L2
/-- the tuple at a, each item in a new pair -/
def Iteu (K : PySem.W.Frag) (a : Addr) : It :=
  ⟨fun i H => ∃ (xs : List V) (x : V), SqT K H a xs ∧ xs[i]? = some x, fun i H v H' => ∃ T x, v = .ref T ∧ H T = none ∧ H' = upd H T (.tup [.int (i : Nat), x]) ∧ ∀ xs, SqT K H a xs → xs[i]? = some x, fun i H => ∃ xs : List V, SqT K H a xs ∧ xs.length = i⟩
theorem turn_enumT {P : Program} {w : World} {K : PySem.W.Frag} {elts : List Expr} {kk : Nat} {tpos : Pos} (a e it : Addr) :
    Turn P w K (.Tuple elts kk tpos) (Iteu K a) [e, it] e (fun i h => (∃ old, IsEnum h e it ((i : Nat) : Int) old) ∧ h.IsTupleIter it a i ∧ e ≠ it ∧ a ≠ it ∧ e ≠ a) where
  mem := by simp
  obj := fun i h st b hb => by
    obtain ⟨⟨old,
            he⟩, ⟨o, ho, hc, hd⟩, _⟩ := st
    have e' : b =
            e ∨ b = it := by simpa using hb
    rcases e' with z | z
    · rw [z]
      exact ⟨_, he, fun v q => nomatch q⟩
    · rw [z]
      exact ⟨o, ho, fun v q => by rw [hd] at q; cases q⟩
  keep := fun i h h' st k => let ⟨⟨old,
          he⟩, hi, hne⟩ := st; ⟨⟨old, k e (by simp) _ he⟩, hi.at fun o q => k it (by simp) o q, hne⟩
  item := by
    intro X hP hw hK hc i pins s σ H E I hf st hg; subst hP hw hK
    obtain ⟨⟨old, he⟩, hit, hne, hai, hea⟩ := st
    obtain ⟨xs, x, hq, hx⟩ := hg
    obtain ⟨its,
            rv, p, hz⟩ := I.tuple hq
    obtain ⟨u,
            hu, ru⟩ := rv.get hx
    have hel : e <
            s.heap.objs.size := Heap.lt_size he
    have hil : it <
            s.heap.objs.size := by obtain ⟨_, q, _⟩ := hit; exact Heap.lt_size q
    have pt : s.heap.IsTuple a its.toArray := p
    have hhd : X.A.in1.handled = none := I.ok.hd hc
    have hlt : i < its.toArray.size := by
      have := (List.getElem?_eq_some_iff.mp hu).1
      simpa using this
    refine wpAny_pyNext_enum_itemD (Draws.tuple hhd it a hai its.toArray) he ⟨hit, pt⟩ hlt hne (by simp [hne, hea]) fun y h' tk hy ho hst hT hsz hk => ?_
    have ey : y = u := by
      have q : its.toArray[i]? = some y := hy
      have q2 : its.toArray[i]? = some u := by simpa using hu
      exact Option.some.inj (q.symm.trans q2)
    subst ey
    refine ⟨_, rfl, wpAny_letOwnedTupleGo_enum (s := { s with heap := h', toks := tk + 1 }) ho fun h'' he' sb => ?_⟩
    have hT2 : h''.get? s.heap.objs.size = some { cls := .type "tuple", data := .seq #[.int i tk, y] } := (sb.2 _ (Nat.ne_of_gt hel)).trans hT
    have new : ObjOk X.prog X.w
            (upd H s.heap.objs.size (.tup [.int (i : Nat), x])) h'' s.heap.objs.size (.tup [.int (i : Nat), x]) :=
      ⟨by show 2 ≤ sizeLine; decide, [.int i tk, y], .cons ⟨_, rfl⟩ (.cons ru .nil), ⟨_, hT2, rfl, _, rfl⟩⟩
    have I1 : Inv X pins σ (upd H s.heap.objs.size (.tup [.int (i : Nat), x])) { s with heap := h'', toks := tk + 1 } :=
      I.turnedNew
              (ch := [e, it]) (fun b ob hb q => (sb.2 b (fun z => hb (by simp [z]))).trans (hk b ob (fun z => hb (by simp [z])) (fun z => hb (by simp [z])) q)) hf (Nat.le_refl _) new
    refine ⟨.ref s.heap.objs.size, _, I1, rfl, ⟨_, x, rfl, I.hok.fresh (Nat.le_refl _), rfl, fun ys hy => by rw [I.tuple_inj hy hq]; exact hx⟩, ⟨⟨y, ?_⟩, hst.1.at fun o q => (sb.2 it (Ne.symm hne)).trans q, hne, hai, hea⟩, fun b hb => ?_⟩
    · have e1 :
            ((i + 1 : Nat) : Int) = (i : Int) + 1 := by omega
      rw [e1]; exact he'
    · have hb' : b <
            s.heap.objs.size := by
        have e' : b =
                e ∨ b = it := by simpa using hb
        rcases e' with z | z
        · rw [z]; exact hel
        · rw [z]; exact hil
      rw [upd_ne
              (Nat.ne_of_lt hb')]
      exact (hf b hb).1
  done := by
    intro X hP hw hK hc i pins s σ H E I hf st hg; subst hP hw hK
    obtain ⟨⟨old, he⟩, hit, hne, hai, hea⟩ := st
    obtain ⟨xs, hq, hx⟩ := hg
    obtain ⟨its,
            rv, p, hz⟩ := I.tuple hq
    obtain ⟨f0,
            f1, f2, f3, f4, f5⟩ := hf it (by simp)
    have hl := rv.length
    have pt : s.heap.IsTuple a its.toArray := p
    have hhd : X.A.in1.handled = none := I.ok.hd hc
    have hn : its.toArray.size = i := by simp; omega
    have hst : s.heap.IsTupleIter it a its.toArray.size ∧ s.heap.IsTuple a its.toArray := by rw [hn]; exact ⟨hit, pt⟩
    refine wpAny_pyNext_enum_endD (Draws.tuple hhd it a hai its.toArray) he hst fun h' eb => ⟨rfl, I.turned (t' := s.toks) (fun b o hb q => eb b o hb q) f0 f1 f3 f4 f5⟩
  self := fun A i s Q E st h => let ⟨⟨_,
          he⟩, _⟩ := st; wpAny_pyIter_enum he h
def kEnumT (K : PySem.W.Frag) (vs : List V) (H1 : Hp) (R : It → Hp → Prop) : Prop := ∃ a xs, vs = [.ref a] ∧ SqT K H1 a xs ∧ R (Iteu K a) H1
def iEnumT (K : PySem.W.Frag) (ta : TA) : TI := fun σ H R => ta σ H fun vs H1 => kEnumT K vs H1 R
theorem pi_enumT {X : Cx} {e : Expr} {ta : TA} {p pos tpos : Pos} {elts : List Expr} {kk : Nat} (hg : Gl X "enumerate") (hm : X.mg "enumerate" = none) (ha : PA X [e] ta) (hs : starEach [e] X.env = [(false, eval e X.env)] := by rfl) :
    PI X (.Tuple elts kk tpos) (.Call (.Name "enumerate" p) [e] [] pos) (iEnumT X.K ta) := by
  refine ⟨fun pins s σ H R I h => ?_⟩; refine PyProof.Rows.Call_ (ld_blt I hg hm PyProof.Rows.boot_enumerate (PyProof.Rows.callWith_type1 (thn (ha.run pos pins s σ H _ I h) fun us s1 ⟨vs, H1, I1, r1, q1⟩ => ?_) hs rfl))
  obtain ⟨a,
          xs, ex, hq, q⟩ := q1
  subst ex
  cases r1 with
  | cons r rr =>
    cases rr
    cases r
    obtain ⟨its, rv, p', hz⟩ := I1.tuple hq
    have pt : s1.heap.IsTuple a its.toArray := p'
    have hal : a < s1.heap.objs.size := by obtain ⟨_, q, _⟩ := pt; exact Heap.lt_size q
    refine call_enum_tuple pt fun h' he hit hsz hk => wpAny_pyIter_enum he ?_
    have I2 : Inv X pins σ H1 { s1 with heap :=
            h' } := I1.kept (t' := s1.toks) hk
    refine ⟨s1.heap.objs.size + 1, [s1.heap.objs.size + 1, s1.heap.objs.size], _, _, H1, rfl, I2, turn_enumT a (s1.heap.objs.size + 1) s1.heap.objs.size, ⟨⟨.none, he⟩, hit, Nat.succ_ne_self _, Nat.ne_of_lt hal, Nat.ne_of_gt (Nat.lt_succ_of_lt hal)⟩, fun b hb => ?_, q⟩
    have e' : b =
            s1.heap.objs.size + 1 ∨ b = s1.heap.objs.size := by simpa using hb
    have hle : s1.heap.objs.size ≤
            b := by
      rcases e' with z | z
      · rw [z]
        exact Nat.le_add_right _ _
      · rw [z]; exact Nat.le_refl _
    exact Inv.fpOk I1 hle (I1.hok.fresh hle)
section
variable {X : Cx} {K : PySem.W.Frag} {e : Expr} {ta : TA} {p pos tpos : Pos} {elts : List Expr} {kk : Nat}
theorem pi_enumTK (hK : X.K = K) (hg : Gl X "enumerate") (hm : X.mg "enumerate" = none) (ha : PA X [e] ta) (hs : starEach [e] X.env = [(false, eval e X.env)] := by rfl) :
    PI X (.Tuple elts kk tpos) (.Call (.Name "enumerate" p) [e] [] pos) (iEnumT K ta) := hK ▸ pi_enumT hg hm ha hs
theorem pi_enumK (hK : X.K = K) (hg : Gl X "enumerate") (hm : X.mg "enumerate" = none) (ha : PA X [e] ta) (hs : starEach [e] X.env = [(false, eval e X.env)] := by rfl) :
    PI X (.Tuple elts kk tpos) (.Call (.Name "enumerate" p) [e] [] pos) (iEnum K ta) := hK ▸ pi_enum hg hm ha hs
end
section
variable {K : PySem.W.Frag} {a : Addr} {xs : List V} {g : TG} {tb : TS} {D : Ends} {σ : L2.St} {H H1 : Hp}
def kEnum (K : PySem.W.Frag) (vs : List V) (H1 : Hp) (R : It → Hp → Prop) : Prop := ∃ a xs, vs = [.ref a] ∧ SqL K H1 a xs ∧ R (Ite K a) H1
theorem w_iEnum {ta : TA} {R : It → Hp → Prop} (h : ta σ H fun vs H1 => kEnum K vs H1 R) : iEnum K ta σ H R := h
theorem w_kEnum {R : It → Hp → Prop} (h : SqL K H a xs) (q : R (Ite K a) H) : kEnum K [V.ref a] H R := ⟨a, xs, rfl, h, q⟩
theorem w_iEnumT {ta : TA} {R : It → Hp → Prop} (h : ta σ H fun vs H1 => kEnumT K vs H1 R) : iEnumT K ta σ H R := h
theorem w_kEnumT {R : It → Hp → Prop} (h : SqT K H a xs) (q : R (Iteu K a) H) : kEnumT K [V.ref a] H R := ⟨a, xs, rfl, h, q⟩
/-- a for over enumerate(list): the pair at T is new -/
theorem loopE (Pv : List V → List V → L2.St → Hp → Prop) (h0 : Pv [] xs σ H) (hl : ∀ d r σ H, d ++ r = xs → Pv d r σ H → SqL K H a xs)
    (hs : ∀ d y r σ H T, d ++ y :: r = xs → H T = none → Pv d (y :: r) σ H → g (.ref T) σ (upd H T (.tup [.int (d.length : Nat), y])) fun σ2 H2 => tb { D with nx := Pv (d ++ [y]) r, ct := Pv (d ++ [y]) r, bk := D.nx } σ2 H2) (hd : ∀ σ H, Pv xs [] σ H → D.nx σ H) :
    ∃ W : Nat →
            Nat → L2.St → Hp → Prop, (∃ m, W 0 m σ H) ∧ ∀ i m σ H, W i m σ H →
      ((Ite K a).stop i H ∧ D.nx σ H) ∨ ((Ite K a).go i H ∧ ∃ N : L2.St → Hp → Prop, (∀ σ' H', N σ' H' → ∃ m', m' < m ∧ W (i + 1) m' σ' H') ∧ ∀ x H', (Ite K a).yld i H x H' → g x σ H' fun σ2 H2 => tb { D with nx := N, ct := N, bk := D.nx } σ2 H2) := by
  refine ⟨fun i m σ H => m = xs.length - i ∧ i ≤ xs.length ∧ Pv (xs.take i) (xs.drop i) σ H, ⟨xs.length, by simp, Nat.zero_le _, by simpa using h0⟩, ?_⟩
  rintro i m σ H ⟨rfl, hi, p⟩
  have q := hl _ _ σ H (List.take_append_drop i xs) p
  by_cases hlt : i < xs.length
  · have hx : xs[i]? = some xs[i] := by simp [hlt]
    refine .inr ⟨⟨xs, xs[i], q, hx⟩, fun σ H => Pv (xs.take (i + 1)) (xs.drop (i + 1)) σ H, fun σ' H' p' => ⟨xs.length - (i + 1), by omega, rfl, hlt, p'⟩, fun x H' y => ?_⟩
    obtain ⟨T, x, rfl, hT, rfl, y⟩ := y
    have ex : x = xs[i] := by
      have z := y xs q
      rw [hx] at z
      exact (Option.some.inj z).symm
    have e1 : xs.drop i = x :: xs.drop (i + 1) := by
      rw [List.drop_eq_getElem_cons hlt, ex]
    have e2 : xs.take (i + 1) = xs.take i ++ [x] := by
      rw [List.take_succ, hx, ex]
      rfl
    have z := hs (xs.take i) x (xs.drop (i + 1)) σ H T (by rw [← e1]; exact List.take_append_drop i xs) hT (by rw [← e1]; exact p)
    rw [← e2, List.length_take, Nat.min_eq_left (Nat.le_of_lt hlt)] at z
    exact z
  · refine .inl ⟨⟨xs, q, by omega⟩, hd σ H ?_⟩
    have : i = xs.length := by omega
    rw [this, List.take_length, List.drop_length] at p
    exact p
/-- a for over enumerate(tuple): the pair at T is new -/
theorem loopET (Pv : List V → List V → L2.St → Hp → Prop) (h0 : Pv [] xs σ H) (hl : ∀ d r σ H, d ++ r = xs → Pv d r σ H → SqT K H a xs)
    (hs : ∀ d y r σ H T, d ++ y :: r = xs → H T = none → Pv d (y :: r) σ H → g (.ref T) σ (upd H T (.tup [.int (d.length : Nat), y])) fun σ2 H2 => tb { D with nx := Pv (d ++ [y]) r, ct := Pv (d ++ [y]) r, bk := D.nx } σ2 H2) (hd : ∀ σ H, Pv xs [] σ H → D.nx σ H) :
    ∃ W : Nat →
            Nat → L2.St → Hp → Prop, (∃ m, W 0 m σ H) ∧ ∀ i m σ H, W i m σ H →
      ((Iteu K a).stop i H ∧ D.nx σ H) ∨ ((Iteu K a).go i H ∧ ∃ N : L2.St → Hp → Prop, (∀ σ' H', N σ' H' → ∃ m', m' < m ∧ W (i + 1) m' σ' H') ∧ ∀ x H', (Iteu K a).yld i H x H' → g x σ H' fun σ2 H2 => tb { D with nx := N, ct := N, bk := D.nx } σ2 H2) := by
  refine ⟨fun i m σ H => m = xs.length - i ∧ i ≤ xs.length ∧ Pv (xs.take i) (xs.drop i) σ H, ⟨xs.length, by simp, Nat.zero_le _, by simpa using h0⟩, ?_⟩
  rintro i m σ H ⟨rfl, hi, p⟩
  have q := hl _ _ σ H (List.take_append_drop i xs) p
  by_cases hlt : i < xs.length
  · have hx : xs[i]? = some xs[i] := by simp [hlt]
    refine .inr ⟨⟨xs, xs[i], q, hx⟩, fun σ H => Pv (xs.take (i + 1)) (xs.drop (i + 1)) σ H, fun σ' H' p' => ⟨xs.length - (i + 1), by omega, rfl, hlt, p'⟩, fun x H' y => ?_⟩
    obtain ⟨T, x, rfl, hT, rfl, y⟩ := y
    have ex : x = xs[i] := by
      have z := y xs q
      rw [hx] at z
      exact (Option.some.inj z).symm
    have e1 : xs.drop i = x :: xs.drop (i + 1) := by
      rw [List.drop_eq_getElem_cons hlt, ex]
    have e2 : xs.take (i + 1) = xs.take i ++ [x] := by
      rw [List.take_succ, hx, ex]
      rfl
    have z := hs (xs.take i) x (xs.drop (i + 1)) σ H T (by rw [← e1]; exact List.take_append_drop i xs) hT (by rw [← e1]; exact p)
    rw [← e2, List.length_take, Nat.min_eq_left (Nat.le_of_lt hlt)] at z
    exact z
  · refine .inl ⟨⟨xs, q, by omega⟩, hd σ H ?_⟩
    have : i = xs.length := by omega
    rw [this, List.take_length, List.drop_length] at p
    exact p
end
section
variable {K : PySem.W.Frag} {σ : L2.St} {H : Hp} {Q : VK} {v : V} {ta tb tc : TE} {D : Ends} {a C dx : Addr} {kvs : List (Key × V)} {k : Str} {fs : List (Str × V)} {f m : Str} {t : TA} {sp : Sp} {dvs : List V} {E : XK}
theorem w_fldT (h : ta σ H fun x H1 => ∃ a C dx fs v, x = .ref a ∧ H1 a = some (.ins C dx fs) ∧ Cls K C ∧ NoAttr K C f ∧ fs.lookup f = some v ∧ Q v H1) : tFld K ta f σ H Q := h
theorem w_kFld {z : V → Prop} (e : H a = some (.ins C dx fs)) (c : Cls K C) (n : NoAttr K C f) (l : fs.lookup f = some v) (q : z v) : ∃ a' C dx fs v, V.ref a = .ref a' ∧ H a' = some (.ins C dx fs) ∧ Cls K C ∧ NoAttr K C f ∧ fs.lookup f = some v ∧ z v := ⟨a, C, dx, fs, v, rfl, e, c, n, l, q⟩
theorem w_dnotin (h : ta σ H fun y H1 => tb σ H1 fun x H2 => ∃ a o, x = .ref a ∧ DGet H2 a y o ∧ Q (.bl (!o.isSome)) H2) : tDNotIn ta tb σ H Q := h
theorem w_kNin {z : V → Prop} (h : H a = some (.dK kvs)) (q : z (.bl (!(valV kvs (Sum.inr k : Key)).isSome))) : ∃ a' o, V.ref a = .ref a' ∧ DGet H a' (.str k) o ∧ z (.bl (!o.isSome)) := ⟨a, _, rfl, DGet.k (k := Sum.inr k) h, q⟩
theorem w_kG {z : V → Prop} (h : H a = some (.dK kvs)) (e : valV kvs (Sum.inr k : Key) = some v) (q : z v) : ∃ a' v', V.ref a = .ref a' ∧ DGet H a' (.str k) (some v') ∧ z v' := ⟨a, v, rfl, e ▸ DGet.k (k := Sum.inr k) h, q⟩
theorem w_rU {g : Int → V} {i : Int} (q : Q (g i) H) : rU g (.int i) H Q := ⟨i, rfl, q⟩
theorem w_neg (h : ta σ H fun x H1 => rU (fun i => .int (-i)) x H1 Q) : tUn (rU fun i => .int (-i)) ta σ H Q := h
theorem w_methT (h : ta σ H fun x H1 => ∃ a dx fs, x = .ref a ∧ H1 a = some (.ins C dx fs) ∧ fs.lookup m = none ∧ t σ H1 fun vs H2 => sp (x :: (vs ++ dvs)) H2 Q E) : tMeth C m sp dvs E ta t σ H Q := h
theorem w_kMeth {z : Prop} (e : H a = some (.ins C dx fs)) (l : fs.lookup m = none) (q : z) : ∃ a' dx fs, V.ref a = .ref a' ∧ H a' = some (.ins C dx fs) ∧ fs.lookup m = none ∧ z := ⟨a, dx, fs, rfl, e, l, q⟩
end
section
variable {X : Cx} {K : PySem.W.Frag} {A : Around} {j : Nat}
theorem op_inDK (hK : X.K = K) (hu : X.A.units + 65 < cLine) : OpR X (compareOp .In) (rInD K) := hK ▸ op_inD hu
theorem hu65 (hr : Room j A) : A.units + 65 < cLine := by have := hr.un; omega
end
end LP
namespace LP
open PySem L2
/-! ### an instance of an own class beside ==, !=, in len and str -/
section
variable {M : Model} {prog : Program} {w : World} {A : Around} {E : Value → Shared → Prop} {s : Shared} {K : PySem.W.Frag} {x C f : Addr} {ox : Obj} {od : Option Obj}
/-- a special name that a builtin stands for -/
theorem bound_blt {name : Str} {id : String} {us : List Value} {Q : Option Value → Shared → Prop} (X : K.In s.heap) (I : PySem.W.InstAt s.heap x ox C od) (hs : PySem.W.findIn K (.ref C) name = some (some (.builtin id)))
    (hb : ∀ self, bindSpecial (.builtin id) self = pure (.builtin id, [self])) (h : wpAny M A (call (.builtin id) (.ref x :: us)) (fun v => Q (some v)) E s) : wpAny M A (callSpecialIfBound? (.ref x) name us) Q E s := by
  unfold callSpecialIfBound? bindSpecialIfBound?
  have look := PySem.W.looks_findIn (M := M) X hs
  have done : wpAny M A (call (.builtin id) ([.ref x] ++ us) >>= fun v => pure (some v)) Q E s := wpAny_bind (wpAny_mono h (fun _ _ q => wpAny_pure q) fun _ _ q => q)
  have bnd : PySem.W.Looks M s.heap (bindSpecial (.builtin id) (.ref x)) (.builtin id, [.ref x]) := PySem.W.Looks.of_pure (hb _)
  refine wpAny_holding (wpAny_bind (wpAny_bind (wpAny_bind (I.type.here (look.here ?_)))))
  refine wpAny_bind
          (wpAny_askSetting (wpAny_ite ?_))
  split
  · exact wpAny_bind (bnd.here (wpAny_pure done))
  · exact wpAny_tryCatch (wpAny_bind (bnd.here (wpAny_pure done)))
/-- what is wanted of a truth value, turned about -/
def Turned (Q : Value → Shared → Prop) (v : Value) (s' : Shared) : Prop := ∃ b : Bool, v = .bool b ∧ Q (.bool (!b)) s'
theorem ne_call {b : Value} {Q : Value → Shared → Prop} (hu : A.in1.units < cLine) (X : K.In s.heap) (I : PySem.W.InstAt s.heap x ox C od) (hm : PySem.W.mroIn K C (.type "object") = some true) (he : PySem.W.findIn K (.ref C) "__eq__" = some (some (.ref f)))
    (hf : PySem.W.isFn K (.ref f) = true) (h : wpAny (model prog w) A.in1 (call (.ref f) [.ref x, b]) (Turned Q) E s) : wpAny (model prog w) A (call (.builtin "object.__ne__") [.ref x, b]) Q E s := by
  refine wpAny_call (codeAny_call_builtin F.cmp_object.ne.plain F.cmpEntry_ne (PySem.W.check_slot (owner := "object") (n := "__ne__") (by decide +kernel) (by decide +kernel) (I.type.andThen (PySem.W.looks_mroIn X hm)) (F.cmpArgs_ne _ _) ?_))
  unfold Builtin.«object.__ne__»; refine wpAny_bind (wpAny_pure ?_)
  refine wpAny_bind
          (m := cRoomFor _ _) (wpAny_cRoomFor hu ?_)
  refine wpAny_bind (m := callSpecialIfBound? (.ref x) (Str.ofString "__eq__") [b]) (PySem.W.ifBound_K X I he hf (wpAny_mono h (fun r s' q => ?_) fun _ _ q => q))
  obtain ⟨k, rfl, q⟩ := q
  exact wpAny_bind (wpAny_truthy_bool (wpAny_pure q))
end
/-! ### promises run below a builtin -/
section
variable {X : Cx} {CX : CXT} {k : Nat} {C g : Addr} {sp : Sp} {E : XK} {fd : FuncData} {ps : List Str} {pins : List (Addr × Obj)} {σ : L2.St} {H : Hp} {s : Shared} {us : List Value} {vs : List V} {Q : VK} {A : Around}
/-- a def is called somewhere below the running body -/
theorem run_in (sb : L2.Sub X k A) (F : FnOk X.prog X.w X.K X.mg X.base CX k g fd ps sp) (hb : Binds X.K fd ps []) (hx : Passes CX X E) (I : Inv X pins σ H s) (r : Vals vs us) (h : sp vs H Q E) : wpAny (model X.prog X.w) A (call (.ref g) us) (EP X pins σ Q) X.xe s := by
  have fr : A.frames = X.A.frames := sb.fr
  have env : Env0 X.prog X.w X.K X.mg X.base A X.stack s H := by
    obtain ⟨a1, a2, a3, a4, a5, a6, a7, a8⟩ := I.env0
    exact ⟨by rw [fr]; exact a1, a2, a3, a4, a5, a6, a7, a8⟩
  have many : us.length = ps.length := by rw [← r.length]; exact F.len _ _ _ _ h
  have to : BindsTo s fd ⟨us, []⟩ (ps.zip us) := by
    have z := hb s us I.kIn (by rw [List.append_nil]; exact many)
    rw [List.append_nil] at z
    exact z
  refine wpAny_call (codeAny_mono (F.run A X.stack s H ⟨us, []⟩ us vs Q E sb.room env to r h) fun out s' q => ?_)
  match out, q with
  | .ok (.ret u), q => exact I.after q
  | .error e, q => exact hx pins σ H s e s' I q
/-- the type of what stands on the right -/
def TyAt (K : PySem.W.Frag) (C : Addr) (H : Hp) (y : V) (tb : Value) : Prop :=
  (∃ b dx gs, y = .ref b ∧ H b = some (.ins C dx gs) ∧ tb = .ref C) ∨ (y = .non ∧ tb = .type "NoneType") ∨ (∃ i, y = .int i ∧ tb = .type "int") ∨ (∃ z, y = .str z ∧ tb = .type "str") ∨ ∃ b xs, y = .ref b ∧ SqL K H b xs ∧ tb = .type "list"
theorem ty_looks {y : V} {u tb : Value} (I : Inv X pins σ H s) (ry : RelV y u) (t : TyAt X.K C H y tb) : PySem.W.Looks (model X.prog X.w) s.heap (typeOf u) tb ∧ PySem.W.notFirst X.K C tb = true := by
  rcases t with ⟨b, dx, gs, rfl, hb, rfl⟩ | ⟨rfl, rfl⟩ | ⟨i, rfl, rfl⟩ | ⟨z, rfl, rfl⟩ | ⟨b, xs, rfl, hb, rfl⟩
  · cases (show u = Value.ref b from ry)
    obtain ⟨mB, O, _⟩ := ins_get I.hok hb
    obtain ⟨od, J, _⟩ := O.look
    exact ⟨J.type, by simp [PySem.W.notFirst]⟩
  · cases (show u = Value.none from ry)
    exact ⟨PySem.W.Looks.of_pure rfl, rfl⟩
  · obtain ⟨t, rfl⟩ := ry
    exact ⟨PySem.W.Looks.of_pure rfl, rfl⟩
  · obtain ⟨t, rfl⟩ := ry
    exact ⟨PySem.W.Looks.of_pure rfl, rfl⟩
  · cases (show u = Value.ref b from ry)
    obtain ⟨its, r, ht, hz⟩ := I.list hb
    obtain ⟨o, ho, hc⟩ := ht.isList.typeIs
    refine ⟨?_, rfl⟩
    rw [← hc]
    exact (PySem.W.Looks.ld (part := none) ho).andThen .now
def rOwnEq (C : Addr) (neg : Bool) (sp : Sp) (E : XK) (K : PySem.W.Frag) : R2 := fun x y H Q => ∃ a dx fs tb, x = .ref a ∧ H a = some (.ins C dx fs) ∧ TyAt K C H y tb ∧ sp [x, y] H (fun v H' => ∃ b, v = .bl b ∧ Q (.bl (if neg then !b else b)) H') E
theorem op_own_eq (hm : Meth X.K C "__eq__" g) (F : FnOk X.prog X.w X.K X.mg X.base CX k g fd ps sp) (hr : Room k X.A) (hb : Binds X.K fd ps []) (hx : Passes CX X E) : OpR X (compareOp .Eq) (rOwnEq C false sp E X.K) := by
  intro pins s σ H x y v u Q I rx ry ⟨a, dx, fs, tb, ex, e, t, q⟩
  subst ex
  cases (show v =
          Value.ref a from rx)
  obtain ⟨mA, O, _⟩ := ins_get I.hok e
  obtain ⟨od, J, _⟩ := O.look
  obtain ⟨lt, nf⟩ := ty_looks I ry t
  obtain ⟨m, hF⟩ := I.fr
  refine PySem.W.cmp_K (op := .Eq) hr.units0 hF I.ok.mod.kin J lt nf hm.at_ hm.fn (wpAny_mono (run_in (us := [.ref a, u]) (vs := [.ref a, y]) ⟨hr, rfl⟩ F hb hx I (.cons rfl (.cons ry .nil)) q) (fun r s1 z => ?_) fun _ _ z => z)
  obtain ⟨z, H1, I1, rz, b, ez, q1⟩ := z
  subst ez
  cases (show r = Value.bool b from rz)
  exact ⟨.bl b, H1, I1, rfl, q1⟩
/-- !=: the class has no __ne__ of its own -/
structure NoNe (K : PySem.W.Frag) (C : Addr) : Prop where
  ne : PySem.W.findIn K (.ref C) "__ne__" = some (some (.builtin "object.__ne__"))
  ob : PySem.W.mroIn K C (.type "object") = some true
theorem op_own_ne (nn : NoNe X.K C) (hm : Meth X.K C "__eq__" g) (F : FnOk X.prog X.w X.K X.mg X.base CX k g fd ps sp) (hr : Room (k + 2) X.A) (hb : Binds X.K fd ps []) (hx : Passes CX X E) : OpR X (compareOp .NotEq) (rOwnEq C true sp E X.K) := by
  intro pins s σ H x y v u Q I rx ry ⟨a, dx, fs, tb, ex, e, t, q⟩
  subst ex
  cases (show v =
          Value.ref a from rx)
  obtain ⟨mA, O, _⟩ := ins_get I.hok e
  obtain ⟨od, J, _⟩ := O.look
  obtain ⟨lt, nf⟩ := ty_looks I ry t
  have sb : L2.Sub X k X.A.in1 := L2.Sub.in1 ⟨hr.mono (by omega), rfl⟩
  have call := ne_call (A := X.A) (E := X.xe) (b := u) (Q := fun r s' => (∃ b : Bool, r = .bool b) ∧ EP X pins σ Q r s') sb.room.units0 I.kIn J nn.ob hm.at_ hm.fn (wpAny_mono (run_in (us := [.ref a, u]) (vs := [.ref a, y]) sb F hb hx I (.cons rfl (.cons ry .nil)) q) (fun r s1 z => by
    obtain ⟨z, H1, I1, rz, b, ez, q1⟩ := z
    subst ez
    cases (show r = Value.bool b from rz)
    exact ⟨b, rfl, ⟨_, rfl⟩, .bl !b, H1, I1, rfl, q1⟩) fun _ _ z => z)
  have one : wpAny (model X.prog X.w) X.A (tryCompare (.ref a) "__ne__" u) (fun r s' => ∃ v, r = some v ∧ EP X pins σ Q v s') X.xe s := by
    unfold tryCompare
    refine wpAny_bind (bound_blt I.kIn J nn.ne PySem.F.cmp_object.ne.bind (wpAny_mono call (fun v s' hv => ?_) fun _ _ e => e))
    obtain ⟨⟨b, rfl⟩, z⟩ := hv
    exact wpAny_pure ⟨_, rfl, z⟩
  show wpAny (model X.prog X.w) X.A (richCompare .NotEq (.ref a) u) (EP X pins σ Q) X.xe s
  unfold richCompare
  simp only [oneThing_ref]
  refine wpAny_holding (wpAny_bind (wpAny_cRoomFor hr.units0 ?_))
  refine wpAny_bind (J.type.here (wpAny_bind (lt.here ?_)))
  have last : wpAny (model X.prog X.w) X.A (tryCompare (.ref a) "__ne__" u) (fun r s' => ∃ v, r = some v ∧ wpAny (model X.prog X.w) X.A (pure v) (EP X pins σ Q) X.xe s') X.xe s := wpAny_mono one (fun r s' ⟨v, ev, hv⟩ => ⟨v, ev, wpAny_pure hv⟩) fun _ _ z => z
  split
  · rename_i ht
    have z : PySem.W.subIn X.K tb (.ref C) = some false := by
      rcases Bool.or_eq_true_iff.mp nf with z | z
      · rw [beq_iff_eq.mp z] at ht
        simp at ht
      · exact beq_iff_eq.mp z
    refine wpAny_bind ((PySem.W.looks_subIn I.kIn z).here ?_)
    rw [if_neg Bool.false_ne_true]; refine wpAny_bind (wpAny_mono last (fun r s' q => ?_) fun _ _ z => z)
    obtain ⟨v, rfl, q⟩ := q
    exact q
  · refine wpAny_bind
          (wpAny_pure ?_)
    rw [if_neg Bool.false_ne_true]; refine wpAny_bind (wpAny_mono last (fun r s' q => ?_) fun _ _ z => z)
    obtain ⟨v, rfl, q⟩ := q
    exact q
/-- len of it, its text -/
def rOwnLen (C : Addr) (sp : Sp) (E : XK) : List V → Hp → VK → Prop := fun us H Q => ∃ a dx fs, us = [.ref a] ∧ H a = some (.ins C dx fs) ∧ sp [.ref a] H (fun v H' => ∃ n : Nat, v = .int n ∧ n ≤ sizeLine ∧ Q (.int n) H') E
theorem call_own_len (hm : Meth X.K C "__len__" g) (F : FnOk X.prog X.w X.K X.mg X.base CX k g fd ps sp) (hr : Room (k + 1) X.A) (hb : Binds X.K fd ps []) (hx : Passes CX X E) : CallR X (.builtin "len") (rOwnLen C sp E) := by
  intro pins s σ H xs us Q I r ⟨a, dx, fs, ex, e, q⟩
  subst ex
  obtain ⟨u,
          rfl, ru⟩ := vals1 r
  cases (show u =
          Value.ref a from ru)
  obtain ⟨mA, O, _⟩ := ins_get I.hok e
  obtain ⟨od, J, _⟩ := O.look
  obtain ⟨m, hF⟩ := I.fr
  refine PySem.W.len_K hF I.ok.mod.kin J hm.at_ hm.fn (wpAny_mono (run_in (us := [.ref a]) (vs := [.ref a]) (L2.Sub.in1 ⟨hr, rfl⟩) F hb hx I (.cons rfl .nil) q) (fun w s1 z => ?_) fun _ _ z => z)
  obtain ⟨z, H1, I1, rz, n, ez, hn, q1⟩ := z
  subst ez
  obtain ⟨t, rfl⟩ := rz
  have big : sizeLine = 16777216 := sizeLine_eq
  exact ⟨⟨Int.natCast_nonneg n, by omega⟩, .int n, H1, I1.tok _, ⟨_, rfl⟩, q1⟩
def rOwnStr (C : Addr) (sp : Sp) (E : XK) : List V → Hp → VK → Prop := fun us H Q => ∃ a dx fs, us = [.ref a] ∧ H a = some (.ins C dx fs) ∧ sp [.ref a] H (fun v H' => ∃ z, v = .str z ∧ Q (.str z) H') E
theorem call_own_str (hm : Meth X.K C "__str__" g) (F : FnOk X.prog X.w X.K X.mg X.base CX k g fd ps sp) (hr : Room (k + 2) X.A) (hb : Binds X.K fd ps []) (hx : Passes CX X E) : CallR X (.type "str") (rOwnStr C sp E) := by
  intro pins s σ H xs us Q I r ⟨a, dx, fs, ex, e, q⟩
  subst ex
  obtain ⟨u,
          rfl, ru⟩ := vals1 r
  cases (show u =
          Value.ref a from ru)
  obtain ⟨mA, O, _⟩ := ins_get I.hok e
  obtain ⟨od, J, _⟩ := O.look
  have sb : L2.Sub X k X.A.in1.in1 := L2.Sub.in1 (L2.Sub.in1 ⟨hr, rfl⟩)
  refine PySem.W.kso_call sb.room.units0 I.kIn J hm.at_ hm.fn (wpAny_mono (run_in (us := [.ref a]) (vs := [.ref a]) sb F hb hx I (.cons rfl .nil) q) (fun w s1 z => ?_) fun _ _ z => z)
  obtain ⟨z, H1, I1, rz, n, ez, q1⟩ := z
  subst ez
  obtain ⟨t, rfl⟩ := rz
  exact ⟨.str n, H1, I1, ⟨_, rfl⟩, q1⟩
end
end LP
namespace LP
open L2 PySem PySem.Spec PyProof.Rows
/-! ### xs == [], whatever xs holds -/
def rEqE (K : PySem.W.Frag) : R2 := fun x y H Q => ∃ a p xs, x = .ref a ∧ y = .ref p ∧ SqL K H a xs ∧ SqL K H p [] ∧ Q (.bl xs.isEmpty) H
theorem op_eqE {X : Cx} (hu : X.A.units < cLine) : OpR X (compareOp .Eq) (rEqE X.K) := by
  intro pins s σ H x y v u Q I rx ry h; obtain ⟨a, p, xs, rfl, rfl, ha, hp, q⟩ := h
  cases rx
  cases ry
  obtain ⟨its, r1, ⟨o1, n1, h1, h2, h3, h4⟩, _⟩ := I.list ha
  obtain ⟨its2, r2, ⟨o2, n2, k1, k2, k3, k4⟩, _⟩ := I.list hp
  have l1 := r1.length
  have l2 : its2.length = 0 := r2.length.symm
  have hl : s.heap.IsList a its.toArray := ⟨o1, h1, h2, n1, h4⟩
  have hl2 : s.heap.IsList p its2.toArray := ⟨o2, k1, k2, n2, k4⟩
  cases xs with
  | nil =>
    have e0 : its.length = 0 := l1.symm
    have z := SeqAt.RcAt.lists (A := X.A) (e := fun _ => true) hl hl2 (by simp [e0, l2]) hu (fun j j1 _ => by simp [e0] at j1)
    rw [show (List.range its.toArray.size).all (fun _ => true) = true by simp] at z
    exact z X.prog X.w _ _ ⟨.bl true, H, I, rfl, q⟩
  | cons x r =>
    have e0 : its.length = r.length + 1 := l1.symm
    have z := SeqAt.RcAt.lists_lengths (A := X.A) hl hl2 (by simp [e0, l2]) hu
    exact z X.prog X.w _ _ ⟨.bl false, H, I, rfl, q⟩
theorem op_eqEK {X : Cx} {K : PySem.W.Frag} (hK : X.K = K) (hu : X.A.units < cLine) : OpR X (compareOp .Eq) (rEqE K) := hK ▸ op_eqE hu
theorem w_eqE {K : PySem.W.Frag} {H : Hp} {a p : Addr} {xs : List V} {Q : VK} (h : SqL K H a xs) (hp : SqL K H p []) (q : Q (.bl xs.isEmpty) H) : rEqE K (.ref a) (.ref p) H Q := ⟨a, p, xs, rfl, rfl, h, hp, q⟩
/-! ### xs[::-1] -/
theorem pe_revLK {X : Cx} {K : PySem.W.Frag} {e : Expr} {te : TE} {k : Nat} {p1 p2 p3 pos : Pos} (hK : X.K = K) (he : PE X e te) : PE X (.Subscript e (.Slice none none (some (.UnaryOp .USub (.Constant (.int 1) k p1) p2)) p3) pos) (tRevL K te) := hK ▸ pe_revL he
end LP
namespace LP
open PySem L2
/-! ### a for over zip(tuple, tuple) -/
section
variable {X : Cx} {K : PySem.W.Frag} {e e2 : Expr} {ta : TA} {p pos tpos : Pos} {elts : List Expr} {kk : Nat}
theorem pi_zipTK (hK : X.K = K) (hg : Gl X "zip") (hm : X.mg "zip" = none) (ha : PA X [e, e2] ta) (hs : starEach [e, e2] X.env = (false, eval e X.env) :: starEach [e2] X.env := by rfl) (hpl : (backTo pos (starEach [e2] X.env)).any (·.1) = false := by rfl) :
    PI X (.Tuple elts kk tpos) (.Call (.Name "zip" p) [e, e2] [] pos) (RZ.iZipA K ta) := hK ▸ RZ.pi_zipA hg hm ha hs hpl
end
section
variable {K : PySem.W.Frag} {a b : Addr} {xs ys : List V} {g : TG} {tb : TS} {D : Ends} {σ : L2.St} {H H1 : Hp}
theorem w_iZipA {ta : TA} {R : It → Hp → Prop} (h : ta σ H fun vs H1 => ∃ a b xs ys, vs = [.ref a, .ref b] ∧ ((SqL K H1 a xs ∧ SqL K H1 b ys ∧ R (Itz K a b) H1) ∨ (SqT K H1 a xs ∧ SqT K H1 b ys ∧ R (RZ.ItzT K a b) H1))) : RZ.iZipA K ta σ H R := h
theorem loopZT {α : Type} {R : V → V → α → Prop} (zs : List α) (lx : xs.length = zs.length) (ly : ys.length = zs.length) (hz : ∀ (i : Nat) x y, xs[i]? = some x → ys[i]? = some y → ∃ z, zs[i]? = some z ∧ R x y z)
    (Pv : List α → L2.St → Hp → Prop) (h0 : Pv zs σ H) (hl : ∀ r σ H, Pv r σ H → SqT K H a xs ∧ SqT K H b ys)
    (hs : ∀ x y z r σ H T, R x y z → (∃ d, zs = d ++ z :: r) → H T = none → Pv (z :: r) σ H → g (.ref T) σ (upd H T (.tup [x, y])) fun σ2 H2 => tb { D with nx := Pv r, ct := Pv r, bk := D.nx } σ2 H2) (hd : ∀ σ H, Pv [] σ H → D.nx σ H) :
    ∃ W : Nat → Nat → L2.St → Hp → Prop, (∃ m, W 0 m σ H) ∧ ∀ i m σ H, W i m σ H → ((RZ.ItzT K a b).stop i H ∧ D.nx σ H) ∨
      ((RZ.ItzT K a b).go i H ∧ ∃ N : L2.St → Hp → Prop, (∀ σ' H', N σ' H' → ∃ m', m' < m ∧ W (i + 1) m' σ' H') ∧ ∀ x H', (RZ.ItzT K a b).yld i H x H' → g x σ H' fun σ2 H2 => tb { D with nx := N, ct := N, bk := D.nx } σ2 H2) := by
  refine ⟨fun i m σ H => m = zs.length - i ∧ i ≤ zs.length ∧ Pv (zs.drop i) σ H, ⟨zs.length, by simp, Nat.zero_le _, by simpa using h0⟩, ?_⟩
  rintro i m σ H ⟨rfl, hi, p⟩
  obtain ⟨qa, qb⟩ := hl _ _ _ p
  by_cases lt : i < zs.length
  · have hx : xs[i]? = some (xs[i]'(by omega)) := List.getElem?_eq_getElem _
    have hy : ys[i]? = some (ys[i]'(by omega)) := List.getElem?_eq_getElem _
    refine .inr ⟨⟨xs, ys, _, _, qa, qb, hx, hy⟩, fun σ H => Pv (zs.drop (i + 1)) σ H, fun σ' H' q => ⟨zs.length - (i + 1), by omega, rfl, lt, q⟩, fun v H' z => ?_⟩
    obtain ⟨T, x, y, rfl, hT, rfl, zx, zy⟩ := z
    obtain ⟨z, ez, hr⟩ := hz i x y (zx xs qa) (zy ys qb)
    have e1 : zs.drop i = z :: zs.drop (i + 1) := by
      have e2 : zs[i] = z := by
        rw [List.getElem?_eq_getElem lt] at ez
        exact Option.some.inj ez
      rw [List.drop_eq_getElem_cons lt, e2]
    exact hs x y z (zs.drop (i + 1)) σ H T hr ⟨zs.take i, by rw [← e1]; exact (List.take_append_drop i zs).symm⟩ hT (by rw [← e1]; exact p)
  · have e : i = zs.length := by omega
    refine .inl ⟨⟨xs, ys, qa, qb, .inl (by omega)⟩, hd σ H ?_⟩
    rw [e, List.drop_length] at p
    exact p
end
end LP
namespace LP
open L2 PySem PySem.Spec PyProof.Rows
/-! ### a for over zip of a list and a tuple: both sources told by what their iterators do -/
structure ItSrc (prog : Program) (w : World) (it l : Addr) (R : Heap → Nat → Prop) (f : Nat → Option Value) : Prop where
  keep : ∀ {h h' : Heap} {k : Nat}, R h k → (∀ o, h.get? it = some o → h'.get? it = some o) → (∀ o, h.get? l = some o → h'.get? l = some o) → R h' k
  item : ∀ {A : Around} {E : Value → Shared → Prop} {s : Shared} {k : Nat} {x : Value} {Q : Value → Shared → Prop}, R s.heap k → f k = some x → (∀ h', R h' (k + 1) → Heap.SameBut it s.heap h' → Q x { s with heap := h' }) →
    wpAny (model prog w) A (Builtin.SmallTypes.nextOf (.ref it)) Q E s
  fin : ∀ {A : Around} {E : Value → Shared → Prop} {s : Shared} {k : Nat} {Q : Value → Shared → Prop}, A.handled = none → R s.heap k → f k = none →
    (∀ h' e,
            Heap.ExtBut it s.heap h' → (∃ o, h'.get? e = some o ∧ o.cls = .type "StopIteration") → E (.ref e) { s with heap := h' }) → wpAny (model prog w) A (Builtin.SmallTypes.nextOf (.ref it)) Q E s
section
variable {prog : Program}
        {w : World}
theorem src_list {it l : Addr} {xs : Array Value} (ne : l ≠ it) : ItSrc prog w it l (fun h k => h.IsListIter it l k ∧ h.IsList l xs) (fun k => xs[k]?) where
  keep := fun h a b => ⟨h.1.at a, by obtain ⟨o, ho, h'⟩ := h.2; exact ⟨o, b _ ho, h'⟩⟩
  item := fun h hx q => wpAny_nextOf_list_item h.1 h.2 hx fun h' i sb => q h' ⟨i, h.2.extBut sb.extBut ne⟩ sb
  fin := fun hh h hx q => wpAny_nextOf_list_end hh h.1 h.2 hx q
theorem src_tup {it l : Addr} {xs : Array Value} (ne : l ≠ it) : ItSrc prog w it l (fun h k => h.IsTupleIter it l k ∧ h.IsTuple l xs) (fun k => xs[k]?) where
  keep := fun h a b => ⟨h.1.at a, by obtain ⟨o, ho, h'⟩ := h.2; exact ⟨o, b _ ho, h'⟩⟩
  item := fun h hx q => RZ.nextOf_tuple_item h.1 h.2 hx fun h' i sb => q h' ⟨i, h.2.extBut sb.extBut ne⟩ sb
  fin := fun hh h hx q => RZ.nextOf_tuple_end hh h.1 h.2 hx q
variable {A : Around} {E : Value → Shared → Prop} {s : Shared} {z TI TO i1 i2 l1 l2 : Addr} {R1 R2 : Heap → Nat → Prop} {f1 f2 : Nat → Option Value}
theorem ItSrc.past {it l c : Addr} {R : Heap → Nat → Prop} {f : Nat → Option Value} {h h' : Heap} {k : Nat} (S : ItSrc prog w it l R f) (r : R h k) (e : Heap.ExtBut c h h') (n1 : it ≠ c) (n2 : l ≠ c) : R h' k :=
  S.keep r (fun _ x => e _ _ n1 x) fun _ x => e _ _ n2 x
/-- what a zip holds at a turn -/
structure AtZip (h : Heap) (z TI TO i1 i2 : Addr) (R1 R2 : Heap → Nat → Prop) (k : Nat) (a b : Value) : Prop where
  zip : IsZip h z TI TO .none
  its : IsPair h TI (.ref i1) (.ref i2)
  out : IsPair h TO a b
  one : R1 h k
  two : R2 h k
theorem zip_item {k : Nat} {x y a b : Value} {Q : Value → Shared → Prop} (S1 : ItSrc prog w i1 l1 R1 f1) (S2 : ItSrc prog w i2 l2 R2 f2) (D : ZipApart z TI TO i1 i2 l1 l2) (st : AtZip s.heap z TI TO i1 i2 R1 R2 k a b) (hx : f1 k = some x) (hy : f2 k = some y)
    (hQ : ∀ h', IsZip h' z TI TO (rawInt s.heap.objs.size) → IsPair h' TO x y → R1 h' (k + 1) → R2 h' (k + 1) → IsPair h' s.heap.objs.size x y → h'.objs.size = s.heap.objs.size + 1 →
      (∀ c o,
              c ≠ z → c ≠ TO → c ≠ i1 → c ≠ i2 → s.heap.get? c = some o → h'.get? c = some o) → Q (.ref s.heap.objs.size) { s with heap := h' }) :
    wpAny (model prog w)
            A (Builtin.«zip.__next__» ⟨[.ref z], []⟩) (fun fin s' => ∃ v, fin = .done (.ret v) ∧ Q v s') E s := by
  obtain ⟨hz, hTI, hTO, r1, r2⟩ := st
  show wpAny _ _
          (field (.ref z) 2 >>= _) _ _ _
  refine wpAny_bind
          (wpAny_field hz rfl (x := .bool false) rfl ?_)
  show wpAny _ _
          (field (.ref z) 3 >>= _) _ _ _
  refine wpAny_bind (wpAny_field hz rfl (x := .ref TI) rfl (wpAny_bind (wpAny_seqItems hTI rfl ?_)))
  show wpAny _ _
          (Builtin.SmallTypes.ownedTupleIsFree (.ref z) >>= _) _ _ _
  unfold Builtin.SmallTypes.ownedTupleIsFree; refine wpAny_bind (wpAny_bind (wpAny_field hz rfl (x := .none) rfl (wpAny_pure ?_)))
  simp only [if_true]
  refine wpAny_bind (wpAny_rule (wpAny_bind (wpAny_field hz rfl (x := .ref TO) rfl (wpAny_bind (wpAny_setField_rec hz (by simp) fun ha za sa => ?_)))))
  have za : IsZip ha z TI TO .ellipsis := za
  refine wpAny_bind ?_
  simp only [List.zipIdx_cons,
          List.zipIdx_nil, List.forIn_cons, List.forIn_nil]
  -- the first source
  refine wpAny_bind
          (wpAny_bind (wpAny_onRaise ?_))
  show wpAny _ _
          (Builtin.SmallTypes.nextOf (.ref i1) >>= _) _ _ _
  refine wpAny_bind (S1.item (S1.past r1 sa.extBut D.i1z D.l1z) hx fun hb rb sb => wpAny_pure ?_)
  have Tb : IsPair hb TO a b := sb.extBut _ _ D.TOi1 (sa.extBut _ _ D.TOz hTO)
  refine wpAny_bind (wpAny_seqItems Tb rfl (wpAny_bind (wpAny_updateSeq_pair Tb fun hc Tc sc => ?_)))
  have Tc : IsPair hc TO x b := Tc
  refine wpAny_bind
          (wpAny_letGo (wpAny_pure ?_))
  -- the second
  refine wpAny_bind
          (wpAny_bind (wpAny_onRaise ?_))
  show wpAny _ _
          (Builtin.SmallTypes.nextOf (.ref i2) >>= _) _ _ _
  refine wpAny_bind (S2.item (S2.past (S2.past (S2.past r2 sa.extBut D.i2z D.l2z) sb.extBut D.i12.symm D.l2i1) sc.extBut D.TOi2.symm D.l2TO) hy fun hd rd sd => wpAny_pure ?_)
  have Td : IsPair hd TO x b := sd.extBut _ _ D.TOi2 Tc
  refine wpAny_bind (wpAny_seqItems Td rfl (wpAny_bind (wpAny_updateSeq_pair Td fun he Te se => ?_)))
  have Te : IsPair he TO x y := Te
  refine wpAny_bind
          (wpAny_letGo (wpAny_pure (wpAny_pure ?_)))
  refine wpAny_bind (wpAny_seqItems Te rfl (wpAny_bind (wpAny_newTuple ?_)))
  -- handed out
  have size : he.objs.size = s.heap.objs.size := by rw [se.1, sd.1, sc.1, sb.1, sa.1]
  have all : ∀ c o, c ≠ TO → c ≠ i1 → c ≠ i2 → ha.get? c = some o → he.get? c = some o := fun c o n1 n2 n3 e => se.extBut _ _ n1 (sd.extBut _ _ n3 (sc.extBut _ _ n1 (sb.extBut _ _ n2 e)))
  have ze : IsZip he z TI TO .ellipsis := all _ _ D.TOz.symm D.i1z.symm D.i2z.symm za
  have r1e : R1 he (k + 1) := S1.past (S1.past (S1.past rb sc.extBut D.TOi1.symm D.l1TO) sd.extBut D.i12 D.l1i2) se.extBut D.TOi1.symm D.l1TO
  have r2e : R2 he (k + 1) := S2.past rd se.extBut D.TOi2.symm D.l2TO
  have zlt : z < he.objs.size := Heap.lt_size ze
  show wpAny _ _ (Builtin.SmallTypes.ownedTupleHandOut (.ref z) (.ref he.objs.size) >>= _) _ _ _
  unfold Builtin.SmallTypes.ownedTupleHandOut; refine wpAny_bind (wpAny_bind (wpAny_setField_rec (show IsZip (he.push { cls := .type "tuple", data := .seq #[x, y] }) z TI TO .ellipsis from Heap.get?_push_of_some _ ze) (by simp) fun hg zg sg => ?_))
  have zg : IsZip hg z TI TO (rawInt he.objs.size) := zg
  refine wpAny_setField_rec zg (by simp) fun hh zh sh => ?_
  have zh : IsZip hh z TI TO (rawInt he.objs.size) := zh
  have up : ∀ c o, c ≠ z → he.get? c = some o → hh.get? c = some o := fun c o n e => sh.extBut _ _ n (sg.extBut _ _ n (Heap.get?_push_of_some _ e))
  have Th : IsPair hh he.objs.size x y := sh.extBut _ _ (Nat.ne_of_gt zlt) (sg.extBut _ _ (Nat.ne_of_gt zlt) (Heap.get?_push_size _ rfl))
  have sizeh : hh.objs.size = he.objs.size + 1 := by rw [sh.1, sg.1, Heap.size_push]
  rw [size] at zh Th sizeh
  refine wpAny_pure ⟨_,
          rfl, ?_⟩
  show Q (.ref he.objs.size) _
  rw [size]
  exact hQ hh zh (up _ _ D.TOz Te) (S1.keep r1e (fun o e => up _ o D.i1z e) fun o e => up _ o D.l1z e) (S2.keep r2e (fun o e => up _ o D.i2z e) fun o e => up _ o D.l2z e) Th sizeh fun c o n1 n2 n3 n4 e => up c o n1 (all c o n2 n3 n4 (sa.extBut _ _ n1 e))
theorem zip_fin {k : Nat} {a b : Value} {Q : Fin → Shared → Prop} (hh : A.handled = none) (S1 : ItSrc prog w i1 l1 R1 f1) (S2 : ItSrc prog w i2 l2 R2 f2) (D : ZipApart z TI TO i1 i2 l1 l2) (st : AtZip s.heap z TI TO i1 i2 R1 R2 k a b) (hend : f1 k = none ∨ f2 k = none)
    (hE : ∀ h' e,
            (∀ c o, c ≠ z → c ≠ TO → c ≠ i1 → c ≠ i2 → s.heap.get? c = some o → h'.get? c = some o) → (∃ o, h'.get? e = some o ∧ o.cls = .type "StopIteration") → E (.ref e) { s with heap := h' }) :
    wpAny (model prog w)
            A (Builtin.«zip.__next__» ⟨[.ref z], []⟩) Q E s := by
  obtain ⟨hz, hTI, hTO, r1, r2⟩ := st
  have last : ∀ {h1 h2 h3 : Heap} {e : Addr}, IsZip h2 z TI TO .ellipsis → (∀ c o, c ≠ z → c ≠ TO → c ≠ i1 → c ≠ i2 → s.heap.get? c = some o → h2.get? c = some o) → (∃ o, h2.get? e = some o ∧ o.cls = .type "StopIteration") → Heap.SameBut z h2 h3 → E (.ref e) { s with heap := h3 } := fun {h1 h2 h3 e} z2 fr he sb => by
    obtain ⟨oe, hoe, hce⟩ := he
    have ne : e ≠ z := fun x => by subst x; rw [z2] at hoe; cases hoe; simp at hce
    exact hE _ e (fun c o n1 n2 n3 n4 x => sb.extBut _ _ n1 (fr c o n1 n2 n3 n4 x)) ⟨oe, sb.extBut _ _ ne hoe, hce⟩
  show wpAny _ _
          (field (.ref z) 2 >>= _) _ _ _
  refine wpAny_bind
          (wpAny_field hz rfl (x := .bool false) rfl ?_)
  show wpAny _ _
          (field (.ref z) 3 >>= _) _ _ _
  refine wpAny_bind (wpAny_field hz rfl (x := .ref TI) rfl (wpAny_bind (wpAny_seqItems hTI rfl ?_)))
  show wpAny _ _
          (Builtin.SmallTypes.ownedTupleIsFree (.ref z) >>= _) _ _ _
  unfold Builtin.SmallTypes.ownedTupleIsFree; refine wpAny_bind (wpAny_bind (wpAny_field hz rfl (x := .none) rfl (wpAny_pure ?_)))
  simp only [if_true]
  refine wpAny_bind (wpAny_rule (wpAny_bind (wpAny_field hz rfl (x := .ref TO) rfl (wpAny_bind (wpAny_setField_rec hz (by simp) fun ha za sa => ?_)))))
  have za : IsZip ha z TI TO .ellipsis := za
  refine wpAny_bind ?_
  simp only [List.zipIdx_cons,
          List.zipIdx_nil, List.forIn_cons, List.forIn_nil]
  refine wpAny_bind
          (wpAny_bind (wpAny_onRaise ?_))
  show wpAny _ _
          (Builtin.SmallTypes.nextOf (.ref i1) >>= _) _ _ _
  have r1a := S1.past r1 sa.extBut D.i1z D.l1z
  cases hx : f1 k with
  | none =>
    refine wpAny_bind (S1.fin hh r1a hx fun hb e sb he => ?_)
    have zb : IsZip hb z TI TO .ellipsis := sb _ _ D.i1z.symm za
    exact wpAny_setField_rec zb (by simp) fun hc _ sc => last (h1 := ha) zb (fun c o n1 _ n3 _ x => sb _ _ n3 (sa.extBut _ _ n1 x)) he sc
  | some x =>
    have hy : f2 k = none := hend.resolve_left (by rw [hx]; exact fun z => nomatch z)
    refine wpAny_bind (S1.item r1a hx fun hb rb sb => wpAny_pure ?_)
    have Tb : IsPair hb TO a b := sb.extBut _ _ D.TOi1 (sa.extBut _ _ D.TOz hTO)
    refine wpAny_bind (wpAny_seqItems Tb rfl (wpAny_bind (wpAny_updateSeq_pair Tb fun hc Tc sc => ?_)))
    refine wpAny_bind
            (wpAny_letGo (wpAny_pure ?_))
    refine wpAny_bind
            (wpAny_bind (wpAny_onRaise ?_))
    show wpAny _ _
            (Builtin.SmallTypes.nextOf (.ref i2) >>= _) _ _ _
    refine wpAny_bind (S2.fin hh (S2.past (S2.past (S2.past r2 sa.extBut D.i2z D.l2z) sb.extBut D.i12.symm D.l2i1) sc.extBut D.TOi2.symm D.l2TO) hy fun hd e sd he => ?_)
    have zd : IsZip hd z TI TO .ellipsis := sd _ _ D.i2z.symm (sc.extBut _ _ D.TOz.symm (sb.extBut _ _ D.i1z.symm za))
    exact wpAny_setField_rec zd (by simp) fun hf _ sf => last (h1 := ha) zd (fun c o n1 n2 n3 n4 x => sd _ _ n4 (sc.extBut _ _ n2 (sb.extBut _ _ n3 (sa.extBut _ _ n1 x)))) he sf
theorem next_item {k : Nat} {x y a b : Value} {Q : Option Value → Shared → Prop} (S1 : ItSrc prog w i1 l1 R1 f1) (S2 : ItSrc prog w i2 l2 R2 f2) (D : ZipApart z TI TO i1 i2 l1 l2) (st : AtZip s.heap z TI TO i1 i2 R1 R2 k a b) (hx : f1 k = some x) (hy : f2 k = some y)
    (hQ : ∀ h', IsZip h' z TI TO (rawInt s.heap.objs.size) → IsPair h' TO x y → R1 h' (k + 1) → R2 h' (k + 1) → IsPair h' s.heap.objs.size x y → h'.objs.size = s.heap.objs.size + 1 →
      (∀ c o, c ≠ z → c ≠ TO → c ≠ i1 → c ≠ i2 → s.heap.get? c = some o → h'.get? c = some o) → Q (some (.ref s.heap.objs.size)) { s with heap := h' }) : wpAny (model prog w) A (pyNext (.ref z)) Q E s := by
  have hT : s.TypeIs (.ref z) "zip" := ⟨_, st.zip, rfl⟩
  unfold pyNext
  exact wpAny_bind
          (wpAny_attempt (wpAny_callSpecial?_slot (name := Str.ofString "__next__") hT F.slot_zip_next
    (wpAny_call_entry F.slot_zip_next hT F.entry_zip_next (zip_item S1 S2 D st hx hy fun h' a1 a2 a3 a4 a5 a6 a7 => wpAny_pure (hQ h' a1 a2 a3 a4 a5 a6 a7)) (F.args_zip_next_1 _))))
theorem next_fin {k : Nat} {a b : Value} {Q : Option Value → Shared → Prop} (hh : A.handled = none) (S1 : ItSrc prog w i1 l1 R1 f1) (S2 : ItSrc prog w i2 l2 R2 f2) (D : ZipApart z TI TO i1 i2 l1 l2) (st : AtZip s.heap z TI TO i1 i2 R1 R2 k a b) (hend : f1 k = none ∨ f2 k = none)
    (hQ : ∀ h',
            (∀ c o, c ≠ z → c ≠ TO → c ≠ i1 → c ≠ i2 → s.heap.get? c = some o → h'.get? c = some o) → Q none { s with heap := h' }) : wpAny (model prog w) A (pyNext (.ref z)) Q E s := by
  have hT : s.TypeIs (.ref z) "zip" := ⟨_, st.zip, rfl⟩
  unfold pyNext
  refine wpAny_bind
          (wpAny_attempt (wpAny_callSpecial?_slot (name := Str.ofString "__next__") hT F.slot_zip_next
    (wpAny_call_entry F.slot_zip_next hT F.entry_zip_next (zip_fin hh S1 S2 D st hend fun h' e hk he => ?_) (F.args_zip_next_1 _))))
  obtain ⟨o, ho, hc⟩ := he
  exact wpAny_bind (wpAny_isInstance (T := "StopIteration") (b := true) ⟨o, ho, hc⟩ isSubtype_stop (wpAny_pure (hQ _ hk)))
end
end LP
namespace LP
open L2 PySem PySem.Spec PyProof.Rows
/-! ### zip(list, tuple) -/
/-- the heap behind the call -/
def zipLT (h : Heap) (a b : Addr) : Heap :=
  ((((h.push { cls := .type "list_iterator", data := .fields #[.ref a, .int 0 0] }).push { cls := .type "tuple_iterator", data := .fields #[.ref b, .int 0 0] }).push
    { cls := .type "tuple", data := .seq #[.ref h.objs.size, .ref (h.objs.size + 1)] }).push { cls := .type "tuple", data := .seq #[.none, .none] }).push
    { cls := .type "zip", data := .fields #[.none, .bool false, .bool false, .ref (h.objs.size + 2), .ref (h.objs.size + 3)] }
theorem new_zipLT (a b : Addr) (xs ys : Array Value) :
    Meets (Builtin.«zip.__new__» ⟨[.type "zip", .ref a, .ref b], []⟩) (fun _ R s => s.heap.IsList a xs ∧ s.heap.IsTuple b ys ∧ R (.ok (.ret (.ref (s.heap.objs.size + 4)))) { s with heap := zipLT s.heap a b }) :=
  .of_wp fun prog w A R s1 h => by
    obtain ⟨hp, g, d, tk, os⟩ := s1
    obtain ⟨ha, hb, h⟩ := h
    have hsub := sub_zip
    have L1 : Heap.IsList (Shared.heap ⟨hp, g, d, tk, os⟩) a xs := ha
    have L2 : Heap.IsTuple (Shared.heap ⟨hp.push { cls := .type "list_iterator", data := .fields #[.ref a, .int 0 0] }, g, d, tk, os⟩) b ys := Heap.IsTuple.push hb _
    wp_walk using wpAny_pyIter_list L1, wpAny_pyIter_tuple L2
    refine ⟨_, rfl, ?_⟩
    unfold zipLT at h
    simp only [Heap.size_push]
    exact h
section
variable {prog : Program}
        {w : World} {A : Around} {E : Value → Shared → Prop} {s : Shared}
theorem call_zipLT {a b : Addr} {xs ys : Array Value} {Q : Value → Shared → Prop} (ha : s.heap.IsList a xs) (hb : s.heap.IsTuple b ys)
    (h : ∀ h',
            IsZip h' (s.heap.objs.size + 4) (s.heap.objs.size + 2) (s.heap.objs.size + 3) .none → IsPair h' (s.heap.objs.size + 2) (.ref s.heap.objs.size) (.ref (s.heap.objs.size + 1)) →
      IsPair h' (s.heap.objs.size + 3) .none .none → h'.IsListIter s.heap.objs.size a 0 → h'.IsTupleIter (s.heap.objs.size + 1) b 0 → (∀ c o, s.heap.get? c = some o → h'.get? c = some o) → Q (.ref (s.heap.objs.size + 4)) { s with heap := h' }) :
    wpAny (model prog w) A (call (.type "zip") [.ref a, .ref b]) Q E s := by
  refine callType_new F.called_zip (by decide) (F.typeCall_zip_2 _ _) (F.newCall_zip_2 _ _) (fun obj => F.args_object_init_3 obj _ _) F.entry_zip_new (new_zipLT a b xs ys) ⟨ha, hb, ?_⟩
  have old : ∀ c o, s.heap.get? c = some o → (zipLT s.heap a b).get? c = some o := fun c o x => by
    unfold zipLT
    exact Heap.get?_push_of_some _ (Heap.get?_push_of_some _ (Heap.get?_push_of_some _ (Heap.get?_push_of_some _ (Heap.get?_push_of_some _ x))))
  have at_ : ∀ (h : Heap) (o : Obj) (n : Nat), h.objs.size = n → o.isFreed = false → (h.push o).get? n = some o := fun h o n e f => by rw [← e]; exact Heap.get?_push_size _ f
  have g4 : (zipLT s.heap a b).get? (s.heap.objs.size + 4) = some { cls := .type "zip", data := .fields #[.none, .bool false, .bool false, .ref (s.heap.objs.size + 2), .ref (s.heap.objs.size + 3)] } := by
    unfold zipLT
    exact at_ _ _ _ (by simp only [Heap.size_push]) rfl
  have g3 : (zipLT s.heap a b).get? (s.heap.objs.size + 3) = some { cls := .type "tuple", data := .seq #[.none, .none] } := by
    unfold zipLT
    exact Heap.get?_push_of_some _ (at_ _ _ _ (by simp only [Heap.size_push]) rfl)
  have g2 : (zipLT s.heap a b).get? (s.heap.objs.size + 2) = some { cls := .type "tuple", data := .seq #[.ref s.heap.objs.size, .ref (s.heap.objs.size + 1)] } := by
    unfold zipLT
    exact Heap.get?_push_of_some _ (Heap.get?_push_of_some _ (at_ _ _ _ (by simp only [Heap.size_push]) rfl))
  have g1 : (zipLT s.heap a b).get? (s.heap.objs.size + 1) = some { cls := .type "tuple_iterator", data := .fields #[.ref b, .int 0 0] } := by
    unfold zipLT
    exact Heap.get?_push_of_some _ (Heap.get?_push_of_some _ (Heap.get?_push_of_some _ (at_ _ _ _ (by simp only [Heap.size_push]) rfl)))
  have g0 : (zipLT s.heap a b).get? s.heap.objs.size = some { cls := .type "list_iterator", data := .fields #[.ref a, .int 0 0] } := by
    unfold zipLT
    exact Heap.get?_push_of_some _ (Heap.get?_push_of_some _ (Heap.get?_push_of_some _ (Heap.get?_push_of_some _ (at_ _ _ _ rfl rfl))))
  exact ⟨⟨_, g4, rfl⟩, h _ g4 g2 g3 ⟨_, g0, rfl, rfl⟩ ⟨_, g1, rfl, rfl⟩ old⟩
end
end LP
namespace LP
open L2 PySem PySem.Spec PyProof.Rows
/-- the list at a and the tuple at b, their items in new pairs -/
def ItzM (K : PySem.W.Frag) (a b : Addr) : It :=
  ⟨fun i H => ∃ (xs ys : List V) (x y : V), SqL K H a xs ∧ SqT K H b ys ∧ xs[i]? = some x ∧ ys[i]? = some y,
    fun i H v H' => ∃ T x y, v = .ref T ∧ H T = none ∧ H' = upd H T (.tup [x, y]) ∧ (∀ xs, SqL K H a xs → xs[i]? = some x) ∧ ∀ ys, SqT K H b ys → ys[i]? = some y,
    fun i H => ∃ xs ys : List V, SqL K H a xs ∧ SqT K H b ys ∧ (xs.length ≤ i ∨ ys.length ≤ i)⟩
theorem turn_zipM {P : Program} {w : World} {K : PySem.W.Frag} {elts : List Expr} {kk : Nat} {tpos : Pos} {a b z TI TO i1 i2 : Addr} (D : ZipApart z TI TO i1 i2 a b) :
    Turn P w K (.Tuple elts kk tpos) (ItzM K a b) [z, TI, TO, i1, i2] z (fun i h => IsZip h z TI TO .none ∧ IsPair h TI (.ref i1) (.ref i2) ∧ (∃ x y, IsPair h TO x y) ∧ h.IsListIter i1 a i ∧ h.IsTupleIter i2 b i) where
  mem := by simp
  obj := fun i h st c hc => by
    obtain ⟨hz,
            hTI, ⟨x, y, hTO⟩, ⟨o1, e1, _, d1⟩, ⟨o2, e2, _, d2⟩⟩ := st
    have e' : c =
            z ∨ c = TI ∨ c = TO ∨ c = i1 ∨ c = i2 := by simpa using hc
    rcases e' with rfl | rfl | rfl | rfl | rfl
    · exact ⟨_, hz, fun v q => nomatch q⟩
    · exact ⟨_, hTI, fun v q => nomatch q⟩
    · exact ⟨_, hTO, fun v q => nomatch q⟩
    · exact ⟨o1, e1, fun v q => by rw [d1] at q; cases q⟩
    · exact ⟨o2, e2, fun v q => by rw [d2] at q; cases q⟩
  keep := fun i h h' st k => by
    obtain ⟨hz,
            hTI, ⟨x, y, hTO⟩, h1, h2⟩ := st
    exact ⟨k z
            (by simp) _ hz, k TI (by simp) _ hTI, ⟨x, y, k TO (by simp) _ hTO⟩, h1.at fun o q => k i1 (by simp) o q, h2.at fun o q => k i2 (by simp) o q⟩
  item := by
    intro X hP hw hK hc i pins s σ H E I hf st hg; subst hP hw hK
    obtain ⟨hz,
            hTI, ⟨x0, y0, hTO⟩, h1, h2⟩ := st
    obtain ⟨xs,
            ys, x, y, hqx, hqy, hx, hy⟩ := hg
    obtain ⟨its,
            rv, p, _⟩ := I.list hqx
    obtain ⟨its2,
            rv2, p2, _⟩ := I.tuple hqy
    obtain ⟨u,
            hu, ru⟩ := rv.get hx
    obtain ⟨u2,
            hu2, ru2⟩ := rv2.get hy
    have below : ∀ c, c ∈ [z, TI, TO, i1, i2] → c < s.heap.objs.size := fun c hcm => by
      have e' : c =
              z ∨ c = TI ∨ c = TO ∨ c = i1 ∨ c = i2 := by simpa using hcm
      obtain ⟨_, e1, _⟩ := id h1
      obtain ⟨_, e2, _⟩ := id h2
      rcases e' with rfl | rfl | rfl | rfl | rfl
      · exact Heap.lt_size hz
      · exact Heap.lt_size hTI
      · exact Heap.lt_size hTO
      · exact Heap.lt_size e1
      · exact Heap.lt_size e2
    refine next_item (src_list (xs := its.toArray) D.l1i1) (src_tup (xs := its2.toArray) D.l2i2) D ⟨hz, hTI, hTO, ⟨h1, p.isList⟩, ⟨h2, p2⟩⟩ (x := u) (y := u2) (by simpa using hu) (by simpa using hu2) fun h' z' TO' r1 r2 hT hsz hk => ?_
    refine ⟨_,
            rfl, wpAny_letOwnedTupleGo_zip (s := { s with heap := h' }) z' fun h'' z'' sb => ?_⟩
    have hT2 : h''.get? s.heap.objs.size = some { cls := .type "tuple", data := .seq #[u, u2] } := (sb.2 _ (Nat.ne_of_gt (below z (by simp)))).trans hT
    have new : ObjOk X.prog X.w (upd H s.heap.objs.size (.tup [x, y])) h'' s.heap.objs.size (.tup [x, y]) := ⟨by show 2 ≤ sizeLine; decide, [u, u2], .cons ru (.cons ru2 .nil), ⟨_, hT2, rfl, _, rfl⟩⟩
    have I1 : Inv X pins σ (upd H s.heap.objs.size (.tup [x, y])) { s with heap := h'' } := I.turnedNew (t' := s.toks) (ch := [z, TI, TO, i1, i2])
      (fun c o hb q => (sb.2 c (fun q' => hb (by simp [q']))).trans (hk c o (fun q' => hb (by simp [q'])) (fun q' => hb (by simp [q'])) (fun q' => hb (by simp [q'])) (fun q' => hb (by simp [q'])) q)) hf (Nat.le_refl _) new
    refine ⟨.ref s.heap.objs.size, _, I1, rfl, ⟨_, x, y, rfl, I.hok.fresh (Nat.le_refl _), rfl, fun l hl => by rw [I.list_inj hl hqx]; exact hx, fun l hl => by rw [I.tuple_inj hl hqy]; exact hy⟩,
      ⟨z'', (sb.2 _ D.TIz).trans (hk _ _ D.TIz D.TITO D.TIi1 D.TIi2 hTI), ⟨u, u2, (sb.2 _ D.TOz).trans TO'⟩, r1.1.at fun o q => (sb.2 _ D.i1z).trans q, r2.1.at fun o q => (sb.2 _ D.i2z).trans q⟩, fun c hcm => ?_⟩
    rw [upd_ne (Nat.ne_of_lt (below c hcm))]
    exact (hf c hcm).1
  done := by
    intro X hP hw hK hc i pins s σ H E I hf st hg; subst hP hw hK
    obtain ⟨hz,
            hTI, ⟨x0, y0, hTO⟩, h1, h2⟩ := st
    obtain ⟨xs,
            ys, hqx, hqy, hend⟩ := hg
    obtain ⟨its,
            rv, p, _⟩ := I.list hqx
    obtain ⟨its2,
            rv2, p2, _⟩ := I.tuple hqy
    have l1 := rv.length
    have l2 := rv2.length
    have he : its.toArray[i]? = none ∨ its2.toArray[i]? = none := hend.imp (fun q => by simp; omega) fun q => by simp; omega
    exact next_fin (I.ok.hd hc) (src_list (xs := its.toArray) D.l1i1) (src_tup (xs := its2.toArray) D.l2i2) D ⟨hz, hTI, hTO, ⟨h1, p.isList⟩, ⟨h2, p2⟩⟩ he fun h' hk => ⟨rfl, I.turnedL (t' := s.toks) (ch := [z, TI, TO, i1, i2])
      (fun c o hb q => hk c o (fun q' => hb (by simp [q'])) (fun q' => hb (by simp [q'])) (fun q' => hb (by simp [q'])) (fun q' => hb (by simp [q'])) q) hf⟩
  self := fun A j s Q E st h => wpAny_pyIter_zip st.1 h
def iZipM (K : PySem.W.Frag) (ta : TA) : TI := fun σ H R => ta σ H fun vs H1 => ∃ a b xs ys, vs = [.ref a, .ref b] ∧ SqL K H1 a xs ∧ SqT K H1 b ys ∧ R (ItzM K a b) H1
theorem pi_zipM {X : Cx} {K : PySem.W.Frag} {e e2 : Expr} {ta : TA} {p pos tpos : Pos} {elts : List Expr} {kk : Nat} (hK : X.K = K) (hg : Gl X "zip") (hm : X.mg "zip" = none) (ha : PA X [e, e2] ta)
    (hs : starEach [e,
            e2] X.env = (false, eval e X.env) :: starEach [e2] X.env := by rfl) (hpl : (backTo pos (starEach [e2] X.env)).any (·.1) = false := by rfl) :
    PI X (.Tuple elts kk tpos) (.Call (.Name "zip" p) [e, e2] [] pos) (iZipM K ta) := by
  subst hK
  refine ⟨fun pins s σ H R I h => ?_⟩; refine Call_ (ld_blt I hg hm PyProof.Rows.boot_zip (PyProof.Rows.callWith_type1 (thn (ha.run pos pins s σ H _ I h) fun us s1 ⟨vs, H1, I1, r1, q1⟩ => ?_) hs hpl))
  obtain ⟨a,
          b, xs, ys, ex, hqx, hqy, q⟩ := q1
  subst ex
  obtain ⟨v1, v2, rfl, ra, rb⟩ := vals2 r1
  cases (show v1 = Value.ref a from ra)
  cases (show v2 = Value.ref b from rb)
  obtain ⟨its,
          rv, p1, _⟩ := I1.list hqx
  obtain ⟨its2,
          rv2, p2, _⟩ := I1.tuple hqy
  obtain ⟨o2, ho2, _⟩ := id p2
  refine call_zipLT p1.isList (show s1.heap.IsTuple b its2.toArray from p2) fun h' hz hTI hTO h1 h2 hk => wpAny_pyIter_zip hz ?_
  have I2 : Inv X pins σ H1 { s1 with heap :=
          h' } := I1.kept (t' := s1.toks) hk
  refine ⟨s1.heap.objs.size + 4, [s1.heap.objs.size + 4, s1.heap.objs.size + 2, s1.heap.objs.size + 3, s1.heap.objs.size, s1.heap.objs.size + 1], _, _, H1, rfl, I2, turn_zipM (PySem.W.ktu_apart s1.heap.objs.size a b p1.lt (Heap.lt_size ho2)), ⟨hz, hTI, ⟨_, _, hTO⟩, h1, h2⟩, fun c hcm => ?_, q⟩
  have hle : s1.heap.objs.size ≤
          c := by
    have e' : c =
            s1.heap.objs.size + 4 ∨ c = s1.heap.objs.size + 2 ∨ c = s1.heap.objs.size + 3 ∨ c = s1.heap.objs.size ∨ c = s1.heap.objs.size + 1 := by simpa using hcm
    rcases e' with z | z | z | z | z <;> rw [z] <;> first | exact Nat.le_add_right _ _ | exact Nat.le_refl _
  exact I1.fpOk hle
          (I1.hok.fresh hle)
section
variable {K : PySem.W.Frag} {a b : Addr} {xs ys : List V} {g : TG} {tb : TS} {D : Ends} {σ : L2.St} {H H1 : Hp}
theorem w_iZipM {ta : TA} {R : It → Hp → Prop} (h : ta σ H fun vs H1 => ∃ a b xs ys, vs = [.ref a, .ref b] ∧ SqL K H1 a xs ∧ SqT K H1 b ys ∧ R (ItzM K a b) H1) : iZipM K ta σ H R := h
theorem loopZM {α : Type} {R : V → V → α → Prop} (zs : List α) (lx : xs.length = zs.length) (ly : ys.length = zs.length) (hz : ∀ (i : Nat) x y, xs[i]? = some x → ys[i]? = some y → ∃ z, zs[i]? = some z ∧ R x y z)
    (Pv : List α → L2.St → Hp → Prop) (h0 : Pv zs σ H) (hl : ∀ r σ H, Pv r σ H → SqL K H a xs ∧ SqT K H b ys)
    (hs : ∀ x y z r σ H T, R x y z → (∃ d, zs = d ++ z :: r) → H T = none → Pv (z :: r) σ H → g (.ref T) σ (upd H T (.tup [x, y])) fun σ2 H2 => tb { D with nx := Pv r, ct := Pv r, bk := D.nx } σ2 H2) (hd : ∀ σ H, Pv [] σ H → D.nx σ H) :
    ∃ W : Nat → Nat → L2.St → Hp → Prop, (∃ m, W 0 m σ H) ∧ ∀ i m σ H, W i m σ H → ((ItzM K a b).stop i H ∧ D.nx σ H) ∨
      ((ItzM K a b).go i H ∧ ∃ N : L2.St → Hp → Prop, (∀ σ' H', N σ' H' → ∃ m', m' < m ∧ W (i + 1) m' σ' H') ∧ ∀ x H', (ItzM K a b).yld i H x H' → g x σ H' fun σ2 H2 => tb { D with nx := N, ct := N, bk := D.nx } σ2 H2) := by
  refine ⟨fun i m σ H => m = zs.length - i ∧ i ≤ zs.length ∧ Pv (zs.drop i) σ H, ⟨zs.length, by simp, Nat.zero_le _, by simpa using h0⟩, ?_⟩
  rintro i m σ H ⟨rfl, hi, p⟩
  obtain ⟨qa, qb⟩ := hl _ _ _ p
  by_cases lt : i < zs.length
  · have hx : xs[i]? = some (xs[i]'(by omega)) := List.getElem?_eq_getElem _
    have hy : ys[i]? = some (ys[i]'(by omega)) := List.getElem?_eq_getElem _
    refine .inr ⟨⟨xs, ys, _, _, qa, qb, hx, hy⟩, fun σ H => Pv (zs.drop (i + 1)) σ H, fun σ' H' q => ⟨zs.length - (i + 1), by omega, rfl, lt, q⟩, fun v H' z => ?_⟩
    obtain ⟨T, x, y, rfl, hT, rfl, zx, zy⟩ := z
    obtain ⟨z, ez, hr⟩ := hz i x y (zx xs qa) (zy ys qb)
    have e1 : zs.drop i = z :: zs.drop (i + 1) := by
      have e2 : zs[i] = z := by
        rw [List.getElem?_eq_getElem lt] at ez
        exact Option.some.inj ez
      rw [List.drop_eq_getElem_cons lt, e2]
    exact hs x y z (zs.drop (i + 1)) σ H T hr ⟨zs.take i, by rw [← e1]; exact (List.take_append_drop i zs).symm⟩ hT (by rw [← e1]; exact p)
  · have e : i = zs.length := by omega
    refine .inl ⟨⟨xs, ys, qa, qb, .inl (by omega)⟩, hd σ H ?_⟩
    rw [e, List.drop_length] at p
    exact p
end
end LP
open PySem L2
local macro_rules | `(tactic| walk_at "side") => `(tactic| first | rfl | assumption | exact SqL.of (by assumption) | exact SqT.of (by assumption) | exact upd_same | exact SqL.of upd_same | exact SqT.of upd_same | (show _ ≠ _; omega) | omega | (dsimp only; omega) | exact ⟨by omega, by omega⟩ | exact .inl ⟨by omega, by omega⟩ | exact ⟨by decide, by decide, by omega⟩ | decide)
local macro_rules | `(tactic| walk_at "w0") => `(tactic| first
  | with_reducible refine' LP.w_seq ?_
  | with_reducible refine' LP.w_asg ?_
  | with_reducible refine' LP.w_ifS ?_
  | with_reducible refine' LP.w_ret ?_
  | with_reducible refine' LP.w_drop ?_
  | with_reducible refine' LP.w_next ?_
  | with_reducible refine' LP.w_retN ?_
  | with_reducible refine' LP.w_gName ?_
  | with_reducible refine' LP.w_op ?_
  | with_reducible refine' LP.w_c ?_
  | ((with_reducible refine' LP.w_var ?e ?_); (case e => rfl))
  | with_reducible refine' LP.w_kb ?_
  | with_reducible refine' LP.w_test ?_
  | with_reducible refine' LP.w_B ?_
  | with_reducible refine' LP.w_I0 ?_
  | ((with_reducible refine' LP.w_I ?e ?_); (case e => walk_at "side"))
  | with_reducible refine' LP.w_and ?_
  | with_reducible refine' LP.w_or ?_
  | with_reducible refine' LP.w_not ?_
  | with_reducible refine' LP.w_andV ?_
  | with_reducible refine' LP.w_orV ?_
  | with_reducible refine' LP.w_notV ?_
  | with_reducible refine' LP.w_ifE ?_
  | with_reducible refine' LP.w_nil ?_
  | with_reducible refine' LP.w_cons ?_
  | with_reducible refine' LP.w_tup ?_
  | with_reducible refine' LP.w_lst ?_
  | with_reducible refine' LP.w_CB ?_
  | with_reducible refine' LP.w_call ?_
  | with_reducible refine' LP.w_chain ?_
  | ((with_reducible refine' LP.w_ixL ?h ?e ?_); (case h => walk_at "side"); (case e => rfl))
  | ((with_reducible refine' LP.w_ixT ?h ?e ?_); (case h => walk_at "side"); (case e => rfl))
  | ((with_reducible refine' LP.w_eq ?e ?_); (case e => rfl))
  | ((with_reducible refine' LP.w_ne ?e ?_); (case e => rfl))
  | with_reducible refine' LP.w_int1 ?_
  | with_reducible refine' LP.w_intB ?_
  | with_reducible refine' LP.w_abs ?_
  | with_reducible refine' LP.w_max2 ?_
  | with_reducible refine' LP.w_min2 ?_
  | ((with_reducible refine' LP.w_lenL ?h ?_); (case h => walk_at "side"))
  | ((with_reducible refine' LP.w_lenT ?h ?_); (case h => walk_at "side"))
  | ((with_reducible refine' LP.w_lenStr ?h ?_); (case h => walk_at "size"))
  | with_reducible refine' LP.w_isN ?_
  | with_reducible refine' LP.w_notN ?_
  | with_reducible refine' LP.w_inSg ?_
  | with_reducible refine' LP.w_M0 ?_
  | with_reducible refine' LP.w_M1 ?_
  | with_reducible refine' LP.w_str ?_
  | with_reducible refine' LP.w_isB ?_
  | ((with_reducible refine' LP.w_upper ?h ?_); (case h => walk_at "size"))
  | with_reducible refine' LP.w_BM ?_
  | with_reducible refine' LP.w_BM0 ?_
  | with_reducible refine' LP.w_tyS ?_
  | ((with_reducible refine' LP.w_tyL ?h ?_); (case h => walk_at "side"))
  | ((with_reducible refine' LP.w_app ?h ?e ?_); (case h => walk_at "side"); (case e => walk_at "size"))
  | ((with_reducible refine' LP.w_addS ?h ?_); (case h => walk_at "size"))
  | with_reducible refine' LP.w_sl ?_
  | with_reducible refine' LP.w_noPart ?_
  | with_reducible refine' LP.w_part ?_
  | with_reducible refine' LP.w_ki ?_
  | ((with_reducible refine' LP.w_slS ?h ?_); (case h => walk_at "size"))
  | with_reducible refine' LP.w_tru ?_
  | ((with_reducible refine' LP.w_truL ?h ?_); (case h => walk_at "side"))
  | with_reducible refine' LP.w_gSub ?_
  | ((with_reducible refine' LP.w_setL ?h ?e ?_); (case h => walk_at "side"); (case e => rfl))
  | with_reducible refine' LP.w_iList ?_
  | ((with_reducible refine' LP.w_kList ?h ?_); (case h => walk_at "side"))
  | with_reducible refine' LP.w_iTup ?_
  | ((with_reducible refine' LP.w_kTup ?h ?_); (case h => walk_at "side"))
  | with_reducible refine' LP.w_iRng1 ?_
  | ((with_reducible refine' LP.w_kRng1 ?h ?e ?_); (case h => walk_at "side"); (case e => walk_at "side"))
  | with_reducible refine' LP.w_iStr ?_
  | with_reducible refine' LP.w_kStr ?_
  | with_reducible refine' LP.w_iRev ?_
  | ((with_reducible refine' LP.w_kRev ?h ?_); (case h => walk_at "side"))
  | with_reducible refine' LP.w_for ?_
  | with_reducible refine' LP.w_dget ?_
  | with_reducible refine' LP.w_din ?_
  | with_reducible refine' LP.w_dput ?_
  | with_reducible refine' LP.w_smeth ?_
  | with_reducible refine' LP.w_cmeth ?_
  | ((with_reducible refine' LP.w_makeL ?h ?_); (case h => rfl))
  | with_reducible refine' LP.w_iEnumk ?_
  | ((with_reducible refine' LP.w_kEnumk ?h ?h0 ?h1 ?_); (case h => walk_at "side"); (case h0 => decide); (case h1 => decide))
  | with_reducible refine' LP.w_iEnum ?_
  | with_reducible refine' LP.w_jn ?_
  | with_reducible refine' LP.w_ostL ?_
  | with_reducible refine' LP.w_raiseL ?_
  | with_reducible refine' LP.w_os2 ?_
  | with_reducible refine' LP.w_raiseV ?_
  | with_reducible refine' LP.w_sfld ?_
  | with_reducible refine' LP.w_dnew ?_
  | with_reducible refine' LP.w_jcons ?_
  | with_reducible refine' LP.w_jnil ?_
  | with_reducible refine' LP.w_fmt ?_
  | with_reducible refine' LP.w_iKeys ?_
  | ((with_reducible refine' LP.w_kEnum ?h ?_); (case h => walk_at "side"))
  | with_reducible refine' LP.w_iZip ?_
  | ((with_reducible refine' LP.w_kZip ?h1 ?h2 ?_); (case h1 => walk_at "side"); (case h2 => walk_at "side"))
  | with_reducible refine' LP.w_iEnumT ?_
  | ((with_reducible refine' LP.w_kEnumT ?h ?_); (case h => walk_at "side"))
  | with_reducible refine' LP.w_fldT ?_
  | with_reducible refine' LP.w_dnotin ?_
  | with_reducible refine' LP.w_neg ?_
  | with_reducible refine' LP.w_rU ?_
  | with_reducible refine' LP.w_methT ?_
  | with_reducible refine' LP.w_yes ?_
  | ((with_reducible refine' LP.w_gTup ?h ?e ?_); (case h => walk_at "side"); (case e => rfl))
  | with_reducible refine' LP.w_gCons ?_
  | with_reducible refine' LP.w_gNil ?_
  | with_reducible refine' LP.w_par ?_
  | ((with_reducible refine' LP.w_size ?e ?_); (case e => walk_at "size"))
  | ((with_reducible refine' LP.w_rfl ?e ?_); (case e => rfl))
  | with_reducible refine' LP.w_kPar ?_
  | with_reducible refine' LP.iteNF ?_
  | with_reducible refine' LP.iteNT ?_
  | with_reducible refine' L2.iteT ?_
  | with_reducible refine' L2.iteF ?_)
local macro_rules | `(tactic| walk_at "w1") => `(tactic| first | walk_at "w0" | with_reducible refine' LP.w_lc ?_)
local macro_rules | `(tactic| walk_at "w") => `(tactic| repeat walk_at "w1")
local macro_rules | `(tactic| walk_at "ws") => `(tactic| repeat walk_at "w0")
local macro_rules | `(tactic| walk_at "size") => `(tactic| first | assumption | decide | (refine Nat.le_trans ?_ (show 100000 ≤ sizeLine by decide); (first | assumption | omega | (simp only [List.length_cons, List.length_nil, List.length_append, List.length_map]; omega) | (simp; done))) | (refine Nat.lt_of_lt_of_le ?_ (show 100000 ≤ sizeLine by decide); (first | assumption | omega | (simp only [List.length_cons, List.length_nil, List.length_append, List.length_map]; omega) | (simp; done))) | omega)
local macro_rules | `(tactic| walk_at "js") => `(tactic| (refine LP.small_le ?_; first | omega | (simp only [LP.len_cat, LP.lenE, LP.lenS1, LP.lenS2, LP.lenS3, LP.lenS4, LP.lenS5, LP.lenS6, LP.lenS7]; omega)))
namespace LP
open PySem L2
open Evl (Ex)
/-- what the module's own constants hold -/
structure Cns (K : PySem.W.Frag) (mg : Str → Option Value) (ra C : Addr) : Prop where
  MOST_LETTERS_ : ∃ u, mg "MOST_LETTERS" = some u ∧ RelV (.int 8) u
  MOST_TABLES_ : ∃ u, mg "MOST_TABLES" = some u ∧ RelV (.int 6) u
  MOST_COLUMNS_ : ∃ u, mg "MOST_COLUMNS" = some u ∧ RelV (.int 6) u
  RESERVED_ : ∃ u, mg "RESERVED" = some u ∧ RelV (.ref ra) u
  res : ∀ H : Hp, SqT K H ra (reservedL.map V.str)
  Schema_ : ∃ u, mg "Schema" = some u ∧ RelV (.ref C) u
/-- a question about one value, answered by what it is -/
def spAsk (K : PySem.W.Frag) (f : PyData → Bool) : Sp := fun vs H Q _ => ∃ (v : V) (d : PyData), vs = [v] ∧ Dp K H v d ∧ (∀ x, d = .str x → x.length ≤ 4000) ∧ Q (.bl (f d)) H
def spIsLink : Sp := fun vs H Q _ => ∃ (v : V) (c : Col), vs = [v] ∧ ColAt H v c ∧ Q (.bl c.isLink) H
def spHasList : Sp := fun vs H Q _ => ∃ (v : V) (c : Col), vs = [v] ∧ ColAt H v c ∧ Q (.bl c.lst.isSome) H
def spMayLack : Sp := fun vs H Q _ => ∃ (v : V) (c : Col), vs = [v] ∧ ColAt H v c ∧ Q (.bl c.opt) H
section
variable {base : Heap} {mg : Str → Option Value} {K : PySem.W.Frag} {w : World} {P : Program} {ra C : Addr}
theorem ok_is_letters {f : Addr} {fd : FuncData} (D : C8.Def K mg "is_letters" s_is_letters f fd) (b : Binds K fd ["value"] []) (B : Blt mg) : C8.Cal P w K mg base 1 "is_letters" (spAsk K (strD lettersB)) [] := by
  have sc : FnScope ["value"] ["value"] (C8.fnScope s_is_letters) := C8.fnScope_by (by decide +kernel)
  refine C8.cal0 D b .nil sc (fun vs H Q E h => ?_) (fun cdv A outer s H vs Q E hr h => ?_)
  · obtain ⟨_, _, rfl, _⟩ := h
    rfl
  · obtain ⟨v, d, rfl, hd, hl, k⟩ := h
    refine ⟨_, (pss_one (ps_ret (pe_and (pe_callB (call_isiK1 (K := K) rfl) (by rfl) B.isinstance_ (by decide +kernel) (pa_cons (pv 0) (pa_cons (pe_bltn (v := .ty "str") (u := .type "str") (by rfl) B.str_ (by decide +kernel) rfl) pa_nil))) (pe_and (pe_bm0K (K := K) rfl PySem.F.plainAttrs_str PySem.F.slot_str_isascii PySem.F.type_str_isascii mt_isascii' (pv 0)) (pe_and (pe_m0 PySem.F.slot_str_isalpha PySem.F.type_str_isalpha mt_isalpha' (pv 0)) (pe_one (pe_bm0K (K := K) rfl PySem.F.plainAttrs_str PySem.F.slot_str_islower PySem.F.type_str_islower mt_islower' (pv 0)))))))), ?_⟩
    walk_at "w"
    refine w_isStr hd ?_
    cases hd with
    | str x =>
      have k : Q (.bl (Txt.isascii x && (Txt.isalpha x && Txt.islower x))) H := k
      unfold isStrD
      walk_at "w"
      refine iteB (fun h1 => ?_) (fun h1 => ?_)
      · rw [h1] at k
        walk_at "w"
        refine iteB (fun h2 => ?_) (fun h2 => ?_)
        · rw [h2] at k
          walk_at "w"
          exact k
        · rw [h2] at k
          exact k
      · rw [h1] at k
        exact k
    | _ => exact ⟨false, rfl, iteF k⟩
theorem ok_is_word {f : Addr} {fd : FuncData} (D : C8.Def K mg "is_word" s_is_word f fd) (b : Binds K fd ["value"] []) (B : Blt mg) (T : Cns K mg ra C)
    (c_is_letters : C8.Cal P w K mg base 1 "is_letters" (spAsk K (strD lettersB)) []) : C8.Cal P w K mg base 2 "is_word" (spAsk K (strD wordB)) [] := by
  have sc : FnScope ["value"] ["value"] (C8.fnScope s_is_word) := C8.fnScope_by (by decide +kernel)
  refine C8.cal0 D b .nil sc (fun vs H Q E h => ?_) (fun cdv A outer s H vs Q E hr h => ?_)
  · obtain ⟨_, _, rfl, _⟩ := h
    rfl
  · obtain ⟨v, d, rfl, hd, hl, k⟩ := h
    refine ⟨_, (pss_one (ps_ret (pe_and (C8.pe_c c_is_letters hr (by decide) rfl (pa_cons (pv 0) pa_nil)) (pe_one (pe_cmpR op_le (pe_callB call_len_str' (by rfl) B.len_ (by decide +kernel) (pa_cons (pv 0) pa_nil)) (C8.pe_gc rfl T.MOST_LETTERS_) (nomark _)))))), ?_⟩
    walk_at "w"
    refine ⟨v, d, rfl, hd, hl, ?_⟩
    cases hd with
    | str x =>
      have k : Q (.bl (lettersB x && decide (x.length ≤ 8))) H := k
      show ∃ c, V.bl (lettersB x) = .bl c ∧ _
      walk_at "w"
      refine iteB (fun h1 => ?_) (fun h1 => ?_)
      · rw [h1] at k
        walk_at "w"
        refine w_lenStr (Nat.le_trans (hl x rfl) (by decide)) ?_
        walk_at "w"
        rw [show decide ((x.length : Int) ≤ 8) = decide (x.length ≤ 8) by simp only [decide_eq_decide]; omega]
        exact k
      · rw [h1] at k
        exact k
    | _ => exact ⟨false, rfl, iteF k⟩
theorem ok_is_link {f : Addr} {fd : FuncData} (D : C8.Def K mg "is_link" s_is_link f fd) (b : Binds K fd ["column"] []) : C8.Cal P w K mg base 1 "is_link" spIsLink [] := by
  have sc : FnScope ["column"] ["column"] (C8.fnScope s_is_link) := C8.fnScope_by (by decide +kernel)
  refine C8.cal0 D b .nil sc (fun vs H Q E h => ?_) (fun cdv A outer s H vs Q E hr h => ?_)
  · obtain ⟨_, _, rfl, _⟩ := h
    rfl
  · obtain ⟨v, c, rfl, ⟨a, rfl, ha⟩, k⟩ := h
    refine ⟨_, (pss_one (ps_ret (pe_cmpR op_eq (pe_ix (ix_tupK (K := K) rfl) (pv 0) pe_int (fun _ _ => rfl)) pe_str (nomark _)))), ?_⟩
    walk_at "w"
    refine w_ixT (SqT.of ha) c.at0 ?_
    walk_at "w"
    rw [c.kind_link]
    exact k
theorem ok_has_list {f : Addr} {fd : FuncData} (D : C8.Def K mg "has_list" s_has_list f fd) (b : Binds K fd ["column"] []) (c_is_link : C8.Cal P w K mg base 1 "is_link" spIsLink []) : C8.Cal P w K mg base 2 "has_list" spHasList [] := by
  have sc : FnScope ["column"] ["column"] (C8.fnScope s_has_list) := C8.fnScope_by (by decide +kernel)
  refine C8.cal0 D b .nil sc (fun vs H Q E h => ?_) (fun cdv A outer s H vs Q E hr h => ?_)
  · obtain ⟨_, _, rfl, _⟩ := h
    rfl
  · obtain ⟨v, c, rfl, ⟨a, rfl, ha⟩, k⟩ := h
    refine ⟨_, (pss_one (ps_ret (pe_and (C8.pe_c c_is_link hr (by decide) rfl (pa_cons (pv 0) pa_nil)) (pe_one (pe_cmpR op_notN' (pe_ix (ix_tupK (K := K) rfl) (pv 0) pe_int (fun _ _ => rfl)) pe_non (nomark _)))))), ?_⟩
    walk_at "w"
    refine ⟨_, c, rfl, ⟨a, rfl, ha⟩, ?_⟩
    walk_at "w"
    refine iteB (fun h => ?_) (fun h => ?_)
    · walk_at "w"
      refine w_ixT (SqT.of ha) (Col.at4 h) ?_
      walk_at "w"
      rw [vOpt_non]
      exact k
    · have e : c.lst.isSome = false := by cases c <;> first | rfl | cases h
      rw [e] at k
      exact k
theorem ok_may_lack {f : Addr} {fd : FuncData} (D : C8.Def K mg "may_lack" s_may_lack f fd) (b : Binds K fd ["column"] []) (c_is_link : C8.Cal P w K mg base 1 "is_link" spIsLink []) : C8.Cal P w K mg base 2 "may_lack" spMayLack [] := by
  have sc : FnScope ["column"] ["column"] (C8.fnScope s_may_lack) := C8.fnScope_by (by decide +kernel)
  refine C8.cal0 D b .nil sc (fun vs H Q E h => ?_) (fun cdv A outer s H vs Q E hr h => ?_)
  · obtain ⟨_, _, rfl, _⟩ := h
    rfl
  · obtain ⟨v, c, rfl, ⟨a, rfl, ha⟩, k⟩ := h
    refine ⟨_, (pss_cons (ps_if (pt_val (C8.pe_c c_is_link hr (by decide) rfl (pa_cons (pv 0) pa_nil)))
        (pss_one (ps_ret (pe_ix (ix_tupK (K := K) rfl) (pv 0) pe_int (fun _ _ => rfl))))
        pss_nil)
        (pss_one (ps_ret (pe_and (pe_cmpR op_eq (pe_ix (ix_tupK (K := K) rfl) (pv 0) pe_int (fun _ _ => rfl)) pe_str (nomark _)) (pe_one (pe_ix (ix_tupK (K := K) rfl) (pv 0) pe_int (fun _ _ => rfl))))))), ?_⟩
    walk_at "w"
    refine ⟨_, c, rfl, ⟨a, rfl, ha⟩, ?_⟩
    walk_at "w"
    cases c with
    | link n t o l =>
      refine iteT ?_
      walk_at "w"
      exact k
    | plain fl n =>
      have e : decide (V.str (if fl = true then "flag" else "number") = V.str "word") = false := by
        cases fl with
        | true => show decide (V.str "flag" = V.str "word") = false; decide +kernel
        | false => show decide (V.str "number" = V.str "word") = false; decide +kernel
      refine iteF ?_
      walk_at "w"
      rw [e]
      exact iteF k
    | word n o =>
      refine iteF ?_
      walk_at "w"
      rw [show decide (V.str (Str.ofString "word") = V.str (Str.ofString "word")) = true from decide_eq_true rfl]
      refine iteT ?_
      walk_at "w"
      exact k
end
end LP
namespace LP
open PySem L2
open Evl (Ex)
def spTake : Sp := fun vs H Q _ => ∃ (b : Addr) (many : Int) (n : Nat), vs = [.ref b, .int many] ∧ BagAt H b n ∧ n < 100000000 ∧ 1 ≤ many ∧ many < 1073741824 ∧
  ∀ (z : Int) (H' : Hp), 0 ≤ z → z < many → BagAt H' b (n + 1) → Ex (del b H) H' → Q (.int z) H'
section
variable {base : Heap} {mg : Str → Option Value} {K : PySem.W.Frag} {w : World} {P : Program}
theorem ok_take {f : Addr} {fd : FuncData} (D : C8.Def K mg "_law_take" s__law_take f fd) (b : Binds K fd ["bag", "many"] []) (B : Blt mg) : C8.Cal P w K mg base 1 "_law_take" spTake [] := by
  have sc : FnScope ["bag", "many", "digit", "turn", "mixed"] ["bag", "many"] (C8.fnScope s__law_take) := C8.fnScope_by (by decide +kernel)
  refine C8.cal0 D b .nil sc (fun vs H Q E h => ?_) (fun cdv A outer s H vs Q E hr h => ?_)
  · obtain ⟨_, _, _, rfl, _⟩ := h
    rfl
  · obtain ⟨b, many, n, rfl, hB, hn, hm1, hm2, k⟩ := h
    obtain ⟨d, m, t, hb, h1, h2, h3, h4, h5⟩ := hB.ex
    refine ⟨_, (pss_cons (ps_if (pt_cmpR op_gt (pe_ix (ix_listK (K := K) rfl) (pv 0) pe_int (fun _ _ => rfl)) pe_int (nomark _))
        (pss_cons (ps_set (i := 2) sc.nd rfl (Or.inl rfl) (pe_op op_modN (pe_callTy call_int1' (by rfl) B.int_ (by decide +kernel) (pa_cons (pe_ix (ix_listK (K := K) rfl) (pv 0) pe_int (fun _ _ => rfl)) pa_nil)) (pv 1)))
        (pss_cons (ps_asg (pe_op op_fdivN (pe_ix (ix_listK (K := K) rfl) (pv 0) pe_int (fun _ _ => rfl)) (pv 1)) (pg_sub (pv 0) pe_int set_list))
        (pss_one (ps_ret (pv 2)))))
        pss_nil)
        (pss_cons (ps_asg (pe_op op_add (pe_ix (ix_listK (K := K) rfl) (pv 0) pe_int (fun _ _ => rfl)) pe_int) (pg_sub (pv 0) pe_int set_list))
        (pss_cons (ps_set (i := 3) sc.nd rfl (Or.inl rfl) (pe_ix (ix_listK (K := K) rfl) (pv 0) pe_int (fun _ _ => rfl)))
        (pss_cons (ps_set (i := 4) sc.nd rfl (Or.inl rfl) (pe_op op_modN (pe_callTy call_int1' (by rfl) B.int_ (by decide +kernel) (pa_cons (pe_op op_add (pe_op op_pow (pe_op op_add (pe_ix (ix_listK (K := K) rfl) (pv 0) pe_int (fun _ _ => rfl)) (pe_op op_mul pe_int (pv 3))) pe_int) (pe_op op_mul pe_int (pv 3))) pa_nil)) pe_int))
        (pss_cons (ps_set (i := 4) sc.nd rfl (Or.inl rfl) (pe_op op_modN (pe_callTy call_int1' (by rfl) B.int_ (by decide +kernel) (pa_cons (pe_op op_add (pe_op op_pow (pv 4) pe_int) (pe_op op_mul pe_int (pv 3))) pa_nil)) pe_int))
        (pss_one (ps_ret (pe_op op_modN (pe_callTy call_int1' (by rfl) B.int_ (by decide +kernel) (pa_cons (pe_op op_fdivN (pv 4) pe_int) pa_nil)) (pv 1))))))))), ?_⟩
    try dsimp only [cxOf, Cx.wish, Cx.nox]
    walk_at "w"
    refine iteD (fun hd => ?_) (fun hd => ?_)
    · walk_at "w"
      exact k _ _ (fmod_lo (by omega)) (fmod_hi (by omega)) ⟨d.fdiv many, m, t, upd_same, fdiv_lo h1 (by omega), h2, h3, h4, by omega⟩ ex_upd_bag
    · walk_at "w"
      have hx : 0 ≤ ((m + 15485863 * (t + 1)) ^ Int.toNat 2 + 32452867 * (t + 1)).fmod 2305843009213693951 ∧ ((m + 15485863 * (t + 1)) ^ Int.toNat 2 + 32452867 * (t + 1)).fmod 2305843009213693951 < 2305843009213693951 := ⟨fmod_lo (by decide), fmod_hi (by decide)⟩
      generalize ((m + 15485863 * (t + 1)) ^ Int.toNat 2 + 32452867 * (t + 1)).fmod 2305843009213693951 = M at hx ⊢
      walk_at "w"
      exact k _ _ (fmod_lo (by omega)) (fmod_hi (by omega)) ⟨d, m, t + 1, upd_same, h1, h2, h3, by omega, by omega⟩ ex_upd_bag
end
end LP
namespace LP
open PySem L2
open Evl (Ex)
section
variable {base : Heap} {mg : Str → Option Value} {K : PySem.W.Frag} {w : World} {P : Program}
theorem ok_of {f : Addr} {fd : FuncData} (D : C8.Def K mg "_law_of" s__law_of f fd) (b : Binds K fd ["bag", "some"] []) (B : Blt mg)
    (c__law_take : C8.Cal P w K mg base 1 "_law_take" spTake []) : C8.Cal P w K mg base 2 "_law_of" (spOf K) [] := by
  have sc : FnScope ["bag", "some"] ["bag", "some"] (C8.fnScope s__law_of) := C8.fnScope_by (by decide +kernel)
  refine C8.cal0 D b .nil sc (fun vs H Q E h => ?_) (fun cdv A outer s H vs Q E hr h => ?_)
  · obtain ⟨_, _, _, _, rfl, _⟩ := h
    rfl
  · obtain ⟨b, p, xs, n, rfl, hB, hn, hx, hne, hl, k⟩ := h
    refine ⟨_, (pss_one (ps_ret (pe_ix (ix_listK (K := K) rfl) (pv 1) (C8.pe_c c__law_take hr (by decide) rfl (pa_cons (pv 0) (pa_cons (pe_callB (call_len_seqK (K := K) rfl) (by rfl) B.len_ (by decide +kernel) (pa_cons (pv 1) pa_nil)) pa_nil))) (fun _ _ => rfl)))), ?_⟩
    try dsimp only [cxOf, Cx.wish, Cx.nox]
    have hx' : SqL K H p xs := Evl.ex_l ex_del hx
    have hp : 0 < xs.length := List.length_pos_iff.mpr hne
    walk_at "w"
    refine ⟨b, xs.length, n, rfl, hB, hn, by omega, by omega, fun z H' h0 h1 hB' e => ?_⟩
    obtain ⟨j, rfl⟩ : ∃ j : Nat, z = (j : Int) := ⟨z.toNat, by omega⟩
    have hj : j < xs.length := by omega
    have hx2 : SqL K H' p xs := Evl.ex_l e hx
    refine w_ixL hx2 (atI_nat (List.getElem?_eq_getElem hj)) ?_
    exact k _ H' (List.getElem_mem hj) hB' e
theorem ok_reserved {f : Addr} {fd : FuncData} (D : C8.Def K mg "_law_reserved" s__law_reserved f fd) (b : Binds K fd [] []) :
    C8.Cal P w K mg base 1 "_law_reserved" spReserved [] := by
  have sc : FnScope ["words"] [] (C8.fnScope s__law_reserved) := C8.fnScope_by (by decide +kernel)
  refine C8.cal0 D b .nil sc (fun vs H Q E h => ?_) (fun cdv A outer s H vs Q E hr h => ?_)
  · obtain ⟨rfl, _⟩ := h
    rfl
  · obtain ⟨rfl, k⟩ := h
    refine ⟨_, (pss_cons (ps_set (i := 0) sc.nd rfl (Or.inl rfl) pe_str)
        (pss_one (ps_ret (pe_split' (pv 0) pe_str)))), ?_⟩
    try dsimp only [cxOf, Cx.wish, Cx.nox]
    walk_at "w"
    refine w_split (by decide +kernel) (by decide +kernel) fun p hp => ?_
    have e : Txt.split "all and any as else false for if in is lacks no not or return some super thing true user" " " = reservedL := by decide +kernel
    rw [e]
    exact k p hp
theorem ok_letters {f : Addr} {fd : FuncData} (D : C8.Def K mg "_law_draw_letters" s__law_draw_letters f fd) (b : Binds K fd ["bag", "most"] []) (B : Blt mg)
    (c__law_take : C8.Cal P w K mg base 1 "_law_take" spTake []) : C8.Cal P w K mg base 2 "_law_draw_letters" spLetters [] := by
  have sc : FnScope ["bag", "most", "letters", "many", "turn"] ["bag", "most"] (C8.fnScope s__law_draw_letters) := C8.fnScope_by (by decide +kernel)
  refine C8.cal0 D b .nil sc (fun vs H Q E h => ?_) (fun cdv A outer s H vs Q E hr h => ?_)
  · obtain ⟨_, _, _, rfl, _⟩ := h
    rfl
  · obtain ⟨b, most, n, rfl, hB, hn, h1, h2, k⟩ := h
    refine ⟨_, (pss_cons (ps_set (i := 2) sc.nd rfl (Or.inr rfl) pe_str)
        (pss_cons (ps_set (i := 3) sc.nd rfl (Or.inl rfl) (pe_op op_add pe_int (C8.pe_c c__law_take hr (by decide) rfl (pa_cons (pv 0) (pa_cons (pv 1) pa_nil)))))
        (pss_one (ps_ret (pe_joinK (K := K) rfl pe_str (pe_lc (own := [("turn", 4)]) (g := (gName 4)) (by rfl) sc.nd (pi_range1 (by rfl) B.range_ (pa_cons (pv 3) pa_nil)) (blkOk_by (own := [("turn", 4)]) (N := ["bag", "most", "letters", "many", "turn"]) (sc := C8.fnScope s__law_draw_letters) (by decide +kernel)) (fun _ _ _ _ _ => (pg_name (i := 4) sc.nd rfl (Or.inl rfl))) (fun _ _ _ _ _ => pts_nil) (fun _ _ _ _ _ => (pe_ix ix_str (pv 2) (C8.pe_c c__law_take hr (by decide) rfl (pa_cons (pv 0) (pa_cons pe_int pa_nil))) (fun _ _ => rfl))))))))), ?_⟩
    try dsimp only [cxOf, Cx.wish, Cx.nox]
    walk_at "w"
    refine ⟨b, most, n, rfl, hB, by omega, h1, by omega, fun z H1 z0 z1 hB1 e1 => ?_⟩
    walk_at "w"
    intro D hD
    have bD := hB1.ne_none hD
    have fD : del b H D = none := Evl.fresh_back e1 hD
    refine compR (fun i acc H' => ∃ cs : List Nat, acc = cs.map (fun c => V.str (S [c])) ∧ cs.length = i ∧ (∀ c ∈ cs, 97 ≤ c ∧ c ≤ 122) ∧ BagAt H' b (n + 1 + i) ∧ Ex (del b H) H') (by omega)
      ⟨[], rfl, rfl, (fun _ hc => absurd hc List.not_mem_nil), (hB1.upd bD).mono (by omega), e1.mut fD⟩ (fun i acc H' hi ha hacc ⟨cs, ec, hcs, hlow, hB', e'⟩ kk kn hk hn' => ?_) (fun acc H' ha hacc ⟨cs, ec, hcs, hlow, hB', e'⟩ => ?_)
    · walk_at "w"
      refine ⟨b, 26, n + 1 + i, rfl, hB', by omega, by decide, by decide, fun y H2 y0 y1 hB2 e2 => ?_⟩
      obtain ⟨j, rfl⟩ : ∃ j : Nat, y = (j : Int) := ⟨y.toNat, by omega⟩
      have hj : j < 26 := by omega
      refine w_ixS (c := j + 97) (by decide +kernel) (atI_nat ?_) ?_
      · rw [show (Str.ofString "abcdefghijklmnopqrstuvwxyz").cps.toList = (List.range 26).map (· + 97) from letters_tl]
        simp [hj]
      · have bD2 : D ≠ b := bD.symm
        refine hk _ _ (e2 _ _ (by rw [del_ne bD2]; exact ha)) ⟨cs ++ [j + 97], ?_, ?_, ?_, hB2.upd bD, (ex_dtrans e' e2).mut fD⟩
        · rw [ec, List.map_append]
          rfl
        · rw [List.length_append, hcs]
          rfl
        · intro c hc
          rcases List.mem_append.1 hc with hc | hc
          · exact hlow c hc
          · rw [List.mem_singleton] at hc
            omega
    · have e3 : acc = (cs.map fun c => S [c]).map V.str := by rw [ec, List.map_map]; rfl
      refine w_join (ss := cs.map fun c => S [c]) (SqL.of (e3 ▸ ha)) ?_ ?_
      · have h0 : ∀ l : List Nat, (((l.map fun c => S [c]).map (·.length)).sum) = l.length := fun l => by
          induction l with
          | nil => rfl
          | cons c r ih =>
            rw [List.map_cons, List.map_cons, List.sum_cons, ih, List.length_cons]
            show 1 + r.length =
                    r.length + 1
            omega
        rw [h0, List.length_map, show ((Str.ofString "").length) = 0 by decide +kernel]
        omega
      · rw [show Txt.join (Str.ofString "") (cs.map fun c => S [c]) = S cs from join_chars cs]
        have hl : (S cs).length = cs.length := by simp [Str.length]
        exact k _ _ (by omega) (by omega) hlow (hB'.mono (by omega)) e'
end
end LP
namespace LP
open PySem L2
open Evl (Ex)
/-- the word that stands in for one that is taken -/
def alt (w : Str) (c e : Nat) : Str := S (w.cps.toList.take 6 ++ [c] ++ [e])
theorem alt_inj {w : Str} {c e c' e' : Nat} (h : alt w c e = alt w c' e') : c = c' ∧ e = e' := by
  have := S_inj h
  simpa using this
theorem alt_word {w : Str} {c e : Nat} (hw : Low w) (hc : 97 ≤ c ∧ c ≤ 122) (he : 97 ≤ e ∧ e ≤ 122) : IsWord (alt w c e) := by
  refine ⟨?_, ?_, fun x hx => ?_⟩
  · unfold alt
    rw [S_len]
    simp
  · unfold alt
    rw [S_len]
    simp
    omega
  · have hx : x ∈ w.cps.toList.take 6 ++ [c] ++ [e] := hx
    simp only [List.mem_append, List.mem_singleton] at hx
    rcases hx with (hx | rfl) | rfl
    · exact hw x (List.mem_of_mem_take hx)
    · exact hc
    · exact he
theorem pairs_nodup {l m : List Nat} (hl : l.Nodup) (hm : m.Nodup) : (l.flatMap fun c => m.map fun e => (c, e)).Nodup := by
  induction l with
  | nil => exact List.nodup_nil
  | cons c r ih =>
    have h := List.nodup_cons.mp hl
    rw [List.flatMap_cons]
    refine List.nodup_append.mpr ⟨?_, ih h.2, ?_⟩
    · exact List.pairwise_map.mpr (List.Pairwise.imp (R := (· ≠ ·)) (fun {x y} hne exy => hne (Prod.mk.inj exy).2) hm)
    · intro x hx y hy e
      obtain ⟨e1, _, rfl⟩ := List.mem_map.mp hx
      obtain ⟨c', hc', hy⟩ := List.mem_flatMap.mp hy
      obtain ⟨e2, _, rfl⟩ := List.mem_map.mp hy
      have := (Prod.mk.inj e).1
      exact h.1 (this ▸ hc')
theorem pairs_len (l m : List Nat) : (l.flatMap fun c => m.map fun e => (c, e)).length = l.length * m.length := by
  induction l with
  | nil => simp
  | cons c r ih =>
    rw [List.flatMap_cons, List.length_append, ih, List.length_map, List.length_cons, Nat.succ_mul]
    omega
theorem alt_all {w : Str} {m : List (Option Str)} (h : ∀ c ∈ lettersS.cps.toList, ∀ e ∈ lettersS.cps.toList, some (alt w c e) ∈ m) : 676 ≤ m.length := by
  have ln : lettersS.cps.toList.Nodup := by rw [letters_tl]; decide
  have nd : ((lettersS.cps.toList.flatMap fun c => lettersS.cps.toList.map fun e => (c, e)).map fun p => some (alt w p.1 p.2)).Nodup := by
    refine List.pairwise_map.mpr (List.Pairwise.imp (R := (· ≠ ·)) (fun {x y} hne exy => ?_) (pairs_nodup ln ln))
    obtain ⟨h1, h2⟩ := alt_inj (Option.some.inj exy)
    exact hne (Prod.ext h1 h2)
  have := pigeon (m := m) nd fun x hx => by
    obtain ⟨p, hp, rfl⟩ := List.mem_map.mp hx
    obtain ⟨c, hc, hp⟩ := List.mem_flatMap.mp hp
    obtain ⟨e, he, rfl⟩ := List.mem_map.mp hp
    exact h c hc e he
  rw [List.length_map, pairs_len, letters_tl] at this
  simpa using this
theorem letters_in {c : Nat} (h : c ∈ lettersS.cps.toList) : 97 ≤ c ∧ c ≤ 122 := by
  rw [letters_tl] at h
  obtain ⟨j, hj, rfl⟩ := List.mem_map.mp h
  have := List.mem_range.mp hj
  omega
section
variable {base : Heap} {mg : Str → Option Value} {K : PySem.W.Frag} {w : World} {P : Program}
theorem ok_new_name {f : Addr} {fd : FuncData} (D : C8.Def K mg "_law_new_name" s__law_new_name f fd) (b : Binds K fd ["bag", "taken"] [])
    (c__law_draw_letters : C8.Cal P w K mg base 2 "_law_draw_letters" spLetters []) (c__law_reserved : C8.Cal P w K mg base 1 "_law_reserved" spReserved []) :
    C8.Cal P w K mg base 3 "_law_new_name" (spNewName K) [] := by
  have sc : FnScope ["bag", "taken", "word", "first", "last", "other"] ["bag", "taken"] (C8.fnScope s__law_new_name) := C8.fnScope_by (by decide +kernel)
  refine C8.cal0 D b .nil sc (fun vs H Q E h => ?_) (fun cdv A outer s H vs Q E hr h => ?_)
  · obtain ⟨_, _, _, _, rfl, _⟩ := h
    rfl
  · obtain ⟨b, t, xs, n, rfl, hB, hn, hx, hl, k⟩ := h
    refine ⟨_, (pss_cons (ps_set (i := 2) sc.nd rfl (Or.inl rfl) (C8.pe_c c__law_draw_letters hr (by decide) rfl (pa_cons (pv 0) (pa_cons pe_int pa_nil))))
        (C8.pss_cut (ps_if (PW.pt (pw_and (pt_cmpR (op_notIn_seqK (K := K) rfl) (pv 2) (pv 1) (by rfl)) (pw_and1 (pt_cmpR (op_notIn_seqK (K := K) rfl) (pv 2) (pe_c0 c__law_reserved hr (by decide) rfl) (by rfl)))))
        (pss_one (ps_ret (pv 2)))
        pss_nil)
        (pss_cons (ps_for PassesOwn.never rfl (pi_str pe_str) (pg_name (i := 3) sc.nd rfl (Or.inl rfl))
        (pss_one (ps_for PassesOwn.never rfl (pi_str pe_str) (pg_name (i := 4) sc.nd rfl (Or.inl rfl))
        (pss_cons (ps_set (i := 5) sc.nd rfl (Or.inl rfl) (pe_op op_add_str' (pe_op op_add_str' (pe_slice sl_str (pv 2) po_none (po_some pe_int)) (pv 3)) (pv 4)))
        (pss_one (ps_if (PW.pt (pw_and (pt_cmpR (op_notIn_seqK (K := K) rfl) (pv 5) (pv 1) (by rfl)) (pw_and1 (pt_cmpR (op_notIn_seqK (K := K) rfl) (pv 5) (pe_c0 c__law_reserved hr (by decide) rfl) (by rfl)))))
        (pss_one (ps_ret (pv 5)))
        pss_nil))))))
        (pss_one (ps_ret (pv 2)))))), ?_⟩
    try dsimp only [cxOf, Cx.wish, Cx.nox]
    walk_at "w"
    refine ⟨b, 8, n, rfl, hB, by omega, by decide, by decide, fun w H1 w1 w2 hw hB1 e1 => ?_⟩
    walk_at "w"
    refine ⟨fun σ' H' => σ' = [some (.ref b), some (.ref t), some (.str w), none, none, none] ∧ Ex H1 H', ?_, ?_⟩
    · walk_at "w"
      refine w_notInOpt (Evl.ex_l e1 hx) ?_
      walk_at "w"
      refine iteND (fun h1 => ?_) (fun h1 => ?_)
      · walk_at "w"
        refine ⟨rfl, fun p hp => ?_⟩
        refine w_notInStr (xs := reservedL) (SqL.of upd_same) ?_
        walk_at "w"
        refine iteND (fun h2 => ?_) (fun h2 => ?_)
        · walk_at "w"
          exact k _ _ ⟨⟨w1, by omega, hw⟩, h2⟩ h1 (hB1.new hp |>.mono (by omega)) (ex_dtrans e1 (ex_new_d hp))
        · walk_at "w"
          exact Ex.new hp
      · walk_at "w"
        exact Ex.refl _
    · rintro _ H2 ⟨rfl, e2⟩
      walk_at "w"
      refine loopS (fun d r σ' H' => (∃ x y z, σ' = [some (.ref b), some (.ref t), some (.str w), x, y, z]) ∧ Ex H1 H' ∧ ∀ c ∈ d, ∀ e ∈ lettersS.cps.toList, some (alt w c e) ∈ xs ++ reservedL.map some)
        ⟨⟨_, _, _, rfl⟩, e2, fun c hc => absurd hc List.not_mem_nil⟩ ?_ ?_
      · rintro d c r _ H3 hd ⟨⟨x, y, z, rfl⟩, e3, h3⟩
        have hc : 97 ≤ c ∧ c ≤ 122 := letters_in (by rw [show lettersS.cps.toList = d ++ c :: r from hd.symm]; simp)
        walk_at "w"
        refine loopS (fun d2 r2 σ' H' => (∃ y z, σ' = [some (.ref b), some (.ref t), some (.str w), some (.str (S [c])), y, z]) ∧ Ex H1 H' ∧ ∀ e ∈ d2, some (alt w c e) ∈ xs ++ reservedL.map some)
          ⟨⟨_, _, rfl⟩, e3, fun c hc => absurd hc List.not_mem_nil⟩ ?_ ?_
        · rintro d2 e r2 _ H4 hd2 ⟨⟨y, z, rfl⟩, e4, h4⟩
          have he : 97 ≤ e ∧ e ≤ 122 := letters_in (by rw [show lettersS.cps.toList = d2 ++ e :: r2 from hd2.symm]; simp)
          walk_at "w"
          have cut : cutS w none (some 6) = S (w.cps.toList.take 6) := cut_to (by decide)
          have ls : (w.cps.toList.take 6).length ≤ 6 := by rw [List.length_take]; omega
          have sz : ∀ m : Nat, m ≤ 100 → m ≤ sizeLine := fun m h => Nat.le_trans h (by decide)
          rw [cut]
          refine w_addS (sz _ (by rw [S_len, S_len]; simp only [List.length_cons, List.length_nil]; omega)) ?_
          rw [S_cat]
          walk_at "w"
          refine w_addS (sz _ (by rw [S_len, S_len, List.length_append]; simp only [List.length_cons, List.length_nil]; omega)) ?_
          rw [S_cat]
          rw [show S (w.cps.toList.take 6 ++ [c] ++ [e]) = alt w c e from rfl]
          have ext : Ex (del b H) H4 := (ex_dtrans e1 (ex_del.trans e4))
          walk_at "w"
          refine w_notInOpt (Evl.ex_l ext hx) ?_
          walk_at "w"
          refine iteND (fun h5 => ?_) (fun h5 => ?_)
          · walk_at "w"
            refine ⟨rfl, fun p hp => ?_⟩
            refine w_notInStr (xs := reservedL) (SqL.of upd_same) ?_
            walk_at "w"
            refine iteND (fun h6 => ?_) (fun h6 => ?_)
            · walk_at "w"
              exact k _ _ ⟨alt_word hw hc he, h6⟩ h5 (((hB1.ext e4).new hp).mono (by omega)) (ext.trans (Ex.new hp))
            · walk_at "w"
              refine ⟨⟨_, _, rfl⟩, e4.trans (Ex.new hp), fun e' he' => ?_⟩
              rcases List.mem_append.mp he' with he' | he'
              · exact h4 e' he'
              · rw [List.mem_singleton.mp he']
                exact List.mem_append.mpr (.inr (List.mem_map.mpr ⟨_, h6, rfl⟩))
          · walk_at "w"
            refine ⟨⟨_, _, rfl⟩, e4, fun e' he' => ?_⟩
            rcases List.mem_append.mp he' with he' | he'
            · exact h4 e' he'
            · rw [List.mem_singleton.mp he']
              exact List.mem_append.mpr (.inl h5)
        · rintro _ H4 ⟨⟨y, z, rfl⟩, e4, h4⟩
          exact ⟨⟨_, _, _, rfl⟩, e4, fun c' hc' e he => by
            rcases List.mem_append.mp hc' with hc' | hc'
            · exact h3 c' hc' e he
            · rw [List.mem_singleton.mp hc']
              exact h4 e he⟩
      · rintro _ H3 ⟨⟨x, y, z, rfl⟩, e3, h3⟩
        have := alt_all h3
        rw [List.length_append, List.length_map, show reservedL.length = 20 by decide] at this
        omega
end
end LP
namespace LP
open PySem L2
open Evl (Ex)
section
variable {base : Heap} {mg : Str → Option Value} {K : PySem.W.Frag} {w : World} {P : Program}
theorem ok_all_links {f : Addr} {fd : FuncData} (D : C8.Def K mg "_law_all_links" s__law_all_links f fd) (b : Binds K fd ["columns"] []) :
    C8.Cal P w K mg base 1 "_law_all_links" (spAllLinks K) [] := by
  have sc : FnScope ["columns", "column"] ["columns"] (C8.fnScope s__law_all_links) := C8.fnScope_by (by decide +kernel)
  refine C8.cal0 D b .nil sc (fun vs H Q E h => ?_) (fun cdv A outer s H vs Q E hr h => ?_)
  · obtain ⟨_, _, rfl, _⟩ := h
    rfl
  · obtain ⟨p, cs, rfl, ⟨cvs, hx, hc⟩, hl, k⟩ := h
    refine ⟨_, (pss_one (ps_ret (pe_lc (own := [("column", 1)]) (g := (gName 1)) (by rfl) sc.nd (pi_listK (K := K) rfl (pv 0)) (blkOk_by (own := [("column", 1)]) (N := ["columns", "column"]) (sc := C8.fnScope s__law_all_links) (by decide +kernel)) (fun _ _ _ _ _ => (pg_name (i := 1) sc.nd rfl (Or.inl rfl))) (fun _ _ _ _ _ => pts_one (pt_cmpR op_eq (pe_ix (ix_tupK (K := K) rfl) (pv 1) pe_int (fun _ _ => rfl)) pe_str (nomark _))) (fun _ _ _ _ _ => (pv 1))))), ?_⟩
    have ll := paired_len hc
    walk_at "w"
    intro D hD
    refine compQ cs (ColAt H) (fun c => if c.isLink = true then some c else none) (ColAt H) hD hx (by omega) hc (fun y c hy _ H2 e2 kk kn hk hn => ?_) (fun acc H2 e2 ha hp => ?_)
    · obtain ⟨a, rfl, ha⟩ := hy
      have ha2 : H2 a = some (.tup c.vals) := e2 _ _ ha
      walk_at "w"
      refine w_ixT (SqT.of ha2) c.at0 ?_
      walk_at "w"
      rw [c.kind_link]
      refine iteB (fun h => ?_) (fun h => ?_)
      · walk_at "w"
        exact hk _ c _ (Ex.refl _) (by rw [if_pos h]) ⟨a, rfl, ha⟩
      · exact hn _ (Ex.refl _) (by rw [h]; rfl)
    · rw [filterMap_if] at hp
      exact k D H2 hD e2 ⟨acc, ha, ColsV.ext e2 hp⟩
theorem ok_is_listed {f : Addr} {fd : FuncData} (D : C8.Def K mg "_law_is_listed" s__law_is_listed f fd) (b : Binds K fd ["columns"] []) (B : Blt mg)
    (c__law_all_links : C8.Cal P w K mg base 1 "_law_all_links" (spAllLinks K) []) : C8.Cal P w K mg base 2 "_law_is_listed" (spIsListed K) [] := by
  have sc : FnScope ["columns", "column"] ["columns"] (C8.fnScope s__law_is_listed) := C8.fnScope_by (by decide +kernel)
  refine C8.cal0 D b .nil sc (fun vs H Q E h => ?_) (fun cdv A outer s H vs Q E hr h => ?_)
  · obtain ⟨_, _, rfl, _⟩ := h
    rfl
  · obtain ⟨p, cs, rfl, hc, hl, k⟩ := h
    refine ⟨_, (pss_one (ps_ret (pe_callB (cr_anyK (K := K) rfl rfl) (by rfl) B.any_ (by decide +kernel) (pa_cons (pe_lc (own := [("column", 1)]) (g := (gName 1)) (by rfl) sc.nd (pi_listK (K := K) rfl (C8.pe_c c__law_all_links hr (by decide) rfl (pa_cons (pv 0) pa_nil))) (blkOk_by (own := [("column", 1)]) (N := ["columns", "column"]) (sc := C8.fnScope s__law_is_listed) (by decide +kernel)) (fun _ _ _ _ _ => (pg_name (i := 1) sc.nd rfl (Or.inl rfl))) (fun _ _ _ _ _ => pts_nil) (fun _ _ _ _ _ => (pe_cmpR op_notN' (pe_ix (ix_tupK (K := K) rfl) (pv 1) pe_int (fun _ _ => rfl)) pe_non (nomark _)))) pa_nil)))), ?_⟩
    walk_at "w"
    refine ⟨p, cs, rfl, hc, hl, fun q H1 hq e1 ⟨lvs, hlv, hcl⟩ => ?_⟩
    walk_at "w"
    intro D hD
    have ll := paired_len hcl
    have lf := List.length_filter_le Col.isLink cs
    refine compQ (cs.filter Col.isLink) (ColAt H1) (fun c => some c.lst.isSome) (fun v x => v = V.bl x) hD (SqL.of hlv) (by omega) hcl (fun y c hy hm H2 e2 kk kn hk hn => ?_) (fun acc H2 e2 ha hp => ?_)
    · obtain ⟨a, rfl, ha⟩ := hy
      have ha2 : H2 a = some (.tup c.vals) := e2 _ _ ha
      have hL : c.isLink = true := (List.mem_filter.mp hm).2
      walk_at "w"
      refine w_ixT (SqT.of ha2) (Col.at4 hL) ?_
      walk_at "w"
      exact hk _ _ _ (Ex.refl _) rfl (congrArg V.bl (vOpt_non c.lst))
    · rw [filterMap_some] at hp
      refine w_any (bs := (cs.filter Col.isLink).map fun c => c.lst.isSome) (SqL.of (vals_bls hp ▸ ha)) ?_
      have e3 : (((cs.filter Col.isLink).map fun c => c.lst.isSome).any id) = isListed cs := by
        unfold isListed
        rw [List.any_map, List.any_filter]
        congr 1
        funext c
        cases c <;> rfl
      rw [e3]
      exact k _ (e1.trans e2)
theorem ok_reach {f : Addr} {fd : FuncData} (D : C8.Def K mg "_law_reach" s__law_reach f fd) (b : Binds K fd ["tables", "name"] []) (B : Blt mg)
    (c__law_all_links : C8.Cal P w K mg base 1 "_law_all_links" (spAllLinks K) []) : C8.Cal P w K mg base 2 "_law_reach" (spReach K) [] := by
  have sc : FnScope ["tables", "name", "found", "other", "columns", "column"] ["tables", "name"] (C8.fnScope s__law_reach) := C8.fnScope_by (by decide +kernel)
  refine C8.cal0 D b .nil sc (fun vs H Q E h => ?_) (fun cdv A outer s H vs Q E hr h => ?_)
  · obtain ⟨_, _, _, rfl, _⟩ := h
    rfl
  · obtain ⟨p, ts, n, rfl, ⟨tvs, hx, ht⟩, hf, k⟩ := h
    refine ⟨_, (pss_cons (ps_set (i := 2) sc.nd rfl (Or.inl rfl) (pe_lst (pa_cons (pv 1) pa_nil)))
        (pss_cons (ps_for PassesOwn.never rfl (pi_reversedK (K := K) rfl (by rfl) B.reversed_ (pa_cons (pe_callTy (call_list_ofK (K := K) rfl) (by rfl) B.list_ (by decide +kernel) (pa_cons (pv 0) pa_nil)) pa_nil)) (pg_tupK (K := K) (n := 2) rfl rfl (pgs_cons (pg_name (i := 3) sc.nd rfl (Or.inl rfl)) (pgs_cons (pg_name (i := 4) sc.nd rfl (Or.inl rfl)) pgs_nil)))
        (pss_one (ps_if (pt_cmpR (op_in_seqK (K := K) rfl) (pv 3) (pv 2) (by rfl))
        (pss_one (ps_set (i := 2) sc.nd rfl (Or.inl rfl) (pe_op op_cat (pv 2) (pe_lc (own := [("column", 5)]) (g := (gName 5)) (by rfl) sc.nd (pi_listK (K := K) rfl (C8.pe_c c__law_all_links hr (by decide) rfl (pa_cons (pv 4) pa_nil))) (blkOk_by (own := [("column", 5)]) (N := ["tables", "name", "found", "other", "columns", "column"]) (sc := C8.fnScope s__law_reach) (by decide +kernel)) (fun _ _ _ _ _ => (pg_name (i := 5) sc.nd rfl (Or.inl rfl))) (fun _ _ _ _ _ => pts_nil) (fun _ _ _ _ _ => (pe_ix (ix_tupK (K := K) rfl) (pv 5) pe_int (fun _ _ => rfl)))))))
        pss_nil)))
        (pss_one (ps_ret (pv 2))))), ?_⟩
    have ll := paired_len ht
    walk_at "w"
    intro q0 hq0
    walk_at "w"
    refine w_listL (Evl.ex_l (Ex.new hq0) hx) fun l hl => ?_
    have q0l : q0 ≠ l := ne_of_none upd_same hl
    have hl0 : H l = none := Evl.fresh_back (Ex.new hq0) hl
    walk_at "w"
    refine loopV (xs := tvs) (fun d r σ' H' => Ex H H' ∧ H' l = some (.lst tvs) ∧ ∃ md mr, ts = md ++ mr ∧ TabsV H d md ∧ TabsV H r mr ∧ ∃ x y q, σ' = [some (.ref p), some (.str n), some (.ref q), x, y, none] ∧ H q = none ∧ H' q = some (.lst ((mr.foldr reachStep [n]).map V.str)))
      ⟨(Ex.new hq0).trans (Ex.new hl), upd_same, ts, [], by rw [List.append_nil], ht, .nil, _, _, q0, rfl, hq0, ?_⟩ (fun d r σ' H' _ h => SqL.of h.2.1) (fun d y r σ' H' hd h => ?_) (fun σ' H' h => ?_)
    · rw [upd_ne q0l]
      exact upd_same
    · obtain ⟨e', hl', md, mr, ets, pd, pr, x, y0, q, rfl, hq, hq'⟩ := h
      obtain ⟨md1, mt, emd, pd1, pt⟩ := paired_cut pd
      obtain ⟨t, mt1, emt, ⟨a, pc, rfl, ha, hc⟩, pt1⟩ := paired_cons pt
      cases pt1
      subst emt
      subst emd
      have tin : t ∈ ts := by rw [ets]; simp
      have lt := hf.2 t tin
      have lr : mr.length ≤ 20 := by
        have := hf.1
        rw [ets, List.length_append] at this
        omega
      have ha' := e' _ _ ha
      have fl : (mr.foldr reachStep [n]).length ≤ 1 + 20 * mr.length := reach_len (fun t' ht' => hf.2 t' (by rw [ets]; simp [ht'])) n
      walk_at "w"
      refine w_inStr (SqL.of hq') ?_
      walk_at "w"
      have fin : ∀ {H'' : Hp} {q'' : Addr} {z : List Str}, z = reachStep t (mr.foldr reachStep [n]) → Ex H H'' → H'' l = some (.lst tvs) → H q'' = none → H'' q'' = some (.lst (z.map V.str)) →
          (Ex H H'' ∧ H'' l = some (.lst tvs) ∧ ∃ md' mr', ts = md' ++ mr' ∧ TabsV H d md' ∧ TabsV H (.ref a :: r) mr' ∧ ∃ x y q, [some (V.ref p), some (.str n), some (.ref q''), some (.str t.1), some (.ref pc), none] = [some (.ref p), some (.str n), some (.ref q), x, y, none] ∧ H q = none ∧ H'' q = some (.lst ((mr'.foldr reachStep [n]).map V.str))) := fun {H'' q'' z} ez e hl2 hq2 hz =>
        ⟨e, hl2, md1, t :: mr, by rw [ets, List.append_assoc]; rfl, pd1, .cons ⟨a, pc, rfl, ha, hc⟩ pr, _, _, q'', rfl, hq2, by rw [hz, ez]; rfl⟩
      refine iteD (fun h1 => ?_) (fun h1 => ?_)
      · walk_at "w"
        refine ⟨pc, t.2, rfl, (hc.ext e').read, by omega, fun q1 H1 hq1 e1 ⟨lvs, hlv, hcl⟩ => ?_⟩
        walk_at "w"
        intro D hD
        have l1 := paired_len hcl
        have l2 := List.length_filter_le Col.isLink t.2
        have eD : Ex H H1 := e'.trans e1
        refine compQ (t.2.filter Col.isLink) (ColAt H1) (fun c => some c.target) (fun v x => v = V.str x) hD (SqL.of hlv) (by omega) hcl (fun y c hy hm H2 e2 kk kn hk hn => ?_) (fun acc H2 e2 ha2 hp => ?_)
        · obtain ⟨a2, rfl, ha2⟩ := hy
          have ha3 : H2 a2 = some (.tup c.vals) := e2 _ _ ha2
          have hL : c.isLink = true := (List.mem_filter.mp hm).2
          walk_at "w"
          refine w_ixT (SqT.of ha3) (Col.at2 hL) ?_
          exact hk _ _ _ (Ex.refl _) rfl rfl
        · rw [filterMap_some] at hp
          have ev := vals_strs hp
          refine w_cat ((e1.trans e2) _ _ hq') ha2 (Nat.le_trans ?_ (show 100000 ≤ sizeLine by decide)) fun q2 hq2 => ?_
          · rw [ev, List.length_map, List.length_map, List.length_map]
            omega
          · walk_at "w"
            refine fin (z := (mr.foldr reachStep [n]) ++ (t.2.filter Col.isLink).map Col.target) (reachStep_in h1).symm ((eD.trans e2).trans (Ex.new hq2)) ((e1.trans e2).trans (Ex.new hq2) _ _ hl') (Evl.fresh_back (eD.trans e2) hq2) ?_
            rw [upd_same, ev, List.map_append]
      · walk_at "w"
        exact fin (z := mr.foldr reachStep [n]) (reachStep_out h1).symm e' hl' hq hq'
    · obtain ⟨e', hl', md, mr, ets, pd, pr, x, y0, q, rfl, hq, hq'⟩ := h
      cases pd
      have ets : ts = mr := ets
      walk_at "w"
      exact k q H' hq e' (by rw [hq', ets]; rfl)
end
end LP
namespace LP
open PySem L2
open Evl (Ex)
section
variable {base : Heap} {mg : Str → Option Value} {K : PySem.W.Frag} {w : World} {P : Program}
theorem ok_is_heavy {f : Addr} {fd : FuncData} (D : C8.Def K mg "_law_is_heavy" s__law_is_heavy f fd) (b : Binds K fd ["tables", "column"] []) (B : Blt mg)
    (c__law_reach : C8.Cal P w K mg base 2 "_law_reach" (spReach K) []) (c__law_is_listed : C8.Cal P w K mg base 2 "_law_is_listed" (spIsListed K) []) : C8.Cal P w K mg base 3 "_law_is_heavy" (spIsHeavy K) [] := by
  have sc : FnScope ["tables", "column", "leads", "name", "columns"] ["tables", "column"] (C8.fnScope s__law_is_heavy) := C8.fnScope_by (by decide +kernel)
  refine C8.cal0 D b .nil sc (fun vs H Q E h => ?_) (fun cdv A outer s H vs Q E hr h => ?_)
  · obtain ⟨_, _, _, _, rfl, _⟩ := h
    rfl
  · obtain ⟨p, ts, v, c, rfl, hT, hf, ⟨a, rfl, ha⟩, k⟩ := h
    refine ⟨_, (pss_cons (ps_if (pt_cmpR op_ne (pe_ix (ix_tupK (K := K) rfl) (pv 1) pe_int (fun _ _ => rfl)) pe_str (nomark _))
        (pss_one (ps_ret pe_bl))
        pss_nil)
        (pss_cons (ps_set (i := 2) sc.nd rfl (Or.inr rfl) (C8.pe_c c__law_reach hr (by decide) rfl (pa_cons (pv 0) (pa_cons (pe_ix (ix_tupK (K := K) rfl) (pv 1) pe_int (fun _ _ => rfl)) pa_nil))))
        (pss_one (ps_ret (pe_callB (cr_anyK (K := K) rfl rfl) (by rfl) B.any_ (by decide +kernel) (pa_cons (pe_lc (own := [("name", 3), ("columns", 4)]) (by rfl) sc.nd (pi_listK (K := K) rfl (pv 0)) (blkOk_by (own := [("name", 3), ("columns", 4)]) (N := ["tables", "column", "leads", "name", "columns"]) (sc := C8.fnScope s__law_is_heavy) (by decide +kernel)) (fun _ _ _ _ _ => (pg_tupK (K := K) (n := 2) rfl rfl (pgs_cons (pg_name (i := 3) sc.nd rfl (Or.inl rfl)) (pgs_cons (pg_name (i := 4) sc.nd rfl (Or.inl rfl)) pgs_nil)))) (fun _ _ _ _ _ => pts_nil) (fun _ _ _ _ _ => (pe_and (pe_cmpR (op_in_seqK (K := K) rfl) (pv 3) (pv 2) (by rfl)) (pe_one (C8.pe_c c__law_is_listed hr (by decide) rfl (pa_cons (pv 4) pa_nil)))))) pa_nil)))))), ?_⟩
    walk_at "w"
    refine w_ixT (SqT.of ha) c.at0 ?_
    walk_at "w"
    rw [c.kind_link]
    cases hL : c.isLink with
    | false =>
      walk_at "w"
      have e : isHeavy ts c = false := by unfold isHeavy; rw [hL]; rfl
      have z := k _ (Ex.refl _)
      rw [e] at z
      exact z
    | true =>
      walk_at "w"
      refine w_ixT (SqT.of ha) (Col.at2 hL) ?_
      walk_at "w"
      refine ⟨p, ts, c.target, rfl, hT, hf, fun q H1 hq e1 hq1 => ?_⟩
      obtain ⟨tvs, hx, ht⟩ := hT.ext e1
      have ll := paired_len ht
      walk_at "w"
      intro D hD
      have l1 := hf.1
      refine compQ ts (TabAt H1) (fun t => some (decide (t.1 ∈ reach ts c.target) && isListed t.2)) (fun v x => v = V.bl x) hD hx (by omega) ht (fun y t hy hm H2 e2 kk kn hk hn => ?_) (fun acc H2 e2 ha hp => ?_)
      · obtain ⟨a2, pc, rfl, ha2, hc2⟩ := hy
        have ha3 := e2 _ _ ha2
        walk_at "w"
        refine w_inStr (SqL.of (e2 _ _ hq1)) ?_
        walk_at "w"
        refine iteD (fun h => ?_) (fun h => ?_)
        · walk_at "w"
          refine ⟨pc, t.2, rfl, (hc2.ext e2).read, hf.2 t hm, fun H3 e3 => ?_⟩
          refine hk _ _ _ e3 rfl ?_
          rw [decide_eq_true h]
          rfl
        · refine hk _ _ _ (Ex.refl _) rfl ?_
          rw [decide_eq_false h]
          rfl
      · rw [filterMap_some] at hp
        refine w_any (bs := ts.map fun t => decide (t.1 ∈ reach ts c.target) && isListed t.2) (SqL.of (vals_bls hp ▸ ha)) ?_
        have e3 : ((ts.map fun t => decide (t.1 ∈ reach ts c.target) && isListed t.2).any id) = isHeavy ts c := by
          unfold isHeavy
          rw [hL, List.any_map]
          rfl
        rw [e3]
        exact k _ (e1.trans e2)
theorem links_comp {K : PySem.W.Frag} {a0 a1 a3 a4 a5 a6 : Option V} {tg : Str} {cs : List Col} {te : TE} {H : Hp} {Q : VK} (hl : cs.length ≤ 20)
    (hte : ∀ R : VK, (∀ q1 H1, H q1 = none → Ex H H1 → ColsAt H1 q1 (cs.filter Col.isLink) → R (.ref q1) H1) → te [a0, a1, some (.str tg), a3, a4, a5, a6] H R)
    (hQ : ∀ D H2, H D = none → Ex H H2 → H2 D = some (.lst ((linkLists cs tg).map vOpt)) → Q (.ref D) H2) :
    tLc (iList K te) (gName 6) (tTest (tOp rEq (tOp (rIxT K) (tVar 6) (tC (.int 2))) (tVar 2))) (tOp (rIxT K) (tVar 6) (tC (.int 4))) [6] [a0, a1, some (.str tg), a3, a4, a5, a6] H Q := by
  walk_at "w"
  refine hte _ fun q1 H1 hq1 e1 ⟨lvs, hlv, hcl⟩ => ?_
  walk_at "w"
  intro D hD
  have l1 := paired_len hcl
  have l2 := List.length_filter_le Col.isLink cs
  refine compQ (cs.filter Col.isLink) (ColAt H1) (fun c => if decide (c.target = tg) = true then some c.lst else none) (fun v x => v = vOpt x) hD (SqL.of hlv) (by omega) hcl (fun y c hy hm H2 e2 kk kn hk hn => ?_) (fun acc H2 e2 ha2 hp => ?_)
  · obtain ⟨a2, rfl, ha2⟩ := hy
    have ha3 : H2 a2 = some (.tup c.vals) := e2 _ _ ha2
    have hL : c.isLink = true := (List.mem_filter.mp hm).2
    walk_at "w"
    refine w_ixT (SqT.of ha3) (Col.at2 hL) ?_
    walk_at "w"
    rw [show decide (V.str c.target = V.str tg) = decide (c.target = tg) by simp]
    refine iteD (fun h => ?_) (fun h => ?_)
    · walk_at "w"
      refine w_ixT (SqT.of ha3) (Col.at4 hL) ?_
      exact hk _ _ _ (Ex.refl _) (by rw [decide_eq_true h]; rfl) rfl
    · exact hn _ (Ex.refl _) (by rw [decide_eq_false h]; rfl)
  · rw [filterMap_ifm] at hp
    refine hQ D H2 (Evl.fresh_back e1 hD) (e1.trans e2) ?_
    rw [ha2, vals_opts hp]
    unfold linkLists
    rw [List.filter_filter]
    congr 4
    exact List.filter_congr fun c _ => Bool.and_comm _ _
theorem ll_len (cs : List Col) (tg : Str) : (linkLists cs tg).length ≤ cs.length := by
  unfold linkLists
  rw [List.length_map]
  exact List.length_filter_le _ _
theorem ok_names_taken {f : Addr} {fd : FuncData} (D : C8.Def K mg "_law_names_taken" s__law_names_taken f fd) (b : Binds K fd ["tables", "columns", "target"] [])
    (c__law_all_links : C8.Cal P w K mg base 1 "_law_all_links" (spAllLinks K) []) : C8.Cal P w K mg base 2 "_law_names_taken" (spNamesTaken K) [] := by
  have sc : FnScope ["tables", "columns", "target", "found", "name", "others", "column"] ["tables", "columns", "target"] (C8.fnScope s__law_names_taken) := C8.fnScope_by (by decide +kernel)
  refine C8.cal0 D b .nil sc (fun vs H Q E h => ?_) (fun cdv A outer s H vs Q E hr h => ?_)
  · obtain ⟨_, _, _, _, _, rfl, _⟩ := h
    rfl
  · obtain ⟨p, r, ts, cs, tg, rfl, hT, hf, hC, hl, k⟩ := h
    refine ⟨_, (pss_cons (ps_set (i := 3) sc.nd rfl (Or.inl rfl) (pe_lst pa_nil))
        (pss_cons (ps_for PassesOwn.never rfl (pi_listK (K := K) rfl (pv 0)) (pg_tupK (K := K) (n := 2) rfl rfl (pgs_cons (pg_name (i := 4) sc.nd rfl (Or.inl rfl)) (pgs_cons (pg_name (i := 5) sc.nd rfl (Or.inl rfl)) pgs_nil)))
        (pss_cons (ps_set (i := 3) sc.nd rfl (Or.inl rfl) (pe_op op_cat (pv 3) (pe_lc (own := [("column", 6)]) (g := (gName 6)) (by rfl) sc.nd (pi_listK (K := K) rfl (C8.pe_c c__law_all_links hr (by decide) rfl (pa_cons (pv 5) pa_nil))) (blkOk_by (own := [("column", 6)]) (N := ["tables", "columns", "target", "found", "name", "others", "column"]) (sc := C8.fnScope s__law_names_taken) (by decide +kernel)) (fun _ _ _ _ _ => (pg_name (i := 6) sc.nd rfl (Or.inl rfl))) (fun _ _ _ _ _ => pts_one (pt_cmpR op_eq (pe_ix (ix_tupK (K := K) rfl) (pv 6) pe_int (fun _ _ => rfl)) (pv 2) (nomark _))) (fun _ _ _ _ _ => (pe_ix (ix_tupK (K := K) rfl) (pv 6) pe_int (fun _ _ => rfl))))))
        (pss_one (ps_if (pt_cmpR op_eq (pv 4) (pv 2) (nomark _))
        (pss_one (ps_set (i := 3) sc.nd rfl (Or.inl rfl) (pe_op op_cat (pv 3) (pe_lc (own := [("column", 6)]) (g := (gName 6)) (by rfl) sc.nd (pi_listK (K := K) rfl (pv 5)) (blkOk_by (own := [("column", 6)]) (N := ["tables", "columns", "target", "found", "name", "others", "column"]) (sc := C8.fnScope s__law_names_taken) (by decide +kernel)) (fun _ _ _ _ _ => (pg_name (i := 6) sc.nd rfl (Or.inl rfl))) (fun _ _ _ _ _ => pts_nil) (fun _ _ _ _ _ => (pe_ix (ix_tupK (K := K) rfl) (pv 6) pe_int (fun _ _ => rfl)))))))
        pss_nil))))
        (pss_one (ps_ret (pe_op op_cat (pv 3) (pe_lc (own := [("column", 6)]) (g := (gName 6)) (by rfl) sc.nd (pi_listK (K := K) rfl (C8.pe_c c__law_all_links hr (by decide) rfl (pa_cons (pv 1) pa_nil))) (blkOk_by (own := [("column", 6)]) (N := ["tables", "columns", "target", "found", "name", "others", "column"]) (sc := C8.fnScope s__law_names_taken) (by decide +kernel)) (fun _ _ _ _ _ => (pg_name (i := 6) sc.nd rfl (Or.inl rfl))) (fun _ _ _ _ _ => pts_one (pt_cmpR op_eq (pe_ix (ix_tupK (K := K) rfl) (pv 6) pe_int (fun _ _ => rfl)) (pv 2) (nomark _))) (fun _ _ _ _ _ => (pe_ix (ix_tupK (K := K) rfl) (pv 6) pe_int (fun _ _ => rfl))))))))), ?_⟩
    obtain ⟨tvs, hx, ht⟩ := hT
    walk_at "w"
    intro q0 hq0
    have hx0 : SqL K (upd H q0 (.lst [])) p tvs := Evl.ex_l (Ex.new hq0) hx
    walk_at "w"
    have ll := paired_len ht
    have l1 := hf.1
    refine loopL (xs := tvs) (fun d r' σ' H' => Ex H H' ∧ ∃ md mr, ts = md ++ mr ∧ TabsV H d md ∧ TabsV H r' mr ∧ ∃ x y q, σ' = [some (.ref p), some (.ref r), some (.str tg), some (.ref q), x, y, none] ∧ H q = none ∧ H' q = some (.lst ((md.flatMap (takenStep tg)).map vOpt)))
      ⟨Ex.new hq0, [], ts, rfl, .nil, ht, _, _, q0, rfl, hq0, (by exact upd_same)⟩ (fun d r σ' H' _ h => Evl.ex_l h.1 hx) (fun d y r' σ' H' hd h => ?_) (fun σ' H' h => ?_)
    · obtain ⟨e', md, mr, ets, pd, pr, x, y0, q, rfl, hq, hq'⟩ := h
      obtain ⟨t, mr1, emr, ⟨a, pc, rfl, ha, hc⟩, pr1⟩ := paired_cons pr
      subst emr
      have tin : t ∈ ts := by rw [ets]; simp
      have lt := hf.2 t tin
      have ha' := e' _ _ ha
      have lm : md.length ≤ 20 := by
        rw [ets, List.length_append] at l1
        omega
      have fl := taken_len tg (ts := md) (fun t' ht' => hf.2 t' (by rw [ets]; simp [ht']))
      have lk := ll_len t.2 tg
      have sz : ∀ m : Nat, m ≤ 100000 → m ≤ sizeLine := fun m h => Nat.le_trans h (by decide)
      walk_at "ws"
      refine links_comp (cs := t.2) lt (fun R hR => ?_) (fun D H2 hD e2 ha2 => ?_)
      · walk_at "w"
        exact ⟨pc, t.2, rfl, (hc.ext e').read, lt, hR⟩
      · refine w_cat (e2 _ _ hq') ha2 (sz _ (by rw [List.length_map, List.length_map]; omega)) fun q2 hq2 => ?_
        rw [← List.map_append]
        have e3 : Ex H (upd H2 q2 (.lst (((md.flatMap (takenStep tg)) ++ linkLists t.2 tg).map vOpt))) := (e'.trans e2).trans (Ex.new hq2)
        have hq2' : H q2 = none := Evl.fresh_back (e'.trans e2) hq2
        walk_at "w"
        rw [show decide (V.str t.1 = V.str tg) = decide (t.1 = tg) by simp]
        refine iteD (fun h1 => ?_) (fun h1 => ?_)
        · obtain ⟨cvs, hcv, hcl⟩ := hc
          have hcv' := e3 _ _ hcv
          have l3 := paired_len hcl
          walk_at "w"
          intro D2 hD2
          refine compQ t.2 (ColAt H) (fun c => some (some c.name)) (fun v x => v = vOpt x) hD2 (SqL.of hcv') (by omega) hcl (fun y c hy hm H4 e4 kk kn hk hn => ?_) (fun acc H4 e4 ha4 hp4 => ?_)
          · obtain ⟨a4, rfl, ha4⟩ := hy
            have ha5 : H4 a4 = some (.tup c.vals) := (e3.trans e4) _ _ ha4
            walk_at "w"
            refine w_ixT (SqT.of ha5) c.at1 ?_
            exact hk _ _ _ (Ex.refl _) rfl rfl
          · rw [filterMap_some] at hp4
            have ev := vals_opts hp4
            refine w_cat (e4 _ _ upd_same) ha4 (sz _ (by rw [ev, List.length_map, List.length_map, List.length_map, List.length_append]; omega)) fun q3 hq3 => ?_
            walk_at "w"
            refine ⟨(e3.trans e4).trans (Ex.new hq3), md ++ [t], mr1, by rw [ets, List.append_assoc]; rfl, paired_app pd (.cons ⟨a, pc, rfl, ha, ⟨cvs, hcv, hcl⟩⟩ .nil), pr1, _, _, q3, rfl, Evl.fresh_back (e3.trans e4) hq3, ?_⟩
            rw [upd_same, ev, ← List.map_append, List.flatMap_append, List.append_assoc]
            congr 4
            rw [List.flatMap_cons, List.flatMap_nil, List.append_nil]
            unfold takenStep
            rw [if_pos h1]
        · walk_at "w"
          refine ⟨e3, md ++ [t], mr1, by rw [ets, List.append_assoc]; rfl, paired_app pd (.cons ⟨a, pc, rfl, ha, hc⟩ .nil), pr1, _, _, q2, rfl, hq2', ?_⟩
          rw [upd_same, List.flatMap_append, List.flatMap_cons, List.flatMap_nil, List.append_nil]
          unfold takenStep
          rw [if_neg h1, List.append_nil]
    · obtain ⟨e', md, mr, ets, pd, pr, x, y0, q, rfl, hq, hq'⟩ := h
      cases pr
      rw [List.append_nil] at ets
      subst ets
      have fl := taken_len tg (ts := ts) hf.2
      have lk := ll_len cs tg
      walk_at "ws"
      refine links_comp (cs := cs) hl (fun R hR => ?_) (fun D H2 hD e2 ha2 => ?_)
      · walk_at "w"
        exact ⟨r, cs, rfl, hC.ext e', hl, hR⟩
      · refine w_cat (e2 _ _ hq') ha2 (Nat.le_trans (m := 100000) (by rw [List.length_map, List.length_map]; omega) (by decide)) fun q2 hq2 => ?_
        refine k q2 _ (Evl.fresh_back (e'.trans e2) hq2) ((e'.trans e2).trans (Ex.new hq2)) ?_
        rw [upd_same, ← List.map_append]
        rfl
end
end LP
namespace LP
open PySem L2
open Evl (Ex)
section
variable {base : Heap} {mg : Str → Option Value} {K : PySem.W.Frag} {w : World} {P : Program}
theorem ok_allowed {f : Addr} {fd : FuncData} (D : C8.Def K mg "_law_allowed" s__law_allowed f fd) (b : Binds K fd ["tables", "columns"] []) (B : Blt mg)
    (c__law_all_links : C8.Cal P w K mg base 1 "_law_all_links" (spAllLinks K) []) (c__law_is_heavy : C8.Cal P w K mg base 3 "_law_is_heavy" (spIsHeavy K) []) : C8.Cal P w K mg base 4 "_law_allowed" (spAllowed K) [] := by
  have sc : FnScope ["tables", "columns", "listed", "column", "found"] ["tables", "columns"] (C8.fnScope s__law_allowed) := C8.fnScope_by (by decide +kernel)
  refine C8.cal0 D b .nil sc (fun vs H Q E h => ?_) (fun cdv A outer s H vs Q E hr h => ?_)
  · obtain ⟨_, _, _, _, rfl, _⟩ := h
    rfl
  · obtain ⟨p, r, ts, cs, rfl, hT, hf, ⟨cvs, hcv, hcc⟩, hl, hok, k⟩ := h
    refine ⟨_, (pss_cons (ps_setLc (i := 2) (own := [("column", 3)]) (g := (gName 3)) (by rfl) sc.nd rfl rfl (sw_true rfl rfl rfl (by decide +kernel)) (pi_listK (K := K) rfl (C8.pe_c c__law_all_links hr (by decide) rfl (pa_cons (pv 1) pa_nil))) (blkOk_by (own := [("column", 3)]) (N := ["tables", "columns", "listed", "column", "found"]) (sc := C8.fnScope s__law_allowed) (by decide +kernel)) (fun _ _ _ _ _ => (pg_name (i := 3) sc.nd rfl (Or.inl rfl))) (fun _ _ _ _ _ => pts_one (pt_cmpR op_notN' (pe_ix (ix_tupK (K := K) rfl) (pv 3) pe_int (fun _ _ => rfl)) pe_non (nomark _))) (fun _ _ _ _ _ => (pv 3)))
        (pss_cons (ps_if (PW.pt (pw_or (pt_cmpR (op_eqDK (K := K) rfl (hu64 hr)) (pv 2) (pe_lst pa_nil) (nomark _)) (pw_or1 (pt_not (pt_val (pe_callB (cr_anyK (K := K) rfl rfl) (by rfl) B.any_ (by decide +kernel) (pa_cons (pe_lc (own := [("column", 3)]) (g := (gName 3)) (by rfl) sc.nd (pi_listK (K := K) rfl (pv 1)) (blkOk_by (own := [("column", 3)]) (N := ["tables", "columns", "listed", "column", "found"]) (sc := C8.fnScope s__law_allowed) (by decide +kernel)) (fun _ _ _ _ _ => (pg_name (i := 3) sc.nd rfl (Or.inl rfl))) (fun _ _ _ _ _ => pts_nil) (fun _ _ _ _ _ => (C8.pe_c c__law_is_heavy hr (by decide) rfl (pa_cons (pv 0) (pa_cons (pv 3) pa_nil))))) pa_nil)))))))
        (pss_one (ps_ret (pv 1)))
        pss_nil)
        (pss_cons (ps_set (i := 4) sc.nd rfl (Or.inl rfl) (pe_lst pa_nil))
        (pss_cons (ps_for PassesOwn.never rfl (pi_listK (K := K) rfl (pv 1)) (pg_name (i := 3) sc.nd rfl (Or.inl rfl))
        (pss_one (ps_if (PW.pt (pw_or (pt_cmpR op_ne (pe_ix (ix_tupK (K := K) rfl) (pv 3) pe_int (fun _ _ => rfl)) pe_str (nomark _)) (pw_or1 (pt_cmpR (op_eqDK (K := K) rfl (hu64 hr)) (pv 3) (pe_ix (ix_listK (K := K) rfl) (pv 2) pe_int (fun _ _ => rfl)) (nomark _)))))
        (pss_one (ps_expr (pe_bmK (K := K) rfl PySem.F.plainAttrs_list PySem.F.slot_list_append PySem.F.type_list_append mt_append (pv 4) (pa_cons (pv 3) pa_nil))))
        (pss_one (ps_if (pt_not (pt_val (C8.pe_c c__law_is_heavy hr (by decide) rfl (pa_cons (pv 0) (pa_cons (pv 3) pa_nil)))))
        (pss_one (ps_expr (pe_bmK (K := K) rfl PySem.F.plainAttrs_list PySem.F.slot_list_append PySem.F.type_list_append mt_append (pv 4) (pa_cons (pe_tup (pa_cons pe_str (pa_cons (pe_ix (ix_tupK (K := K) rfl) (pv 3) pe_int (fun _ _ => rfl)) (pa_cons (pe_ix (ix_tupK (K := K) rfl) (pv 3) pe_int (fun _ _ => rfl)) (pa_cons (pe_ix (ix_tupK (K := K) rfl) (pv 3) pe_int (fun _ _ => rfl)) (pa_cons pe_non pa_nil)))))) pa_nil))))
        pss_nil)))))
        (pss_one (ps_ret (pv 4))))))), ?_⟩
    walk_at "w"
    refine ⟨r, cs, rfl, ⟨cvs, SqL.of hcv, hcc⟩, hl, fun q1 H1 hq1 e1 ⟨lvs, hlv, hcl⟩ => ?_⟩
    have l1 := paired_len hcl
    have l2 := List.length_filter_le Col.isLink cs
    walk_at "w"
    intro D hD
    refine compQ (cs.filter Col.isLink) (ColAt H1) (fun c => if c.lst.isSome = true then some c else none) (ColAt H1) hD (SqL.of hlv) (by omega) hcl (fun y c hy hm H2 e2 kk kn hk hn => ?_) (fun acc H2 e2 hacc hp => ?_)
    · obtain ⟨a2, rfl, ha2⟩ := hy
      have ha3 : H2 a2 = some (.tup c.vals) := e2 _ _ ha2
      have hL : c.isLink = true := (List.mem_filter.mp hm).2
      walk_at "w"
      refine w_ixT (SqT.of ha3) (Col.at4 hL) ?_
      walk_at "w"
      rw [vOpt_non]
      refine iteB (fun h => ?_) (fun h => ?_)
      · walk_at "w"
        exact hk _ c _ (Ex.refl _) (by rw [if_pos h]) ⟨a2, rfl, ha2⟩
      · exact hn _ (Ex.refl _) (by rw [h]; rfl)
    · rw [filterMap_if, listed_link] at hp
      have e02 := e1.trans e2
      have okL : ∀ c ∈ listedOf cs, c.Ok := fun c hc => hok c (List.mem_filter.mp hc).1
      have hp2 : ColsV H2 acc (listedOf cs) := ColsV.ext e2 hp
      have hcv2 : H2 r = some (.lst cvs) := e02 _ _ hcv
      walk_at "w"
      intro q3 hq3
      have e23 : Ex H2 (upd H2 q3 (.lst [])) := Ex.new hq3
      refine ⟨.list ((listedOf cs).map Col.data), .list [], .lst (SqL.of (e23 _ _ hacc)) (ColsV.dp (ColsV.ext e23 hp2)), .lst (SqL.of upd_same) .nil, shapedL_cols okL, shaped_nil, ?_⟩
      rw [eqv_nil]
      have e03 : Ex H (upd H2 q3 (.lst [])) := e02.trans e23
      generalize (upd H2 q3 (.lst [])) = H3 at e23 e03 ⊢
      have back : ∀ {H' : Hp}, Ex H H' → allowed ts cs = cs → ColsAt H' r (allowed ts cs) := fun e ea => by
        rw [ea]
        exact ⟨cvs, e _ _ hcv, ColsV.ext e hcc⟩
      cases eL : listedOf cs with
      | nil =>
        rw [List.isEmpty_nil]
        walk_at "w"
        exact k r H3 e03 (back e03 (by unfold allowed; rw [eL]))
      | cons first rest =>
        rw [List.isEmpty_cons]
        rw [eL] at hp2
        have hok1 : first.Ok := okL first (by rw [eL]; exact List.mem_cons_self)
        have hcv3 : H3 r = some (.lst cvs) := e23 _ _ hcv2
        have hx3 : SqL K H3 r cvs := SqL.of hcv3
        have lc := paired_len hcc
        walk_at "w"
        intro D2 hD2
        refine compQ cs (ColAt H) (fun c => some (isHeavy ts c)) (fun v x => v = V.bl x) hD2 hx3 (by omega) hcc (fun y c hy hm H4 e4 kk kn hk hn => ?_) (fun acc2 H4 e4 hacc2 hp4 => ?_)
        · walk_at "w"
          exact ⟨p, ts, y, c, rfl, hT.ext (e03.trans e4), hf, hy.ext (e03.trans e4), fun H5 e5 => hk _ _ _ e5 rfl rfl⟩
        · rw [filterMap_some] at hp4
          walk_at "w"
          refine w_any (bs := cs.map (isHeavy ts)) (SqL.of (vals_bls hp4 ▸ hacc2)) ?_
          rw [show (cs.map (isHeavy ts)).any id = cs.any (isHeavy ts) by rw [List.any_map]; rfl]
          have e04 := e03.trans e4
          cases eA : cs.any (isHeavy ts) with
          | false =>
            walk_at "w"
            exact k r H4 e04 (back e04 (by unfold allowed; rw [eL]; show (if cs.any (isHeavy ts) = true then _ else cs) = cs; rw [eA]; rfl))
          | true =>
            walk_at "w"
            intro qf hqf
            have e45 : Ex H4 (upd H4 qf (.lst [])) := Ex.new hqf
            have hcv5 : SqL K (upd H4 qf (.lst [])) r cvs := SqL.of ((e04.trans e45) _ _ hcv)
            have hqH : H qf = none := Evl.fresh_back e04 hqf
            have e2f : Ex H2 H4 := e23.trans e4
            have hq2 : H2 qf = none := Evl.fresh_back e2f hqf
            walk_at "w"
            refine loopL (xs := cvs) (fun d r' σ' H' => Ex H2 H' ∧ ∃ md mr fvs x, cs = md ++ mr ∧ ColsV H d md ∧ ColsV H r' mr ∧ σ' = [some (.ref p), some (.ref r), some (.ref D), x, some (.ref qf)] ∧ H' qf = some (.lst fvs) ∧ ColsV H' fvs (md.filterMap (allowStep ts first)))
              ⟨e2f.trans e45, [], cs, [], _, rfl, .nil, hcc, rfl, (by exact upd_same), .nil⟩ (fun d r' σ' H' _ h => SqL.of (h.1 _ _ hcv2)) (fun d y r' σ' H' hd h => ?_) (fun σ' H' h => ?_)
            · obtain ⟨e', md, mr, fvs, x, ecs, pd, pr, rfl, hqf', hff⟩ := h
              obtain ⟨c, mr1, emr, hy, pr1⟩ := paired_cons pr
              subst emr
              have cin : c ∈ cs := by rw [ecs]; simp
              have e0' : Ex H H' := e02.trans e'
              obtain ⟨a, rfl, ha⟩ := id hy
              have ha' := e0' _ _ ha
              have lf : fvs.length ≤ 20 := by
                have h1 := paired_len hff
                have h2 := List.length_filterMap_le (allowStep ts first) md
                have h3 : cs.length = md.length + (mr1.length + 1) := by rw [ecs, List.length_append, List.length_cons]
                omega
              have fin : ∀ {H'' : Hp} {fvs' : List V}, Ex H2 H'' → H'' qf = some (.lst fvs') → ColsV H'' fvs' (md.filterMap (allowStep ts first) ++ (allowStep ts first c).toList) →
                  (Ex H2 H'' ∧ ∃ md' mr' fvs x, cs = md' ++ mr' ∧ ColsV H (d ++ [V.ref a]) md' ∧ ColsV H r' mr' ∧ [some (.ref p), some (.ref r), some (.ref D), some (.ref a), some (.ref qf)] = [some (V.ref p), some (.ref r), some (.ref D), x, some (.ref qf)] ∧ H'' qf = some (.lst fvs) ∧ ColsV H'' fvs (md'.filterMap (allowStep ts first))) := fun {H'' fvs'} e hq hc =>
                ⟨e, md ++ [c], mr1, fvs', _, by rw [ecs, List.append_assoc]; rfl, paired_app pd (.cons hy .nil), pr1, rfl, hq, by
                  rw [List.filterMap_append]
                  cases ea : allowStep ts first c with
                  | none =>
                    rw [List.filterMap_cons_none ea, List.filterMap_nil]
                    rw [ea] at hc
                    exact hc
                  | some c' =>
                    rw [List.filterMap_cons_some ea, List.filterMap_nil]
                    rw [ea] at hc
                    exact hc⟩
              have keep : allowStep ts first c = some c → (Ex H2 (upd H' qf (.lst (fvs ++ [.ref a]))) ∧ ∃ md' mr' fvz x, cs = md' ++ mr' ∧ ColsV H (d ++ [V.ref a]) md' ∧ ColsV H r' mr' ∧ [some (.ref p), some (.ref r), some (.ref D), some (.ref a), some (.ref qf)] = [some (V.ref p), some (.ref r), some (.ref D), x, some (.ref qf)] ∧ (upd H' qf (.lst (fvs ++ [.ref a]))) qf = some (.lst fvz) ∧ ColsV (upd H' qf (.lst (fvs ++ [.ref a]))) fvz (md'.filterMap (allowStep ts first))) := fun ea =>
                fin (e'.mut hq2) upd_same (by rw [ea]; exact paired_app (ColsV.upd hqf' hff) (.cons (ColAt.upd hqf' ⟨a, rfl, ha'⟩) .nil))
              walk_at "w"
              refine w_ixT (SqT.of ha') c.at0 ?_
              walk_at "w"
              rw [c.kind_link]
              cases hL : c.isLink with
              | false =>
                walk_at "w"
                exact keep (by unfold allowStep; rw [if_pos (.inl hL)])
              | true =>
                obtain ⟨v1, accr, rfl⟩ : ∃ v1 accr, acc = v1 :: accr := by
                  cases hp2 with
                  | cons => exact ⟨_, _, rfl⟩
                obtain ⟨_, _, ef, hv1, _⟩ := paired_cons hp2
                cases ef
                have hacc' : H' D = some (.lst (v1 :: accr)) := e' _ _ hacc
                walk_at "w"
                refine w_ixL (SqL.of hacc') (atI_nat (j := 0) rfl) ?_
                refine ⟨c.data, first.data, ColAt.dp ⟨a, rfl, ha'⟩, ColAt.dp (ColAt.ext e' hv1), Col.shaped (hok c cin), Col.shaped hok1, ?_⟩
                rw [Col.eqv]
                walk_at "w"
                refine iteD (fun h1 => ?_) (fun h1 => ?_)
                · walk_at "w"
                  exact keep (by unfold allowStep; rw [if_pos (.inr h1)])
                · walk_at "w"
                  refine ⟨p, ts, .ref a, c, rfl, hT.ext e0', hf, ⟨a, rfl, ha'⟩, fun H5 e5 => ?_⟩
                  have hqf5 := e5 _ _ hqf'
                  have no : ¬ (c.isLink = false ∨ c = first) := fun z => z.elim (fun z => by rw [hL] at z; cases z) h1
                  cases eh : isHeavy ts c with
                  | true =>
                    walk_at "w"
                    exact fin (e'.trans e5) hqf5 (by unfold allowStep; rw [if_neg no, if_pos eh]; show ColsV H5 fvs (_ ++ []); rw [List.append_nil]; exact hff.ext e5)
                  | false =>
                    have ha5 := e5 _ _ ha'
                    walk_at "w"
                    refine w_ixT (SqT.of ha5) c.at1 ?_
                    walk_at "w"
                    refine w_ixT (SqT.of ha5) (Col.at2 hL) ?_
                    walk_at "w"
                    refine w_ixT (SqT.of ha5) (Col.at3 hL) ?_
                    walk_at "w"
                    intro pt hpt
                    have hqf6 : (upd H5 pt (.tup [.str "link", .str c.name, .str c.target, .bl c.opt, .non])) qf = some (.lst fvs) := (Ex.new hpt) _ _ hqf5
                    walk_at "w"
                    refine fin ((e'.trans (e5.trans (Ex.new hpt))).mut hq2) upd_same ?_
                    unfold allowStep
                    rw [if_neg no, if_neg (by rw [eh]; exact Bool.false_ne_true)]
                    refine paired_app (ColsV.upd hqf6 (hff.ext (e5.trans (Ex.new hpt)))) (.cons (ColAt.upd hqf6 ⟨pt, rfl, ?_⟩) .nil)
                    rw [upd_same]
                    cases c with
                    | link n t o l => rfl
                    | plain f n => cases hL
                    | word n o => cases hL
            · obtain ⟨e', md, mr, fvs, x, ecs, pd, pr, rfl, hqf', hff⟩ := h
              cases pr
              rw [List.append_nil] at ecs
              subst ecs
              walk_at "w"
              refine k qf H' (e02.trans e') ⟨fvs, hqf', ?_⟩
              rw [show allowed ts cs = cs.filterMap (allowStep ts first) by unfold allowed; rw [eL]; show (if cs.any (isHeavy ts) = true then _ else cs) = _; rw [eA]; rfl]
              exact hff
end
end LP
namespace LP
open PySem L2
open Evl (Ex)
/-- what is carried through a turn -/
structure Car (b qc : Addr) (cs : List Col) (cvs : List V) (H H' : Hp) : Prop where
  ex : Ex (del b H) H'
  hq : H' qc = some (.lst cvs)
  hc : ColsV (del b H') cvs cs
theorem Car.step {b qc : Addr} {cs : List Col} {cvs : List V} {H H' H'' : Hp} (ne : qc ≠ b) (c : Car b qc cs cvs H H') (e : Ex (del b H') H'') : Car b qc cs cvs H H'' :=
  ⟨ex_dtrans c.ex e, e _ _ (by rw [del_ne ne]; exact c.hq), c.hc.ext (ex_dd e)⟩
theorem Car.new {b qc : Addr} {cs : List Col} {cvs : List V} {H H' H'' : Hp} (ne : qc ≠ b) (c : Car b qc cs cvs H H') (e : Ex H' H'') : Car b qc cs cvs H H'' := c.step ne (ex_del.trans e)
def DCInv (b p qc : Addr) (most : Int) (ts : Tabs) (n : Nat) (H : Hp) (i : Nat) (σ' : L2.St) (H' : Hp) : Prop :=
  ∃ x4 x5 x6 x8 x9 x12 cvs cs, σ' = [some (.ref b), some (.ref p), some (.int most), some (.ref qc), x4, x5, x6, none, x8, x9, none, none, x12] ∧ BagAt H' b (n + 1 + 24 * i) ∧ Car b qc cs cvs H H' ∧ PreCols ts cs ∧ cs.length ≤ i
theorem DCInv.app {b p qc : Addr} {most : Int} {ts : Tabs} {n i m : Nat} {H H8 : Hp} {cs : List Col} {cvs : List V} {c : Col} {pt : Addr} {x4 x5 x6 x8 x9 x12 : Option V} (fqc : del b H qc = none) (ne : qc ≠ b) (hB : BagAt H8 b m) (hm : m ≤ n + 1 + 24 * (i + 1)) (car : Car b qc cs cvs H H8)
    (pre : PreCols ts (cs ++ [c])) (l : cs.length ≤ i) (hpt : H8 pt = none) :
    DCInv b p qc most ts n H (i + 1) [some (.ref b), some (.ref p), some (.int most), some (.ref qc), x4, x5, x6, none, x8, x9, none, none, x12] (upd (upd H8 pt (.tup c.vals)) qc (.lst (cvs ++ [.ref pt]))) := by
  have car2 := car.new ne (Ex.new (o := .tup c.vals) hpt)
  have hB2 := hB.new (o := .tup c.vals) hpt
  have hB3 : BagAt (upd (upd H8 pt (.tup c.vals)) qc (.lst (cvs ++ [.ref pt]))) b m := hB2.upd ne.symm
  refine ⟨x4, x5, x6, x8, x9, x12, cvs ++ [.ref pt], cs ++ [c], rfl, hB3.mono hm, ⟨car2.ex.mut fqc, upd_same, ?_⟩, pre, by rw [List.length_append]; show cs.length + 1 ≤ i + 1; omega⟩
  exact ColsV.del hB3 (paired_app (ColsV.upd car2.hq (car2.hc.ext ex_del)) (.cons (ColAt.upd car2.hq ⟨pt, rfl, upd_same⟩) .nil))
section
variable {base : Heap} {mg : Str → Option Value} {K : PySem.W.Frag} {w : World} {P : Program}
theorem ok_draw_columns {f : Addr} {fd : FuncData} (D : C8.Def K mg "_law_draw_columns" s__law_draw_columns f fd) (b : Binds K fd ["bag", "tables", "most"] []) (B : Blt mg)
    (c__law_take : C8.Cal P w K mg base 1 "_law_take" spTake []) (c__law_of : C8.Cal P w K mg base 2 "_law_of" (spOf K) []) (c__law_new_name : C8.Cal P w K mg base 3 "_law_new_name" (spNewName K) [])
    (c__law_names_taken : C8.Cal P w K mg base 2 "_law_names_taken" (spNamesTaken K) []) (c__law_allowed : C8.Cal P w K mg base 4 "_law_allowed" (spAllowed K) []) :
    C8.Cal P w K mg base 5 "_law_draw_columns" (spDrawColumns K) [] := by
  have sc : FnScope ["bag", "tables", "most", "columns", "turn", "name", "road", "column", "may_lack_v", "target", "table", "others", "listed"] ["bag", "tables", "most"] (C8.fnScope s__law_draw_columns) := C8.fnScope_by (by decide +kernel)
  refine C8.cal0 D b .nil sc (fun vs H Q E h => ?_) (fun cdv A outer s H vs Q E hr h => ?_)
  · obtain ⟨_, _, _, _, _, rfl, _⟩ := h
    rfl
  · obtain ⟨b, p, ts, most, n, rfl, hB, hn, hT, hG, hl, hm0, hm1, k⟩ := h
    refine ⟨_, (pss_cons (ps_set (i := 3) sc.nd rfl (Or.inl rfl) (pe_lst pa_nil))
        (pss_cons (ps_for PassesOwn.never rfl (pi_range1 (by rfl) B.range_ (pa_cons (C8.pe_c c__law_take hr (by decide) rfl (pa_cons (pv 0) (pa_cons (pe_op op_add (pv 2) pe_int) pa_nil))) pa_nil)) (pg_name (i := 4) sc.nd rfl (Or.inl rfl))
        (pss_cons (ps_par (i := 5) (j := 6) (by rfl) sc.nd rfl rfl (by decide) rfl rfl (pa_cons (C8.pe_c c__law_new_name hr (by decide) rfl (pa_cons (pv 0) (pa_cons (pe_lc (own := [("column", 7)]) (g := (gName 7)) (by rfl) sc.nd (pi_listK (K := K) rfl (pv 3)) (blkOk_by (own := [("column", 7)]) (N := ["bag", "tables", "most", "columns", "turn", "name", "road", "column", "may_lack_v", "target", "table", "others", "listed"]) (sc := C8.fnScope s__law_draw_columns) (by decide +kernel)) (fun _ _ _ _ _ => (pg_name (i := 7) sc.nd rfl (Or.inl rfl))) (fun _ _ _ _ _ => pts_nil) (fun _ _ _ _ _ => (pe_ix (ix_tupK (K := K) rfl) (pv 7) pe_int (fun _ _ => rfl)))) pa_nil))) (pa_cons (C8.pe_c c__law_take hr (by decide) rfl (pa_cons (pv 0) (pa_cons pe_int pa_nil))) pa_nil)) (by rfl))
        (pss_cons (ps_set (i := 8) sc.nd rfl (Or.inl rfl) (pe_cmpR op_eq (C8.pe_c c__law_take hr (by decide) rfl (pa_cons (pv 0) (pa_cons pe_int pa_nil))) pe_int (nomark _)))
        (pss_one (ps_if (pt_cmpR op_lt (pv 6) pe_int (nomark _))
        (pss_one (ps_expr (pe_bmK (K := K) rfl PySem.F.plainAttrs_list PySem.F.slot_list_append PySem.F.type_list_append mt_append (pv 3) (pa_cons (pe_tup (pa_cons (C8.pe_c c__law_of hr (by decide) rfl (pa_cons (pv 0) (pa_cons (pe_lst (pa_cons pe_str (pa_cons pe_str pa_nil))) pa_nil))) (pa_cons (pv 5) pa_nil))) pa_nil))))
        (pss_one (ps_if (PW.pt (pw_or (pt_cmpR op_eq (pv 6) pe_int (nomark _)) (pw_or1 (pt_cmpR (op_eqDK (K := K) rfl (hu64 hr)) (pv 1) (pe_lst pa_nil) (nomark _)))))
        (pss_one (ps_expr (pe_bmK (K := K) rfl PySem.F.plainAttrs_list PySem.F.slot_list_append PySem.F.type_list_append mt_append (pv 3) (pa_cons (pe_tup (pa_cons pe_str (pa_cons (pv 5) (pa_cons (pv 8) pa_nil)))) pa_nil))))
        (pss_cons (ps_set (i := 9) sc.nd rfl (Or.inl rfl) (C8.pe_c c__law_of hr (by decide) rfl (pa_cons (pv 0) (pa_cons (pe_lc (own := [("table", 10), ("others", 11)]) (by rfl) sc.nd (pi_listK (K := K) rfl (pv 1)) (blkOk_by (own := [("table", 10), ("others", 11)]) (N := ["bag", "tables", "most", "columns", "turn", "name", "road", "column", "may_lack_v", "target", "table", "others", "listed"]) (sc := C8.fnScope s__law_draw_columns) (by decide +kernel)) (fun _ _ _ _ _ => (pg_tupK (K := K) (n := 2) rfl rfl (pgs_cons (pg_name (i := 10) sc.nd rfl (Or.inl rfl)) (pgs_cons (pg_name (i := 11) sc.nd rfl (Or.inl rfl)) pgs_nil)))) (fun _ _ _ _ _ => pts_nil) (fun _ _ _ _ _ => (pv 10))) pa_nil))))
        (pss_cons (ps_set (i := 12) sc.nd rfl (Or.inl rfl) (pe_ifExp (pt_cmpR op_gt (C8.pe_c c__law_take hr (by decide) rfl (pa_cons (pv 0) (pa_cons pe_int pa_nil))) pe_int (nomark _)) (C8.pe_c c__law_new_name hr (by decide) rfl (pa_cons (pv 0) (pa_cons (C8.pe_c c__law_names_taken hr (by decide) rfl (pa_cons (pv 1) (pa_cons (pv 3) (pa_cons (pv 9) pa_nil)))) pa_nil))) pe_non))
        (pss_one (ps_expr (pe_bmK (K := K) rfl PySem.F.plainAttrs_list PySem.F.slot_list_append PySem.F.type_list_append mt_append (pv 3) (pa_cons (pe_tup (pa_cons pe_str (pa_cons (pv 5) (pa_cons (pv 9) (pa_cons (pv 8) (pa_cons (pv 12) pa_nil)))))) pa_nil)))))))))))))
        (pss_one (ps_ret (C8.pe_c c__law_allowed hr (by decide) rfl (pa_cons (pv 1) (pa_cons (pv 3) pa_nil))))))), ?_⟩
    walk_at "w"
    intro qc hqc
    have bqc := hB.ne_none hqc
    walk_at "w"
    refine ⟨b, most + 1, n, rfl, hB.upd bqc, by omega, by omega, by omega, fun z H1 z0 z1 hB1 e1 => ?_⟩
    walk_at "w"
    have fqc : del b H qc = none := by rw [del_ne bqc.symm]; exact hqc
    have qcb : qc ≠ b := bqc.symm
    have ex1 : Ex (del b H) H1 := (ex_dd (ex_new_d hqc)).trans e1
    have hqc1 : H1 qc = some (.lst []) := e1 _ _ (by rw [del_ne qcb]; exact upd_same)
    refine loopR (DCInv b p qc most ts n H) ⟨_, _, _, _, _, _, [], [], rfl, hB1, ⟨ex1, hqc1, .nil⟩, PreCols.nil ts, Nat.le_refl _⟩ (fun i σ' H2 hi h => ?_) (fun σ' H2 h => ?_)
    · obtain ⟨x4, x5, x6, x8, x9, x12, cvs, cs, rfl, hB2, car2, pre, lcs⟩ := h
      have lcv := paired_len car2.hc
      have hq2 := car2.hq
      walk_at "w"
      intro D hD
      refine compQ cs (ColAt H2) (fun c => some (some c.name)) (fun v x => v = vOpt x) hD (SqL.of hq2) (by omega) (car2.hc.ext ex_del) (fun y c hy hm H3 e3 kk kn hk hn => ?_) (fun acc H3 e3 hacc hp => ?_)
      · obtain ⟨a, rfl, ha⟩ := hy
        have ha3 := e3 _ _ ha
        walk_at "w"
        refine w_ixT (SqT.of ha3) c.at1 ?_
        exact hk _ _ _ (Ex.refl _) rfl rfl
      · rw [filterMap_some] at hp
        have ev := vals_opts hp
        have Db : D ≠ b := (hB2.ne_none hD).symm
        have car3 := car2.new qcb e3
        walk_at "w"
        refine ⟨b, D, cs.map (fun c => some c.name), n + 1 + 24 * i, rfl, hB2.ext e3, by omega, SqL.of (by rw [del_ne Db, ← ev]; exact hacc), by rw [List.length_map]; omega, fun nw H4 hnw hfr hB4 e4 => ?_⟩
        have hfr' : nw ∉ cs.map Col.name := fun h => hfr (by obtain ⟨c, hc, rfl⟩ := List.mem_map.mp h; exact List.mem_map.mpr ⟨c, hc, rfl⟩)
        have car4 := car3.step qcb e4
        walk_at "w"
        refine ⟨b, 7, _, rfl, hB4, by omega, by decide, by decide, fun road H5 r0 r1 hB5 e5 => ?_⟩
        have car5 := car4.step qcb e5
        walk_at "w"
        refine ⟨b, 2, _, rfl, hB5, by omega, by decide, by decide, fun lk H6 k0 k1 hB6 e6 => ?_⟩
        have car6 := car5.step qcb e6
        have hq6 := car6.hq
        walk_at "w"
        generalize decide (V.int lk = V.int 1) = may
        refine iteD (fun h1 => ?_) (fun h1 => ?_)
        · walk_at "w"
          intro pl hpl
          have car7 := car6.new qcb (Ex.new (o := .lst [.str "flag", .str "number"]) hpl)
          have plb : pl ≠ b := (hB6.ne_none hpl).symm
          walk_at "w"
          refine ⟨b, pl, [.str "flag", .str "number"], _, rfl, hB6.new hpl, by omega, SqL.of (by rw [del_ne plb]; exact upd_same), by simp, by simp, fun v H8 hv hB8 e8 => ?_⟩
          have car8 := car7.step qcb e8
          obtain ⟨fl, rfl⟩ : ∃ fl : Bool, v = .str (if fl then "flag" else "number") := by
            rcases List.mem_cons.1 hv with rfl | hv
            · exact ⟨true, rfl⟩
            · rw [List.mem_singleton.1 hv]
              exact ⟨false, rfl⟩
          walk_at "w"
          intro pt hpt
          walk_at "w"
          have hq9 := (car8.new qcb (Ex.new (o := .tup (Col.plain fl nw).vals) hpt)).hq
          refine w_app hq9 (Nat.lt_of_lt_of_le (m := 1000) (by omega) (by decide)) ?_
          exact DCInv.app (c := .plain fl nw) fqc qcb hB8 (by omega) car8 (pre.snoc hnw hfr' (fun h => nomatch h) (fun l h => nomatch h)) lcs hpt
        · walk_at "w"
          have word : ∀ {H7 : Hp} {pt : Addr}, Ex H6 H7 → H7 pt = none → DCInv b p qc most ts n H (i + 1) [some (.ref b), some (.ref p), some (.int most), some (.ref qc), some (.int (i : Int)), some (.str nw), some (.int road), none, some (.bl may), x9, none, none, x12] (upd (upd H7 pt (.tup (Col.word nw may).vals)) qc (.lst (cvs ++ [.ref pt]))) := fun e7 hpt =>
            DCInv.app (c := .word nw may) fqc qcb (hB6.ext e7) (by omega) (car6.new qcb e7) (pre.snoc hnw hfr' (fun h => nomatch h) (fun l h => nomatch h)) lcs hpt
          refine iteD (fun h2 => ?_) (fun h2 => ?_)
          · walk_at "w"
            intro pt hpt
            walk_at "w"
            have hq9 := (car6.new qcb (Ex.new (o := .tup (Col.word nw may).vals) hpt)).hq
            refine w_app hq9 (Nat.lt_of_lt_of_le (m := 1000) (by omega) (by decide)) ?_
            exact word (Ex.refl _) hpt
          · walk_at "w"
            intro pn hpn
            have e67 : Ex H6 (upd H6 pn (.lst [])) := Ex.new hpn
            obtain ⟨tvs, hx, ht⟩ := (hT.ext (ex_dd (car6.new qcb e67).ex)).ext ex_del
            have hB7 := hB6.new (o := .lst []) hpn
            have car7 := car6.new qcb e67
            have hpn7 : (upd H6 pn (.lst [])) pn = some (.lst []) := upd_same
            generalize (upd H6 pn (.lst [])) = H7 at e67 hx ht hB7 car7 hpn7 ⊢
            refine ⟨.list (ts.map tData), .list [], .lst hx (TabsV.dp ht), .lst (SqL.of hpn7) .nil, shaped_tabs hG, shaped_nil, ?_⟩
            rw [eqv_tnil]
            have hq7 := car7.hq
            cases et : ts with
            | nil =>
              rw [List.isEmpty_nil]
              walk_at "w"
              intro pt hpt
              walk_at "w"
              have hq9 := (car7.new qcb (Ex.new (o := .tup (Col.word nw may).vals) hpt)).hq
              refine w_app hq9 (Nat.lt_of_lt_of_le (m := 1000) (by omega) (by decide)) ?_
              rw [← et]
              exact word e67 hpt
            | cons t0 tr =>
              rw [List.isEmpty_cons, ← et]
              walk_at "w"
              intro D9 hD9
              have hlt := paired_len ht
              refine compQ ts (TabAt H7) (fun t => some t.1) (fun v x => v = V.str x) hD9 hx (by omega) ht (fun y t hy hm H8 e8 kk kn hk hn => ?_) (fun acc9 H8 e8 hacc9 hp9 => ?_)
              · obtain ⟨a, pc, rfl, ha, _⟩ := hy
                have ha3 := e8 _ _ ha
                walk_at "w"
                exact hk _ _ _ (Ex.refl _) rfl rfl
              · rw [filterMap_some] at hp9
                have ev9 := vals_strs hp9
                have D9b : D9 ≠ b := (hB7.ne_none hD9).symm
                have car8 := car7.new qcb e8
                have hB8 := hB7.ext e8
                walk_at "w"
                refine ⟨b, D9, acc9, _, rfl, hB8, by omega, SqL.of (by rw [del_ne D9b]; exact hacc9), by rw [ev9, et]; simp, by rw [ev9, List.length_map, List.length_map]; omega, fun v H9 hv hB9 e9 => ?_⟩
                obtain ⟨tg, htg, rfl⟩ : ∃ tg, tg ∈ ts.map (·.1) ∧ v = V.str tg := by
                  rw [ev9] at hv
                  obtain ⟨tg, h, e⟩ := List.mem_map.mp hv
                  exact ⟨tg, h, e.symm⟩
                have car9 := car8.step qcb e9
                walk_at "w"
                refine ⟨b, 3, _, rfl, hB9, by omega, by decide, by decide, fun z3 H10 y0 y1 hB10 e10 => ?_⟩
                have car10 := car9.step qcb e10
                walk_at "w"
                refine iteD (fun h3 => ?_) (fun h3 => ?_)
                · walk_at "w"
                  refine ⟨p, qc, ts, cs, tg, rfl, (hT.ext (ex_dd car10.ex)).ext ex_del, hG.few (by omega), ⟨cvs, SqL.of car10.hq, car10.hc.ext ex_del⟩, by omega, fun q H11 hq e11 hq11 => ?_⟩
                  have qb : q ≠ b := (hB10.ne_none hq).symm
                  have car11 := car10.new qcb e11
                  have hB11 := hB10.ext e11
                  have tl := taken_len tg (ts := ts) (fun t ht => Nat.le_trans (hG.cols t ht) (by omega))
                  have tl2 := ll_len cs tg
                  walk_at "w"
                  refine ⟨b, q, namesTaken ts cs tg, _, rfl, hB11, by omega, SqL.of (by rw [del_ne qb]; exact hq11), by unfold namesTaken; rw [List.length_append]; omega, fun ln H12 hln hfr2 hB12 e12 => ?_⟩
                  have car12 := car11.step qcb e12
                  have hq12 := car12.hq
                  walk_at "w"
                  intro pt hpt
                  walk_at "w"
                  have hq13 := (car12.new qcb (Ex.new (o := .tup (Col.link nw tg may (some ln)).vals) hpt)).hq
                  refine w_app hq13 (Nat.lt_of_lt_of_le (m := 1000) (by omega) (by decide)) ?_
                  exact DCInv.app (c := .link nw tg may (some ln)) fqc qcb hB12 (by omega) car12 (pre.snoc hnw hfr' (fun _ => htg) (fun l h => by cases h; exact ⟨hln, hfr2⟩)) lcs hpt
                · have hq10 := car10.hq
                  walk_at "w"
                  intro pt hpt
                  walk_at "w"
                  have hq13 := (car10.new qcb (Ex.new (o := .tup (Col.link nw tg may none).vals) hpt)).hq
                  refine w_app hq13 (Nat.lt_of_lt_of_le (m := 1000) (by omega) (by decide)) ?_
                  exact DCInv.app (c := .link nw tg may none) fqc qcb hB10 (by omega) car10 (pre.snoc hnw hfr' (fun _ => htg) (fun l h => nomatch h)) lcs hpt
    · obtain ⟨x4, x5, x6, x8, x9, x12, cvs, cs, rfl, hB2, car2, pre, lcs⟩ := h
      walk_at "w"
      have hc2 : ColsAt H2 qc cs := ⟨cvs, car2.hq, car2.hc.ext ex_del⟩
      refine ⟨p, qc, ts, cs, rfl, hT.ext car2.ex, hG.few (by omega), hc2, by omega, pre.ok hG, fun q H3 e3 hq3 => ?_⟩
      have hB3 := hB2.ext e3
      have la := allowed_len ts cs
      exact k q H3 _ (hq3.del hB3) { toPreCols := pre.allowed, few := by omega, r6 := allowed_r6 hG pre } (hB3.mono (by omega)) (car2.ex.trans e3)
end
end LP
namespace LP
open PySem L2
open Evl (Ex)
theorem TabAt.dl {H : Hp} {b : Addr} {n : Nat} {v : V} {t : Str × List Col} (hB : BagAt H b n) (h : TabAt H v t) : TabAt (del b H) v t := by
  obtain ⟨a, p, ev, ha, hc⟩ := h
  exact ⟨a, p, ev, by rw [del_ne (hB.tup_ne ha)]; exact ha, hc.del hB⟩
theorem TabsV.dl {H : Hp} {b : Addr} {n : Nat} {vs : List V} {ts : Tabs} (hB : BagAt H b n) (h : TabsV H vs ts) : TabsV (del b H) vs ts := paired_imp (fun _ _ => TabAt.dl hB) h
theorem TabsV.refs {H : Hp} {vs : List V} {ts : Tabs} (h : TabsV H vs ts) : ∀ i j k : Int, vs ≠ [.int i, .int j, .int k] := by
  intro i j k e
  subst e
  cases h with
  | cons h _ =>
    obtain ⟨a, p, e, _⟩ := h
    cases e
theorem TabsAt.dl {H : Hp} {b q : Addr} {n : Nat} {ts : Tabs} (hB : BagAt H b n) (h : TabsAt H q ts) : TabsAt (del b H) q ts := by
  obtain ⟨vs, hq, hv⟩ := h
  exact ⟨vs, by rw [del_ne (hB.ne hq hv.refs)]; exact hq, hv.dl hB⟩
section
variable {base : Heap} {mg : Str → Option Value} {K : PySem.W.Frag} {w : World} {P : Program}
theorem ok_draw_tables {f : Addr} {fd : FuncData} (D : C8.Def K mg "_law_draw_tables" s__law_draw_tables f fd) (b : Binds K fd ["bag", "least", "most"] []) (B : Blt mg)
    (c__law_take : C8.Cal P w K mg base 1 "_law_take" spTake []) (c__law_of : C8.Cal P w K mg base 2 "_law_of" (spOf K) []) (c__law_new_name : C8.Cal P w K mg base 3 "_law_new_name" (spNewName K) [])
    (c__law_draw_columns : C8.Cal P w K mg base 5 "_law_draw_columns" (spDrawColumns K) []) :
    C8.Cal P w K mg base 6 "_law_draw_tables" (spDrawTables K) [] := by
  have sc : FnScope ["bag", "least", "most", "tables", "turn", "name", "table", "columns"] ["bag", "least", "most"] (C8.fnScope s__law_draw_tables) := C8.fnScope_by (by decide +kernel)
  refine C8.cal0 D b .nil sc (fun vs H Q E h => ?_) (fun cdv A outer s H vs Q E hr h => ?_)
  · obtain ⟨_, _, _, _, rfl, _⟩ := h
    rfl
  · obtain ⟨b, least, most, n, rfl, hB, hn, h1, h2, h3, k⟩ := h
    refine ⟨_, (pss_cons (ps_set (i := 3) sc.nd rfl (Or.inl rfl) (pe_lst pa_nil))
        (pss_cons (ps_for PassesOwn.never rfl (pi_range1 (by rfl) B.range_ (pa_cons (pe_op op_add (pv 1) (C8.pe_c c__law_take hr (by decide) rfl (pa_cons (pv 0) (pa_cons (pe_op op_sub (pe_op op_add (pv 2) pe_int) (pv 1)) pa_nil)))) pa_nil)) (pg_name (i := 4) sc.nd rfl (Or.inl rfl))
        (pss_cons (ps_set (i := 5) sc.nd rfl (Or.inl rfl) (C8.pe_c c__law_new_name hr (by decide) rfl (pa_cons (pv 0) (pa_cons (pe_lc (own := [("table", 6), ("columns", 7)]) (by rfl) sc.nd (pi_listK (K := K) rfl (pv 3)) (blkOk_by (own := [("table", 6), ("columns", 7)]) (N := ["bag", "least", "most", "tables", "turn", "name", "table", "columns"]) (sc := C8.fnScope s__law_draw_tables) (by decide +kernel)) (fun _ _ _ _ _ => (pg_tupK (K := K) (n := 2) rfl rfl (pgs_cons (pg_name (i := 6) sc.nd rfl (Or.inl rfl)) (pgs_cons (pg_name (i := 7) sc.nd rfl (Or.inl rfl)) pgs_nil)))) (fun _ _ _ _ _ => pts_nil) (fun _ _ _ _ _ => (pv 6))) pa_nil))))
        (pss_one (ps_set (i := 3) sc.nd rfl (Or.inl rfl) (pe_op op_cat (pv 3) (pe_lst (pa_cons (pe_tup (pa_cons (pv 5) (pa_cons (C8.pe_c c__law_draw_columns hr (by decide) rfl (pa_cons (pv 0) (pa_cons (pv 3) (pa_cons (C8.pe_c c__law_of hr (by decide) rfl (pa_cons (pv 0) (pa_cons (pe_lst (pa_cons pe_int (pa_cons pe_int (pa_cons pe_int (pa_cons pe_int pa_nil))))) pa_nil))) pa_nil)))) pa_nil))) pa_nil)))))))
        (pss_one (ps_ret (pv 3))))), ?_⟩
    walk_at "w"
    intro q0 hq0
    have hB0 := hB.new (o := .lst []) hq0
    walk_at "w"
    refine ⟨b, most + 1 - least, n, rfl, hB0, by omega, by omega, by omega, fun z H1 z0 z1 hB1 e1 => ?_⟩
    have ex1 : Ex (del b H) H1 := (ex_dd (ex_new_d hq0)).trans e1
    have q0b : q0 ≠ b := (hB.ne_none hq0).symm
    have hq1 : H1 q0 = some (.lst []) := e1 _ _ (by rw [del_ne q0b]; exact upd_same)
    walk_at "w"
    refine loopR (fun i σ' H' => ∃ x4 x5 q ts, σ' = [some (.ref b), some (.int least), some (.int most), some (.ref q), x4, x5, none, none] ∧ BagAt H' b (n + 1 + 300 * i) ∧ Ex (del b H) H' ∧ TabsAt (del b H') q ts ∧ GoodTabs ts ∧ ts.length = i)
      ⟨_, _, q0, [], rfl, hB1, ex1, ⟨[], by rw [del_ne q0b]; exact hq1, .nil⟩, .nil, rfl⟩ (fun i σ' H2 hi h => ?_) (fun σ' H2 h => ?_)
    · obtain ⟨x4, x5, q, ts, rfl, hB2, ex2, ⟨tvs, hq2, ht2⟩, hG, hl⟩ := h
      have hq2' : H2 q = some (.lst tvs) := ex_del _ _ hq2
      have ll := paired_len ht2
      walk_at "w"
      intro D hD
      refine compQ ts (TabAt H2) (fun t => some (some t.1)) (fun v x => v = vOpt x) hD (SqL.of hq2') (by omega) (ht2.ext ex_del) (fun y t hy hm H3 e3 kk kn hk hn => ?_) (fun acc H3 e3 hacc hp => ?_)
      · obtain ⟨a, pc, rfl, ha, _⟩ := hy
        have ha3 := e3 _ _ ha
        walk_at "w"
        exact hk _ _ _ (Ex.refl _) rfl rfl
      · rw [filterMap_some] at hp
        have ev := vals_opts hp
        have Db : D ≠ b := (hB2.ne_none hD).symm
        have hB3 := hB2.ext e3
        walk_at "w"
        refine ⟨b, D, ts.map (fun t => some t.1), _, rfl, hB3, by omega, SqL.of (by rw [del_ne Db, ← ev]; exact hacc), by rw [List.length_map]; omega, fun nw H4 hnw hfr hB4 e4 => ?_⟩
        have hfr' : nw ∉ ts.map (·.1) := fun h => hfr (by obtain ⟨t, ht, rfl⟩ := List.mem_map.mp h; exact List.mem_map.mpr ⟨t, ht, rfl⟩)
        walk_at "w"
        intro pl hpl
        have plb : pl ≠ b := (hB4.ne_none hpl).symm
        walk_at "w"
        refine ⟨b, pl, [.int 2, .int 3, .int 4, .int 6], _, rfl, hB4.new hpl, by omega, SqL.of (by rw [del_ne plb]; exact upd_same), by simp, by simp, fun v H5 hv hB5 e5 => ?_⟩
        obtain ⟨m, rfl, m0, m1⟩ : ∃ m : Int, v = .int m ∧ 0 ≤ m ∧ m ≤ 6 := by
          simp only [List.mem_cons, List.not_mem_nil, or_false] at hv
          rcases hv with rfl | rfl | rfl | rfl
          · exact ⟨2, rfl, by decide, by decide⟩
          · exact ⟨3, rfl, by decide, by decide⟩
          · exact ⟨4, rfl, by decide, by decide⟩
          · exact ⟨6, rfl, by decide, by decide⟩
        have e25 : Ex (del b H2) (del b H5) := ((ex_dd (ex_del.trans e3)).trans (ex_dd e4)).trans ((ex_dd (ex_new_d hpl)).trans (ex_dd e5))
        walk_at "w"
        refine ⟨b, q, ts, m, _, rfl, hB5, by omega, ⟨tvs, SqL.of (e25 _ _ hq2), ht2.ext e25⟩, hG, by omega, m0, m1, fun qc H6 cs hcs hgood hB6 e6 => ?_⟩
        have e26 : Ex (del b H2) (del b H6) := e25.trans (ex_dd e6)
        walk_at "w"
        intro pt hpt
        walk_at "w"
        intro p2 hp2
        walk_at "w"
        have e68 : Ex H6 (upd (upd H6 pt (.tup [.str nw, .ref qc])) p2 (.lst [.ref pt])) := (Ex.new hpt).trans (Ex.new hp2)
        have hpt8 : (upd (upd H6 pt (.tup [.str nw, .ref qc])) p2 (.lst [.ref pt])) pt = some (.tup [.str nw, .ref qc]) := (Ex.new hp2) _ _ upd_same
        have hp28 : (upd (upd H6 pt (.tup [.str nw, .ref qc])) p2 (.lst [.ref pt])) p2 = some (.lst [.ref pt]) := upd_same
        generalize (upd (upd H6 pt (.tup [.str nw, .ref qc])) p2 (.lst [.ref pt])) = H8 at e68 hpt8 hp28 ⊢
        refine w_cat (e68 _ _ (ex_del _ _ (e26 _ _ hq2))) hp28 (Nat.le_trans (m := 1000) (by rw [ll, List.length_cons, List.length_nil]; omega) (by decide)) fun q' hq' => ?_
        have hB9 := (hB6.ext e68).new (o := .lst (tvs ++ [.ref pt])) hq'
        have e89 : Ex H8 (upd H8 q' (.lst (tvs ++ [.ref pt]))) := Ex.new hq'
        have e69 : Ex H6 (upd H8 q' (.lst (tvs ++ [.ref pt]))) := e68.trans e89
        walk_at "w"
        refine ⟨_, _, q', ts ++ [(nw, cs)], rfl, hB9.mono (by omega), (((ex_dd ex2).trans e26).trans (ex_del.trans e69)), ?_, hG.snoc hnw hfr' hgood, by rw [List.length_append, hl]; rfl⟩
        · exact TabsAt.dl hB9 ⟨tvs ++ [.ref pt], upd_same, paired_app ((ht2.ext e26).ext (ex_del.trans e69)) (.cons ⟨pt, qc, rfl, e89 _ _ hpt8, (hcs.ext ex_del).ext e69⟩ .nil)⟩
    · obtain ⟨x4, x5, q, ts, rfl, hB2, ex2, ht2, hG, hl⟩ := h
      walk_at "w"
      exact k q H2 ts ht2 hG (by omega) (by omega) (hB2.mono (by omega)) ex2
end
end LP
namespace LP
open PySem L2
open Evl (Ex)
section
variable {K : PySem.W.Frag} {a : Addr} {g : TG} {tt : TT} {te : TE} {vs : List Nat} {σ : L2.St} {H1 : Hp} {D : Addr} {Qd : Hp → Prop}
/-- a comprehension over the signs of a text: each sign has its value, nothing but new things comes of a turn -/
theorem compS {z : Str} (val : Nat → V) (hD : H1 D = none) (hlen : z.length ≤ 90000)
    (hs : ∀ c, c ∈ z.cps.toList → ∀ H, Ex H1 H → ∀ (k : V → Hp → Prop) (kn : Hp → Prop), (∀ H4, Ex H H4 → k (val c) H4) →
      g (.str ⟨#[c]⟩) (wipe σ vs) H fun σ2 H2 => wipe σ2 vs = wipe σ vs ∧ tt σ2 H2 fun b H3 => if b = true then te σ2 H3 k else kn H3)
    (hd : ∀ H, Ex H1 H → H D = some (.lst (z.cps.toList.map val)) → Qd H) :
    ∃ W : Nat →
            Nat → Hp → Prop, (∃ m, W 0 m (upd H1 D (.lst []))) ∧ ∀ i m H, W i m H →
      ((Its z).stop i H ∧ Qd H) ∨ ((Its z).go i H ∧ ∃ Go : Hp → Prop, (∀ H', Go H' → ∃ m', m' < m ∧ W (i + 1) m' H') ∧ ∀ x H', (Its z).yld i H x H' → g x (wipe σ vs) H' fun σ2 H2 => wipe σ2 vs = wipe σ vs ∧ tt σ2 H2 fun b H3 =>
        if b = true then te σ2 H3 fun y H4 => ∃ got, H4 D = some (.lst got) ∧ got.length < sizeLine ∧ Go (upd H4 D (.lst (got ++ [y]))) else Go H3) := by
  have hz : z.cps.size = z.cps.toList.length := by simp
  have hl0 : z.cps.size ≤ 90000 := hlen
  refine ⟨fun i m H => m = z.cps.size - i ∧ i ≤ z.cps.size ∧ Ex H1 H ∧ H D = some (.lst ((z.cps.toList.take i).map val)), ⟨z.cps.size, by simp, Nat.zero_le _, Ex.new hD, upd_same⟩, ?_⟩
  rintro i m H ⟨rfl, hi, e, ha⟩
  by_cases hlt : i < z.cps.size
  · refine .inr ⟨hlt, fun H => Ex H1 H ∧ H D = some (.lst ((z.cps.toList.take (i + 1)).map val)), fun H' p' => ⟨z.cps.size - (i + 1), by omega, rfl, hlt, p'⟩, fun x H' y => ?_⟩
    obtain ⟨e', c, hc, rfl⟩ := y
    subst e'
    have hx : z.cps.toList[i]? = some c := by rw [Array.getElem?_toList]; exact hc
    have e2 : z.cps.toList.take (i + 1) = z.cps.toList.take i ++ [c] := by
      rw [List.take_succ, hx]
      rfl
    refine hs c (List.mem_of_getElem? hx) H' e _ _ fun H4 e4 => ?_
    refine ⟨_, e4 _ _ ha, ?_, (e.trans e4).mut hD, ?_⟩
    · have : ((z.cps.toList.take i).map val).length ≤ 90000 := by simp only [List.length_map, List.length_take]; omega
      exact Nat.lt_of_le_of_lt this (by decide)
    · rw [e2, List.map_append]
      exact upd_same
  · refine .inl ⟨by show z.cps.size ≤ i; omega, hd H e ?_⟩
    have : i = z.cps.toList.length := by omega
    rw [this, List.take_length] at ha
    exact ha
end
def spStart (K : PySem.W.Frag) : Sp := fun vs H Q _ => ∃ (p : Addr) (is : List Int) (k : Nat), vs = [.ref p, .int k] ∧ SqL K H p (is.map V.int) ∧ is.length ≤ 1000 ∧ k ≤ 60 ∧
  ∀ (q : Addr) (H' : Hp), H q = none → BagAt H' q 0 → Ex H H' → Q (.ref q) H'
def spDue (K : PySem.W.Frag) : Sp := fun vs H Q _ => ∃ (v : V) (d : PyData), vs = [v] ∧ Dp K H v d ∧ (∀ x, d = .str x → x.length ≤ 4000) ∧ ∀ H', Ex H H' → Q (.bl (strD nameB d)) H'
theorem mem_letters (c : Nat) : c ∈ (Str.ofString "abcdefghijklmnopqrstuvwxyz").cps.toList ↔ 97 ≤ c ∧ c ≤ 122 := by
  rw [show (Str.ofString "abcdefghijklmnopqrstuvwxyz").cps.toList = (List.range 26).map (· + 97) from letters_tl]
  simp only [List.mem_map,
          List.mem_range]
  constructor
  · rintro ⟨j, h, rfl⟩
    omega
  · rintro ⟨h1, h2⟩
    exact ⟨c - 97, by omega, by omega⟩
section
variable {base : Heap} {mg : Str → Option Value} {K : PySem.W.Frag} {w : World} {P : Program}
theorem ok_start {f : Addr} {fd : FuncData} (D : C8.Def K mg "_law_start" s__law_start f fd) (b : Binds K fd ["script", "at"] []) (B : Blt mg) : C8.Cal P w K mg base 1 "_law_start" (spStart K) [] := by
  have sc : FnScope ["script", "at", "cell", "digits"] ["script", "at"] (C8.fnScope s__law_start) := C8.fnScope_by (by decide +kernel)
  refine C8.cal0 D b .nil sc (fun vs H Q E h => ?_) (fun cdv A outer s H vs Q E hr h => ?_)
  · obtain ⟨_, _, _, rfl, _⟩ := h
    rfl
  · obtain ⟨p, is, k, rfl, hp, hn, hk, q⟩ := h
    refine ⟨_, (pss_cons (ps_set (i := 2) sc.nd rfl (Or.inl rfl) (pe_ifExp (pt_cmpR op_lt (pv 1) (pe_callB (call_len_seqK (K := K) rfl) (by rfl) B.len_ (by decide +kernel) (pa_cons (pv 0) pa_nil)) (nomark _)) (pe_ix (ix_listK (K := K) rfl) (pv 0) (pv 1) (fun _ _ => rfl)) pe_int))
        (pss_cons (ps_set (i := 3) sc.nd rfl (Or.inl rfl) (pe_ifExp (pt_cmpR op_ge (pe_callB call_abs' (by rfl) B.abs_ (by decide +kernel) (pa_cons (pv 2) pa_nil)) (pe_op op_pow pe_int pe_int) (nomark _)) (pe_callB call_abs' (by rfl) B.abs_ (by decide +kernel) (pa_cons (pv 2) pa_nil)) pe_int))
        (pss_one (ps_ret (pe_lst (pa_cons (pv 3) (pa_cons (pe_op op_add (pe_op op_add (pe_op op_modN (pe_callTy call_int1' (by rfl) B.int_ (by decide +kernel) (pa_cons (pv 2) pa_nil)) pe_int) (pe_op op_mul pe_int (pv 1))) pe_int) (pa_cons pe_int pa_nil)))))))), ?_⟩
    have end_ : ∀ cell : Int, ∀ d : Int, 0 ≤ d → ∀ q' : Addr, H q' = none → Q (.ref q') (upd H q' (.lst [.int d, .int (cell.fmod 2305843009213693951 + 7919 * k + 1), .int 0])) := fun cell d hd q' hq' => by
      have h1 : 0 ≤ cell.fmod 2305843009213693951 := fmod_lo (by decide)
      have h2 : cell.fmod 2305843009213693951 < 2305843009213693951 := fmod_hi (by decide)
      exact q q' _ hq' ⟨d, _, 0, upd_same, hd, by omega, by omega, by omega, by omega⟩ (Ex.new hq')
    walk_at "w"
    rw [List.length_map]
    refine iteD (fun h => ?_) (fun h => ?_)
    · have hlt : k < is.length := by omega
      walk_at "w"
      refine w_ixL hp (atI_nat (v := V.int is[k]) (by rw [List.getElem?_map, List.getElem?_eq_getElem hlt]; rfl)) ?_
      walk_at "w"
      refine iteD (fun h => ?_) (fun h => ?_)
      · walk_at "w"
        exact end_ _ _ (by split <;> omega)
      · walk_at "w"
        exact end_ _ _ (by omega)
    · walk_at "w"
      refine iteD (fun h => ?_) (fun h => ?_)
      · walk_at "w"
        exact end_ _ _ (by split <;> omega)
      · walk_at "w"
        exact end_ _ _ (by omega)
end
end LP
namespace LP
open PySem L2
open Evl (Ex)
def isBoolD (d : PyData) : Bool := match d with
  | .bool _ => true
  | _ => false
theorem w_isBool {K : PySem.W.Frag} {H : Hp} {Q : VK} {v : V} {d : PyData} (h : Dp K H v d) (q : Q (.bl (isBoolD d)) H) : rIsi K [v, .ty "bool"] H Q := by
  refine w_isi (dp_ty h) ?_ q
  cases d with
  | none => show kitB "NoneType" "bool" = some false; decide +kernel
  | bool b => show kitB "bool" "bool" = some true; decide +kernel
  | int i => show kitB "int" "bool" = some false; decide +kernel
  | str x => show kitB "str" "bool" = some false; decide +kernel
  | list l => show kitB "list" "bool" = some false; decide +kernel
  | tuple l => show kitB "tuple" "bool" = some false; decide +kernel
  | dict l => show kitB "dict" "bool" = some false; decide +kernel
def sameB (d e : PyData) : Bool := PyData.eqv d e && decide (isBoolD d = isBoolD e)
def spSame (K : PySem.W.Frag) : Sp := fun vs H Q _ => ∃ (x y : V) (d e : PyData), vs = [x, y] ∧ Dp K H x d ∧ Dp K H y e ∧ SeqAt.shaped d = true ∧ SeqAt.shaped e = true ∧ Q (.bl (sameB d e)) H
/-- what the law's values are like -/
structure AnyOk (d : PyData) : Prop where
  sh : SeqAt.shaped d = true
  st : ∀ x, d = .str x → x.length ≤ 100
def Asc (x : Str) : Prop := ∀ c ∈ x.cps.toList, c < 128
theorem Asc.ok {x : Str} (h : Asc x) : SOk x := by
  unfold SOk PyData.strOk
  rw [← Array.all_toList,
          List.all_eq_true]
  intro c hc
  have := h c hc
  exact decide_eq_true
          (by omega)
theorem Low.asc {x : Str} (h : Low x) : Asc x := fun c hc => by have := h c hc; omega
theorem Asc.cat {x y : Str} (h : Asc x) (h' : Asc y) : Asc (x ++ y) := fun c hc => by
  have e : (x ++ y).cps.toList = x.cps.toList ++ y.cps.toList := by
    show (x.cps ++ y.cps).toList = _
    rw [Array.toList_append]
  rw [e] at hc
  rcases List.mem_append.1 hc with hc | hc
  · exact h c hc
  · exact h' c hc
theorem AnyOk.str {x : Str} (h : Asc x) (hl : x.length ≤ 100) : AnyOk (.str x) := ⟨by
  unfold SeqAt.shaped
  rw [Bool.and_eq_true]
  exact ⟨by simp only [PyData.canLay0]; exact h.ok, by simp [PyData.depth]⟩, fun y e => by cases e; exact hl⟩
def spValue (K : PySem.W.Frag) : Sp := fun vs H Q _ => ∃ (b : Addr) (n : Nat), vs = [.ref b] ∧ BagAt H b n ∧ n < 70000000 ∧ ∀ (v : V) (d : PyData) (H' : Hp), Dp K (del b H') v d → AnyOk d → BagAt H' b (n + 20) → Ex (del b H) H' → Q v H'
section
variable {base : Heap} {mg : Str → Option Value} {K : PySem.W.Frag} {w : World} {P : Program}
theorem ok_same {f : Addr} {fd : FuncData} (D : C8.Def K mg "_law_same" s__law_same f fd) (b : Binds K fd ["one", "other"] []) (B : Blt mg) : C8.Cal P w K mg base 1 "_law_same" (spSame K) [] := by
  have sc : FnScope ["one", "other"] ["one", "other"] (C8.fnScope s__law_same) := C8.fnScope_by (by decide +kernel)
  refine C8.cal0 D b .nil sc (fun vs H Q E h => ?_) (fun cdv A outer s H vs Q E hr h => ?_)
  · obtain ⟨_, _, _, _, rfl, _⟩ := h
    rfl
  · obtain ⟨x, y, d, e, rfl, hx, hy, sx, sy, k⟩ := h
    refine ⟨_, (pss_one (ps_ret (pe_and (pe_cmpR (op_eqDK (K := K) rfl (hu64 hr)) (pv 0) (pv 1) (nomark _)) (pe_one (pe_cmpR op_eq (pe_callB (call_isiK1 (K := K) rfl) (by rfl) B.isinstance_ (by decide +kernel) (pa_cons (pv 0) (pa_cons (pe_bltn (v := .ty "bool") (u := .type "bool") (by rfl) B.bool_ (by decide +kernel) rfl) pa_nil))) (pe_callB (call_isiK1 (K := K) rfl) (by rfl) B.isinstance_ (by decide +kernel) (pa_cons (pv 1) (pa_cons (pe_bltn (v := .ty "bool") (u := .type "bool") (by rfl) B.bool_ (by decide +kernel) rfl) pa_nil))) (nomark _)))))), ?_⟩
    walk_at "w"
    refine ⟨d, e, hx, hy, sx, sy, ?_⟩
    unfold sameB at k
    walk_at "w"
    refine iteB (fun h1 => ?_) (fun h1 => ?_)
    · rw [h1] at k
      walk_at "w"
      refine w_isBool hx ?_
      walk_at "w"
      refine w_isBool hy ?_
      walk_at "w"
      rw [show decide (V.bl (isBoolD d) = V.bl (isBoolD e)) = decide (isBoolD d = isBoolD e) by simp]
      exact k
    · rw [h1] at k
      exact k
theorem res_asc : ∀ x ∈ reservedL, (∀ c ∈ x.cps.toList, c < 128) ∧ x.length ≤ 8 := by decide +kernel
theorem res_up : ∀ x ∈ reservedL, (∀ c ∈ (Txt.upper x).cps.toList, c < 128) ∧ (Txt.upper x).length ≤ 8 := by decide +kernel
theorem sg_asc : ∀ x ∈ (["A", "Z", "0", "9", " ", "_", "-", ".", "?", "'", "~", "a"] : List Str), (∀ c ∈ x.cps.toList, c < 128) ∧ x.length ≤ 1 := by decide +kernel
theorem end_asc : ∀ x ∈ (["s", "", " ", "a", "ing"] : List Str), (∀ c ∈ x.cps.toList, c < 128) ∧ x.length ≤ 3 := by decide +kernel
theorem take_asc {x : Str} (h : Asc x) (n : Nat) : Asc (S (x.cps.toList.take n)) := fun c hc => h c (List.mem_of_mem_take hc)
theorem drop_asc {x : Str} (h : Asc x) (n : Nat) : Asc (S (x.cps.toList.drop n)) := fun c hc => h c (List.mem_of_mem_drop hc)
end
end LP
namespace LP
open PySem L2
open Evl (Ex)
/-! ### what a schema holds -/
abbrev Lists := List (Str × Str × Str)
def meths : List Str := ["__init__", "_take_columns", "_is_column", "_is_list", "columns", "lists", "filled", "read", "is_name", "__len__", "__contains__", "__eq__", "__str__"]
structure FsOk (fs : List (Str × V)) (dc dl : Addr) : Prop where
  c : fs.lookup ("_columns" : Str) = some (.ref dc)
  l : fs.lookup ("_lists" : Str) = some (.ref dl)
  no : ∀ m ∈ meths, fs.lookup m = none
structure SchC (K : PySem.W.Frag) (C : Addr) : Prop where
  cls : Cls K C
  columns_ : NoAttr K C "_columns"
  lists_ : NoAttr K C "_lists"
  user_ : NoAttr K C "user"
  tables_ : NoAttr K C "tables"
  lines_ : NoAttr K C "_lines"
def ColRow (H : Hp) (kv : Key × V) (t : Str × List Col) : Prop := kv.1 = .inr t.1 ∧ ∃ a vs, kv.2 = .ref a ∧ H a = some (.tup vs) ∧ ColsV H vs t.2
def ListEnt (H : Hp) (kv : Key × V) (e : Str × Str × Str) : Prop := kv.1 = .inr e.1 ∧ ∃ b, kv.2 = .ref b ∧ H b = some (.tup [.str e.2.1, .str e.2.2])
def ListRow (H : Hp) (a : Addr) (ls : Lists) : Prop := ∃ kvs, H a = some (.dK kvs) ∧ Paired (ListEnt H) kvs ls
abbrev Rows := List (Str × Addr × Lists)
def Rows.kvs (rs : Rows) : List (Key × V) := rs.map fun r => (.inr r.1, .ref r.2.1)
/-- the schema's instance at p, with its two dicts -/
structure Part (C : Addr) (H : Hp) (p dc dl : Addr) (cvs : List (Key × V)) (rs : Rows) (ts : Tabs) : Prop where
  ins : ∃ dx fs, H p = some (.ins C dx fs) ∧ FsOk fs dc dl
  hdc : H dc = some (.dK cvs)
  cols : Paired (ColRow H) cvs ts
  hdl : H dl = some (.dK rs.kvs)
  lst : ∀ r ∈ rs, ListRow H r.2.1 r.2.2
  nd : (rs.map fun r => r.2.1).Nodup
  dd : dc ≠ dl
  rd : ∀ r ∈ rs, r.2.1 ≠ dc ∧ r.2.1 ≠ dl
  kn : (rs.map fun r => r.1).Nodup
theorem ColRow.ext {H H' : Hp} {kv : Key × V} {t : Str × List Col} (e : Ex H H') (h : ColRow H kv t) : ColRow H' kv t := by
  obtain ⟨h1, a, vs, h2, h3, h4⟩ := h
  exact ⟨h1, a, vs, h2, e _ _ h3, h4.ext e⟩
theorem ListEnt.ext {H H' : Hp} {kv : Key × V} {t : Str × Str × Str} (e : Ex H H') (h : ListEnt H kv t) : ListEnt H' kv t := by
  obtain ⟨h1, a, h2, h3⟩ := h
  exact ⟨h1, a, h2, e _ _ h3⟩
theorem ListRow.ext {H H' : Hp} {a : Addr} {ls : Lists} (e : Ex H H') (h : ListRow H a ls) : ListRow H' a ls := by
  obtain ⟨kvs, h1, h2⟩ := h
  exact ⟨kvs, e _ _ h1, paired_imp (fun _ _ => ListEnt.ext e) h2⟩
theorem Part.ext {C : Addr} {H H' : Hp} {p dc dl : Addr} {cvs : List (Key × V)} {rs : Rows} {ts : Tabs} (e : Ex H H') (h : Part C H p dc dl cvs rs ts) : Part C H' p dc dl cvs rs ts := by
  obtain ⟨⟨dx, fs, h1, h2⟩, h3, h4, h5, h6, h7, h8, h9, h10⟩ := h
  exact ⟨⟨dx, fs, e _ _ h1, h2⟩, e _ _ h3, paired_imp (fun _ _ => ColRow.ext e) h4, e _ _ h5, fun r hr => (h6 r hr).ext e, h7, h8, h9, h10⟩
/-- a key among paired entries -/
theorem valV_pair {α : Type} {R : Key × V → Str × α → Prop} (hR : ∀ kv e, R kv e → kv.1 = .inr e.1) : ∀ {kvs : List (Key × V)} {es : List (Str × α)}, Paired R kvs es → ∀ n : Str,
    (valV kvs (Sum.inr n : Key) = none ∧ n ∉ es.map (·.1)) ∨ ∃ kv e, e ∈ es ∧ e.1 = n ∧ R kv e ∧ valV kvs (Sum.inr n : Key) = some kv.2 ∧ es.lookup n = some e.2
  | _, _, .nil, n => .inl ⟨rfl, List.not_mem_nil⟩
  | _, _, .cons (a := kv) (b := e) h r, n => by
    have k := hR _ _ h
    by_cases hn : e.1 = n
    · refine .inr ⟨kv, e, List.mem_cons_self, hn, h, valV_pos (by rw [k, hn]), ?_⟩
      rw [List.lookup_cons, show (n == e.1) = true by rw [hn]; exact beq_self_eq_true n]
    · have hk : kv.1 ≠ (.inr n : Key) := by
        rw [k]
        intro z
        exact hn (Sum.inr.inj z)
      rcases valV_pair hR r n with ⟨h1, h2⟩ | ⟨kv', e', h1, h2, h3, h4, h5⟩
      · refine .inl ⟨by rw [valV_neg hk]; exact h1, ?_⟩
        rw [List.map_cons, List.mem_cons]
        rintro (z | z)
        · exact hn z.symm
        · exact h2 z
      · refine .inr ⟨kv', e', List.mem_cons_of_mem _ h1, h2, h3, by rw [valV_neg hk]; exact h4, ?_⟩
        rw [List.lookup_cons, show (n == e.1) = false from beq_eq_false_iff_ne.mpr fun z => hn z.symm]
        exact h5
theorem Part.has {C : Addr} {H : Hp} {p dc dl : Addr} {cvs : List (Key × V)} {rs : Rows} {ts : Tabs} (h : Part C H p dc dl cvs rs ts) (n : Str) : (valV cvs (Sum.inr n : Key)).isSome = decide (n ∈ ts.map (·.1)) := by
  rcases valV_pair (fun _ _ h => h.1) h.cols n with ⟨h1, h2⟩ | ⟨kv, e, h1, h2, h3, h4, h5⟩
  · rw [h1, decide_eq_false h2]
    rfl
  · rw [h4, decide_eq_true (List.mem_map.mpr ⟨e, h1, h2⟩)]
    rfl
def spContains (K : PySem.W.Frag) (C : Addr) : Sp := fun vs H Q _ => ∃ (p : Addr) (v : V) (d : PyData) (dc dl : Addr) (cvs : List (Key × V)) (rs : Rows) (ts : Tabs), vs = [.ref p, v] ∧ Part C H p dc dl cvs rs ts ∧ Dp K H v d ∧
  Q (.bl (strD (fun n => decide (n ∈ ts.map (·.1))) d)) H
section
variable {base : Heap} {mg : Str → Option Value} {K : PySem.W.Frag} {w : World} {P : Program} {ra C : Addr}
theorem ok_contains {f : Addr} {fd : FuncData} (S : SchC K C) (me : Meth K C "__contains__" f) (F : C8.Fun K "__contains__" "Schema.__contains__" s_Schema___contains__ f fd) (b : Binds K fd ["self", "thing"] []) (B : Blt mg) :
    C8.Met P w K mg base 1 C "__contains__" (spContains K C) [] := by
  have sc : FnScope ["self", "thing"] ["self", "thing"] (C8.fnScope s_Schema___contains__) := C8.fnScope_by (by decide +kernel)
  refine C8.met0 S.cls me F b sc (fun vs H Q E h => ?_) (fun cdv A outer s H vs Q E hr h => ?_)
  · obtain ⟨_, _, _, _, _, _, _, _, rfl, _⟩ := h
    rfl
  · obtain ⟨p, v, d, dc, dl, cvs, rs, ts, rfl, hP, hd, k⟩ := h
    obtain ⟨⟨dx, fs, h1, h2⟩, h3, h4, h5, h6, h7, _, _, _⟩ := id hP
    refine ⟨_, (pss_one (ps_ret (pe_and (pe_callB (call_isiK1 (K := K) rfl) (by rfl) B.isinstance_ (by decide +kernel) (pa_cons (pv 1) (pa_cons (pe_bltn (v := .ty "str") (u := .type "str") (by rfl) B.str_ (by decide +kernel) rfl) pa_nil))) (pe_one ((pe_cmp (pc_din (hu_of hr) (pv 1) (pe_fldK (K := K) rfl (pv 0) rfl)) rfl)))))), ?_⟩
    walk_at "w"
    refine w_isStr hd ?_
    cases hd with
    | str x =>
      have k : Q (.bl (decide (x ∈ ts.map (·.1)))) H := k
      unfold isStrD
      walk_at "w"
      refine w_kFld h1 S.cls S.columns_ h2.c ?_
      refine w_kIn h3 ?_
      rw [hP.has]
      exact k
    | _ => exact ⟨false, rfl, iteF k⟩
theorem ok_is_name {p g : Addr} {fd : FuncData} {mc : Value} (r : ClX.CRead K C mc) (c1 : SMet K C mc "is_name" p g) (c2 : SInst K C "is_name" p g) (F : C8.Fun K "is_name" "Schema.is_name" s_Schema_is_name g fd) (b : Binds K fd ["value"] []) (B : Blt mg) (T : Cns K mg ra C)
    (c_is_word : C8.Cal P w K mg base 2 "is_word" (spAsk K (strD wordB)) []) : SCal P w K mg base 3 C mc "is_name" (spAsk K (strD nameB)) := by
  have sc : FnScope ["value"] ["value"] (C8.fnScope s_Schema_is_name) := C8.fnScope_by (by decide +kernel)
  refine ⟨p, g, fd, _, r, c1, c2, C8.fn0 F sc (fun vs H Q E h => ?_) (fun cdv A outer s H vs Q E hr h => ?_), b⟩
  · obtain ⟨_, _, rfl, _⟩ := h
    rfl
  · obtain ⟨v, d, rfl, hd, hl, k⟩ := h
    refine ⟨_, (pss_one (ps_ret (pe_and (C8.pe_c c_is_word hr (by decide) rfl (pa_cons (pv 0) pa_nil)) (pe_one (pe_cmpR (op_notIn_seqK (K := K) rfl) (pv 0) (C8.pe_gc rfl T.RESERVED_) (by rfl)))))), ?_⟩
    walk_at "w"
    refine ⟨v, d, rfl, hd, hl, ?_⟩
    cases hd with
    | str x =>
      have k : Q (.bl (wordB x && !decide (x ∈ reservedL))) H := k
      show ∃ c, V.bl (wordB x) = .bl c ∧ _
      walk_at "w"
      refine iteB (fun h1 => ?_) (fun h1 => ?_)
      · rw [h1] at k
        walk_at "w"
        refine w_inT (T.res H) rfl (flat_strs _) ?_
        rw [inV_str]
        exact k
      · rw [h1] at k
        exact k
    | _ => exact ⟨false, rfl, iteF k⟩
end
end LP
namespace LP
open PySem L2
open Evl (Ex)
theorem Part.cget {C : Addr} {H : Hp} {p dc dl : Addr} {cvs : List (Key × V)} {rs : Rows} {ts : Tabs} {n : Str} {cs : List Col} (h : Part C H p dc dl cvs rs ts) (e : ts.lookup n = some cs) :
    ∃ a vs, valV cvs (Sum.inr n : Key) = some (.ref a) ∧ H a = some (.tup vs) ∧ ColsV H vs cs := by
  rcases valV_pair (fun _ _ h => h.1) h.cols n with ⟨h1, h2⟩ | ⟨kv, t, h1, h2, ⟨h3, a, vs, h4, h5, h6⟩, h7, h8⟩
  · exact absurd (List.mem_map.mpr ⟨(n, cs), PySem.mem_of_lookup e, rfl⟩) h2
  · rw [e] at h8
    cases h8
    exact ⟨a, vs, by rw [h7, h4], h5, h6⟩
/-- the lists of each table -/
def Rows.mir (rs : Rows) : List (Str × Lists) := rs.map fun r => (r.1, r.2.2)
theorem rows_get : ∀ {rs : Rows} {n : Str} {ls : Lists}, rs.mir.lookup n = some ls → ∃ a, valV rs.kvs (Sum.inr n : Key) = some (.ref a) ∧ (n, a, ls) ∈ rs
  | [], _, _, h => by cases h
  | (m, a, l) :: r, n, ls, h => by
    have h : List.lookup n ((m, l) :: Rows.mir r) = some ls := h
    rw [List.lookup_cons] at h
    by_cases e : n = m
    · subst e
      rw [show (n == n) = true from beq_self_eq_true n] at h
      cases h
      exact ⟨a, valV_pos (p := ((.inr n, .ref a) : Key × V)) rfl, List.mem_cons_self⟩
    · rw [show (n == m) = false from beq_eq_false_iff_ne.mpr e] at h
      obtain ⟨b, h1, h2⟩ := rows_get (rs := r) h
      refine ⟨b, ?_, List.mem_cons_of_mem _ h2⟩
      exact (valV_neg (p := ((.inr m, .ref a) : Key × V)) (fun z => e (Sum.inr.inj z).symm)).trans h1
theorem ListRow.has {H : Hp} {a : Addr} {ls : Lists} {kvs : List (Key × V)} (h : Paired (ListEnt H) kvs ls) (n : Str) : (valV kvs (Sum.inr n : Key)).isSome = decide (n ∈ ls.map (·.1)) := by
  rcases valV_pair (fun _ _ h => h.1) h n with ⟨h1, h2⟩ | ⟨kv, e, h1, h2, h3, h4, h5⟩
  · rw [h1, decide_eq_false h2]
    rfl
  · rw [h4, decide_eq_true (List.mem_map.mpr ⟨e, h1, h2⟩)]
    rfl
def isListB (cs : List Col) (ls : Lists) : Option Str → Bool
  | none => true
  | some x => nameB x && !decide (x ∈ cs.map Col.name) && !decide (x ∈ ls.map (·.1))
def spIsList (K : PySem.W.Frag) (C : Addr) : Sp := fun vs H Q _ => ∃ (p : Addr) (t : Str) (l : Option Str) (dc dl : Addr) (cvs : List (Key × V)) (rs : Rows) (ts : Tabs) (cs : List Col) (ls : Lists), vs = [.ref p, .str t, vOpt l] ∧ Part C H p dc dl cvs rs ts ∧
  ts.lookup t = some cs ∧ rs.mir.lookup t = some ls ∧ cs.length ≤ 1000 ∧ (∀ x, l = some x → x.length ≤ 4000) ∧ ∀ H', Ex H H' → Q (.bl (isListB cs ls l)) H'
section
variable {base : Heap} {mg : Str → Option Value} {K : PySem.W.Frag} {w : World} {P : Program} {ra C : Addr}
theorem ok_is_list {f : Addr} {fd : FuncData} {mc : Value} (S : SchC K C) (me : Meth K C "_is_list" f) (F : C8.Fun K "_is_list" "Schema._is_list" s_Schema__is_list f fd) (b : Binds K fd ["self", "table", "name"] []) (B : Blt mg) (T : Cns K mg ra C)
    (c_is_name : SCal P w K mg base 3 C mc "is_name" (spAsk K (strD nameB))) :
    C8.Met P w K mg base 4 C "_is_list" (spIsList K C) [] := by
  have sc : FnScope ["self", "table", "name", "names", "column"] ["self", "table", "name"] (C8.fnScope s_Schema__is_list) := C8.fnScope_by (by decide +kernel)
  refine C8.met0 S.cls me F b sc (fun vs H Q E h => ?_) (fun cdv A outer s H vs Q E hr h => ?_)
  · obtain ⟨_, _, _, _, _, _, _, _, _, _, rfl, _⟩ := h
    rfl
  · obtain ⟨p, t, l, dc, dl, cvs, rs, ts, cs, ls, rfl, hP, ht, hr', hlen, hsz, k⟩ := h
    obtain ⟨⟨dx, fs, h1, h2⟩, h3, h4, h5, h6, h7, _, _, _⟩ := id hP
    obtain ⟨ca, cvals, g1, g2, g3⟩ := hP.cget ht
    obtain ⟨la, l1, l2⟩ := rows_get hr'
    obtain ⟨kvs, m1, m2⟩ := h6 _ l2
    have ll := paired_len g3
    refine ⟨_, (pss_cons (ps_if (pt_cmpR op_isN' (pv 2) pe_non (nomark _))
        (pss_one (ps_ret pe_bl))
        pss_nil)
        (pss_cons (ps_setLc (i := 3) (own := [("column", 4)]) (g := (gName 4)) (by rfl) sc.nd rfl rfl (sw_true rfl rfl rfl (by decide +kernel)) (pi_tupK (K := K) rfl (pe_dget (hu_of hr) (pe_fldK (K := K) rfl (pv 0) rfl) (pv 1) (fun _ _ => rfl))) (blkOk_by (own := [("column", 4)]) (N := ["self", "table", "name", "names", "column"]) (sc := C8.fnScope s_Schema__is_list) (by decide +kernel)) (fun _ _ _ _ _ => (pg_name (i := 4) sc.nd rfl (Or.inl rfl))) (fun _ _ _ _ _ => pts_nil) (fun _ _ _ _ _ => (pe_ix (ix_tupK (K := K) rfl) (pv 4) pe_int (fun _ _ => rfl))))
        (pss_one (ps_ret (pe_and (pe_sm c_is_name hr (by decide) (C8.pe_gc rfl T.Schema_) (pa_cons (pv 2) pa_nil)) (pe_and (pe_cmpR (op_notIn_seqK (K := K) rfl) (pv 2) (pv 3) (by rfl)) (pe_one ((pe_cmp (pc_dnotin (hu_of hr) (pv 2) (pe_dget (hu_of hr) (pe_fldK (K := K) rfl (pv 0) rfl) (pv 1) (fun _ _ => rfl))) rfl))))))))), ?_⟩
    walk_at "w"
    cases l with
    | none =>
      refine iteT ?_
      walk_at "w"
      exact k _ (Ex.refl _)
    | some x =>
      refine iteF ?_
      walk_at "w"
      refine w_kFld h1 S.cls S.columns_ h2.c ?_
      walk_at "w"
      refine w_kG h3 g1 ?_
      walk_at "w"
      intro D hD
      refine compQT cs (ColAt H) (fun c => some c.name) (fun v x => v = V.str x) hD (SqT.of g2) (by omega) g3 (fun y c hy hm H3 e3 kk kn hk hn => ?_) (fun acc H3 e3 hacc hp => ?_)
      · obtain ⟨a, rfl, ha⟩ := hy
        have ha3 := e3 _ _ ha
        walk_at "w"
        refine w_ixT (SqT.of ha3) c.at1 ?_
        exact hk _ _ _ (Ex.refl _) rfl rfl
      · rw [filterMap_some] at hp
        have ev := vals_strs hp
        walk_at "w"
        refine ⟨_, .str x, rfl, .str x, (fun y e => by cases e; exact hsz x rfl), ?_⟩
        show ∃ c, V.bl (nameB x) = .bl c ∧ _
        have k : ∀ H', Ex H H' → Q (.bl (nameB x && !decide (x ∈ cs.map Col.name) && !decide (x ∈ ls.map (·.1)))) H' := k
        walk_at "w"
        refine iteB (fun b1 => ?_) (fun b1 => ?_)
        · rw [b1] at k
          walk_at "w"
          refine w_notInStr (SqL.of (ev ▸ hacc)) ?_
          walk_at "w"
          refine iteND (fun b2 => ?_) (fun b2 => ?_)
          · rw [decide_eq_false b2] at k
            walk_at "w"
            refine w_kFld (e3 _ _ h1) S.cls S.lists_ h2.l ?_
            walk_at "w"
            refine w_kG (e3 _ _ h5) l1 ?_
            have m3 : H3 la = some (.dK kvs) := e3 _ _ m1
            refine w_kNin (k := x) (z := fun v => Q v H3) m3 ?_
            rw [ListRow.has (a := la) m2]
            exact k _ e3
          · rw [decide_eq_true b2] at k
            exact k _ e3
        · rw [b1] at k
          exact k _ e3
end
end LP
namespace LP
open PySem L2
open Evl (Ex)
structure LenC (K : PySem.W.Frag) (mg : Str → Option Value) (la : Addr) : Prop where
  LENGTHS_ : ∃ u, mg "LENGTHS" = some u ∧ RelV (.ref la) u
  at_ : ∀ c : Col, ∃ u, PySem.W.nsIn K la c.kind = some (some u) ∧ RelV (.int c.vals.length) u
theorem kitB_self {t : String} : kitB t t = some true := by
  unfold kitB
  rw [if_pos]
  exact beq_self_eq_true _
section
variable {K : PySem.W.Frag} {H : Hp} {Q : VK} {v : V} {σ : L2.St}
theorem w_isT {t : String} (h : TyX K H v (.type t)) (q : Q (.bl true) H) : rIsi K [v, .ty t] H Q := w_isi h kitB_self q
theorem ColAt.ty {c : Col} (h : ColAt H v c) : TyX K H v (.type "tuple") := dp_ty (K := K) (d := c.data) h.dp
theorem w_kgetT {d : Addr} {td ty tx : TE} (h : td σ H fun x H1 => x = .ref d ∧ ty σ H1 fun y H2 => tx σ H2 fun _ H3 => ∃ k u0 v0, y = .str k ∧ PySem.W.nsIn K d k = some (some u0) ∧ RelV v0 u0 ∧ Q v0 H3) : tKGet K d td ty tx σ H Q := h
end
theorem Col.len2 (c : Col) : 2 ≤ c.vals.length := by cases c <;> simp [Col.vals]
/-- a column that may stand behind columns of these names -/
structure ColIn (c : Col) (ns : List Str) (m : List (Str × Lists)) (ts : Tabs) : Prop where
  nm : IsName c.name
  nw : c.name ∉ ns
  lk : c.isLink = true → ∃ cs ls, ts.lookup c.target = some cs ∧ m.lookup c.target = some ls ∧ cs.length ≤ 1000 ∧ (∀ x, c.lst = some x → x.length ≤ 4000) ∧ isListB cs ls c.lst = true
def spIsColumn (K : PySem.W.Frag) (C : Addr) : Sp := fun vs H Q _ => ∃ (p nl : Addr) (v : V) (c : Col) (ns : List Str) (dc dl : Addr) (cvs : List (Key × V)) (rs : Rows) (ts : Tabs), vs = [.ref p, v, .ref nl] ∧ Part C H p dc dl cvs rs ts ∧ ColAt H v c ∧
  SqL K H nl (ns.map V.str) ∧ ColIn c ns rs.mir ts ∧ ∀ H', Ex H H' → Q (.bl true) H'
section
variable {base : Heap} {mg : Str → Option Value} {K : PySem.W.Frag} {w : World} {P : Program} {ra C la : Addr} {es : Array DictEntry} {ne : Nat}
theorem ok_is_column {f : Addr} {fd : FuncData} {mc : Value} (S : SchC K C) (me : Meth K C "_is_column" f) (F : C8.Fun K "_is_column" "Schema._is_column" s_Schema__is_column f fd) (b : Binds K fd ["self", "column", "names"] []) (B : Blt mg) (T : Cns K mg ra C)
    (LD : KDict K w la es ne) (LN : LenC K mg la) (c_is_name : SCal P w K mg base 3 C mc "is_name" (spAsk K (strD nameB))) (c_is_link : C8.Cal P w K mg base 1 "is_link" spIsLink []) (c___contains__ : C8.Met P w K mg base 1 C "__contains__" (spContains K C) [])
    (c__is_list : C8.Met P w K mg base 4 C "_is_list" (spIsList K C) []) :
    C8.Met P w K mg base 5 C "_is_column" (spIsColumn K C) [] := by
  have sc : FnScope ["self", "column", "names"] ["self", "column", "names"] (C8.fnScope s_Schema__is_column) := C8.fnScope_by (by decide +kernel)
  refine C8.met0 S.cls me F b sc (fun vs H Q E h => ?_) (fun cdv A outer s H vs Q E hr h => ?_)
  · obtain ⟨_, _, _, _, _, _, _, _, _, _, rfl, _⟩ := h
    rfl
  · obtain ⟨p, nl, v, c, ns, dc, dl, cvs, rs, ts, rfl, hP, ⟨a, rfl, ha⟩, hn, hc, k⟩ := h
    obtain ⟨⟨dx, fs, h1, h2⟩, h3, h4, h5, h6, h7, _, _, _⟩ := id hP
    have tt : SqT K H a c.vals := SqT.of ha
    refine ⟨_, (pss_cons (ps_if (PW.pt (pw_or (pt_not (pt_val (pe_callB (call_isiK1 (K := K) rfl) (by rfl) B.isinstance_ (by decide +kernel) (pa_cons (pv 1) (pa_cons (pe_bltn (v := .ty "tuple") (u := .type "tuple") (by rfl) B.tuple_ (by decide +kernel) rfl) pa_nil))))) (pw_or (pt_cmpR op_lt (pe_callB (call_len_seqK (K := K) rfl) (by rfl) B.len_ (by decide +kernel) (pa_cons (pv 1) pa_nil)) pe_int (nomark _)) (pw_or1 (pt_not (pt_val (pe_callB (call_isiK1 (K := K) rfl) (by rfl) B.isinstance_ (by decide +kernel) (pa_cons (pe_ix (ix_tupK (K := K) rfl) (pv 1) pe_int (fun _ _ => rfl)) (pa_cons (pe_bltn (v := .ty "str") (u := .type "str") (by rfl) B.str_ (by decide +kernel) rfl) pa_nil)))))))))
        (pss_one (ps_ret pe_bl))
        pss_nil)
        (pss_cons (ps_if (pt_cmpR op_ne ((pe_kget2 LD (C8.pe_gc rfl LN.LENGTHS_) (pe_ix (ix_tupK (K := K) rfl) (pv 1) pe_int (fun _ _ => rfl)) pe_int ⟨rfl, rfl, rfl, rfl⟩)) (pe_callB (call_len_seqK (K := K) rfl) (by rfl) B.len_ (by decide +kernel) (pa_cons (pv 1) pa_nil)) (nomark _))
        (pss_one (ps_ret pe_bl))
        pss_nil)
        (pss_cons (ps_if (PW.pt (pw_or (pt_not (pt_val (pe_sm c_is_name hr (by decide) (C8.pe_gc rfl T.Schema_) (pa_cons (pe_ix (ix_tupK (K := K) rfl) (pv 1) pe_int (fun _ _ => rfl)) pa_nil)))) (pw_or1 (pt_cmpR (op_in_seqK (K := K) rfl) (pe_ix (ix_tupK (K := K) rfl) (pv 1) pe_int (fun _ _ => rfl)) (pv 2) (by rfl)))))
        (pss_one (ps_ret pe_bl))
        pss_nil)
        (pss_cons (ps_if (pt_val (C8.pe_c c_is_link hr (by decide) rfl (pa_cons (pv 1) pa_nil)))
        (pss_one (ps_ret (pe_and (pe_cmpR (op_oin (dvs := []) c___contains__ hr (by decide)) (pe_ix (ix_tupK (K := K) rfl) (pv 1) pe_int (fun _ _ => rfl)) (pv 0) (by rfl)) (pe_and (pe_callB (call_isiK1 (K := K) rfl) (by rfl) B.isinstance_ (by decide +kernel) (pa_cons (pe_ix (ix_tupK (K := K) rfl) (pv 1) pe_int (fun _ _ => rfl)) (pa_cons (pe_bltn (v := .ty "bool") (u := .type "bool") (by rfl) B.bool_ (by decide +kernel) rfl) pa_nil))) (pe_one (C8.pe_mt c__is_list hr (by decide) (pv 0) (pa_cons (pe_ix (ix_tupK (K := K) rfl) (pv 1) pe_int (fun _ _ => rfl)) (pa_cons (pe_ix (ix_tupK (K := K) rfl) (pv 1) pe_int (fun _ _ => rfl)) pa_nil))))))))
        pss_nil)
        (pss_one (ps_ret (pe_or (pe_cmpR op_ne (pe_ix (ix_tupK (K := K) rfl) (pv 1) pe_int (fun _ _ => rfl)) pe_str (nomark _)) (pe_one (pe_callB (call_isiK1 (K := K) rfl) (by rfl) B.isinstance_ (by decide +kernel) (pa_cons (pe_ix (ix_tupK (K := K) rfl) (pv 1) pe_int (fun _ _ => rfl)) (pa_cons (pe_bltn (v := .ty "bool") (u := .type "bool") (by rfl) B.bool_ (by decide +kernel) rfl) pa_nil))))))))))), ?_⟩
    walk_at "w"
    refine w_isT (ColAt.ty (c := c) ⟨a, rfl, ha⟩) ?_
    walk_at "w"
    have l2 := c.len2
    refine iteD (fun h => absurd h (by omega)) (fun _ => ?_)
    walk_at "w"
    refine w_ixT tt c.at0 ?_
    walk_at "w"
    refine w_isT (.base (.str _)) ?_
    walk_at "w"
    refine w_kgetT ?_
    walk_at "w"
    refine w_ixT tt c.at0 ?_
    walk_at "w"
    obtain ⟨u, n1, n2⟩ := LN.at_ c
    refine ⟨_, u, _, rfl, n1, n2, ?_⟩
    walk_at "w"
    refine iteND (fun h => absurd rfl h) (fun _ => ?_)
    walk_at "w"
    refine w_ixT tt c.at1 ?_
    walk_at "w"
    refine ⟨_, .str c.name, rfl, .str _, (fun y e => by cases e; exact Nat.le_trans hc.nm.1.2.1 (by decide)), ?_⟩
    rw [show strD nameB (.str c.name) = true from (nameB_iff _).mpr hc.nm]
    walk_at "w"
    refine w_ixT tt c.at1 ?_
    walk_at "w"
    refine w_inStr hn ?_
    rw [decide_eq_false hc.nw]
    walk_at "w"
    refine ⟨_, c, rfl, ⟨a, rfl, ha⟩, ?_⟩
    walk_at "w"
    refine iteB (fun hL => ?_) (fun hL => ?_)
    · walk_at "w"
      obtain ⟨cs, ls, e1, e2, e3, e4, e5⟩ := hc.lk hL
      refine w_ixT tt (Col.at2 hL) ?_
      walk_at "w"
      refine w_ownIn h1 ?_
      refine ⟨p, _, .str c.target, dc, dl, cvs, rs, ts, rfl, hP, .str _, ?_⟩
      rw [show strD (fun n => decide (n ∈ ts.map (·.1))) (.str c.target) = true from decide_eq_true (List.mem_map.mpr ⟨_, PySem.mem_of_lookup e1, rfl⟩)]
      refine ⟨true, rfl, ?_⟩
      refine ⟨true, rfl, iteT ?_⟩
      walk_at "w"
      refine w_ixT tt (Col.at3 hL) ?_
      walk_at "w"
      refine w_isT (.base (.bl _)) ?_
      walk_at "w"
      refine w_kMeth h1 (h2.no _ (by decide)) ?_
      walk_at "w"
      refine w_ixT tt (Col.at2 hL) ?_
      walk_at "w"
      refine w_ixT tt (Col.at4 hL) ?_
      walk_at "w"
      refine ⟨p, c.target, c.lst, dc, dl, cvs, rs, ts, cs, ls, rfl, hP, e1, e2, e3, e4, fun H' ex => ?_⟩
      rw [e5]
      exact k _ ex
    · walk_at "w"
      cases c with
      | link n t o l => cases hL
      | plain fl n =>
        have e : decide (V.str (if fl = true then "flag" else "number") = V.str "word") = false := by
          cases fl with
          | true => show decide (V.str "flag" = V.str "word") = false; decide +kernel
          | false => show decide (V.str "number" = V.str "word") = false; decide +kernel
        walk_at "w"
        rw [e]
        walk_at "w"
        exact k _ (Ex.refl _)
      | word n o =>
        walk_at "w"
        rw [show decide (V.str (Str.ofString "word") = V.str (Str.ofString "word")) = true from decide_eq_true rfl]
        walk_at "w"
        refine w_isT (.base (.bl _)) ?_
        exact k _ (Ex.refl _)
end
end LP
namespace LP
open PySem L2
open Evl (Ex)
/-! ### what may change while a schema is made -/
def ExO (own : List Addr) (H H' : Hp) : Prop := ∀ a o, H a = some o → a ∉ own → H' a = some o
theorem ExO.refl {own : List Addr} {H : Hp} : ExO own H H := fun _ _ h _ => h
theorem ExO.of {own : List Addr} {H H' : Hp} (e : Ex H H') : ExO own H H' := fun _ _ h _ => e _ _ h
theorem ExO.trans {own : List Addr} {H H1 H2 : Hp} (a : ExO own H H1) (b : ExO own H1 H2) : ExO own H H2 := fun c o h n => b c o (a c o h n) n
theorem ExO.put {own : List Addr} {H H1 : Hp} {a : Addr} {o : HO} (e : ExO own H H1) (h : a ∈ own) : ExO own H (upd H1 a o) := fun c u hc n => by
  rw [upd_ne (show c ≠ a from fun z => n (by rw [z]; exact h))]
  exact e c u hc n
/-- .. and what is new may change -/
theorem ExO.mut {own : List Addr} {H H1 : Hp} {a : Addr} {o : HO} (e : ExO own H H1) (h : H a = none) : ExO own H (upd H1 a o) := fun c u hc n => by
  rw [upd_ne (ne_of_none hc h)]
  exact e c u hc n
def Rows.own (dc dl : Addr) (rs : Rows) : List Addr := dc :: dl :: rs.map fun r => r.2.1
/-! ### a column's list -/
def addCol (t : Str) (m : List (Str × Lists)) (c : Col) : List (Str × Lists) := match c.lst with
  | none => m
  | some l => m.map fun r => if r.1 = c.target then (r.1, r.2 ++ [(l, t, c.name)]) else r
def rsAdd (t : Str) (rs : Rows) (c : Col) : Rows := match c.lst with
  | none => rs
  | some l => rs.map fun r => if r.1 = c.target then (r.1, r.2.1, r.2.2 ++ [(l, t, c.name)]) else r
theorem rsAdd_mir (t : Str) (rs : Rows) (c : Col) : (rsAdd t rs c).mir = addCol t rs.mir c := by
  unfold rsAdd addCol
  cases c.lst with
  | none => rfl
  | some l =>
    show (List.map _ rs).map _ = List.map _ (List.map _ rs)
    rw [List.map_map,
            List.map_map]
    refine List.map_congr_left fun r _ => ?_
    simp only [Function.comp]
    by_cases h : r.1 = c.target
    · rw [if_pos h, if_pos h]
    · rw [if_neg h, if_neg h]
theorem rsAdd_adr (t : Str) (rs : Rows) (c : Col) : (rsAdd t rs c).map (fun r => r.2.1) = rs.map fun r => r.2.1 := by
  unfold rsAdd
  cases c.lst with
  | none => rfl
  | some l =>
    show (rs.map _).map _ = _
    rw [List.map_map]
    refine List.map_congr_left fun r _ => ?_
    simp only [Function.comp]
    by_cases h : r.1 = c.target
    · rw [if_pos h]
    · rw [if_neg h]
theorem rsAdd_key (t : Str) (rs : Rows) (c : Col) : (rsAdd t rs c).map (fun r => r.1) = rs.map fun r => r.1 := by
  unfold rsAdd
  cases c.lst with
  | none => rfl
  | some l =>
    show (rs.map _).map _ = _
    rw [List.map_map]
    refine List.map_congr_left fun r _ => ?_
    simp only [Function.comp]
    by_cases h : r.1 = c.target
    · rw [if_pos h]
    · rw [if_neg h]
theorem rsAdd_kvs (t : Str) (rs : Rows) (c : Col) : (rsAdd t rs c).kvs = rs.kvs := by
  unfold rsAdd
  cases c.lst with
  | none => rfl
  | some l =>
    show (rs.map _).map _ = rs.map _
    rw [List.map_map]
    refine List.map_congr_left fun r _ => ?_
    simp only [Function.comp]
    by_cases h : r.1 = c.target
    · rw [if_pos h]
    · rw [if_neg h]
theorem rsAdd_len (t : Str) (rs : Rows) (c : Col) {n : Nat} (h : ∀ r ∈ rs, r.2.2.length ≤ n) : ∀ r ∈ rsAdd t rs c, r.2.2.length ≤ n + 1 := by
  unfold rsAdd
  cases c.lst with
  | none => exact fun r hr => Nat.le_succ_of_le (h r hr)
  | some l =>
    intro r hr
    obtain ⟨r0, h0, rfl⟩ := List.mem_map.mp hr
    have := h r0 h0
    by_cases e : r0.1 = c.target
    · rw [if_pos e]
      show (r0.2.2 ++ [_]).length ≤ _
      rw [List.length_append]
      simpa using this
    · rw [if_neg e]
      omega
theorem eq_of_key : ∀ {rs : Rows} {r r' : Str × Addr × Lists}, (rs.map fun r => r.1).Nodup → r ∈ rs → r' ∈ rs → r.1 = r'.1 → r = r'
  | x :: xs, r, r', nd, h, h', e => by
    rw [List.map_cons,
            List.nodup_cons] at nd
    rcases List.mem_cons.1 h with q | q
    · rcases List.mem_cons.mp h' with q' | q'
      · rw [q, q']
      · refine absurd (List.mem_map.mpr ⟨r', q', ?_⟩) nd.1
        rw [← e, q]
    · rcases List.mem_cons.mp h' with q' | q'
      · refine absurd (List.mem_map.mpr ⟨r, q, ?_⟩) nd.1
        rw [e, q']
      · exact eq_of_key nd.2 q q' e
theorem eq_of_adr : ∀ {rs : Rows} {r r' : Str × Addr × Lists}, (rs.map fun r => r.2.1).Nodup → r ∈ rs → r' ∈ rs → r.2.1 = r'.2.1 → r = r'
  | x :: xs, r, r', nd, h, h', e => by
    rw [List.map_cons,
            List.nodup_cons] at nd
    rcases List.mem_cons.1 h with q | q
    · rcases List.mem_cons.mp h' with q' | q'
      · rw [q, q']
      · refine absurd (List.mem_map.mpr ⟨r', q', ?_⟩) nd.1
        rw [← e, q]
    · rcases List.mem_cons.mp h' with q' | q'
      · refine absurd (List.mem_map.mpr ⟨r, q, ?_⟩) nd.1
        rw [e, q']
      · exact eq_of_adr nd.2 q q' e
theorem ColRow.put {H : Hp} {a : Addr} {kvs : List (Key × V)} {o : HO} {kv : Key × V} {t : Str × List Col} (ha : H a = some (.dK kvs)) (h : ColRow H kv t) : ColRow (upd H a o) kv t := by
  obtain ⟨h1, b, vs, h2, h3, h4⟩ := h
  refine ⟨h1, b, vs, h2, by rw [upd_ne (ne_of h3 ha (by intro z; cases z))]; exact h3, paired_imp (fun v c hc => ?_) h4⟩
  obtain ⟨x, e, hx⟩ := hc
  exact ⟨x, e, by rw [upd_ne (ne_of hx ha (by intro z; cases z))]; exact hx⟩
theorem ListEnt.put {H : Hp} {a : Addr} {kvs : List (Key × V)} {o : HO} {kv : Key × V} {t : Str × Str × Str} (ha : H a = some (.dK kvs)) (h : ListEnt H kv t) : ListEnt (upd H a o) kv t := by
  obtain ⟨h1, b, h2, h3⟩ := h
  exact ⟨h1, b, h2, by rw [upd_ne (ne_of h3 ha (by intro z; cases z))]; exact h3⟩
theorem ListRow.put {H : Hp} {a b : Addr} {kvs : List (Key × V)} {o : HO} {ls : Lists} (ha : H a = some (.dK kvs)) (ne : b ≠ a) (h : ListRow H b ls) : ListRow (upd H a o) b ls := by
  obtain ⟨k, h1, h2⟩ := h
  exact ⟨k, by rw [upd_ne ne]; exact h1, paired_imp (fun _ _ => ListEnt.put ha) h2⟩
/-- a column's list has come -/
theorem Part.addList {C : Addr} {H : Hp} {p dc dl a b : Addr} {cvs kvs : List (Key × V)} {rs : Rows} {ts : Tabs} {ls : Lists} {c : Col} {t l : Str} (h : Part C H p dc dl cvs rs ts) (hl : c.lst = some l) (hr : (c.target, a, ls) ∈ rs) (ha : H a = some (.dK kvs)) (hk : Paired (ListEnt H) kvs ls)
    (hb : H b = some (.tup [.str t, .str c.name])) : Part C (upd H a (.dK (kvs ++ [(.inr l, .ref b)]))) p dc dl cvs (rsAdd t rs c) ts := by
  obtain ⟨⟨dx, fs, h1, h2⟩, h3, h4, h5, h6, h7, h8, h9, h10⟩ := h
  obtain ⟨d1, d2⟩ := h9 _ hr
  have hb' : ∀ o, (upd H a o) b = some (.tup [.str t, .str c.name]) := fun o => by rw [upd_ne (ne_of hb ha (by intro z; cases z))]; exact hb
  refine ⟨⟨dx, fs, by rw [upd_ne (ne_of h1 ha (by intro z; cases z))]; exact h1, h2⟩, by rw [upd_ne (Ne.symm d1)]; exact h3, paired_imp (fun _ _ => ColRow.put ha) h4, by rw [rsAdd_kvs, upd_ne (Ne.symm d2)]; exact h5, fun r hr' => ?_, by rw [rsAdd_adr]; exact h7, h8, fun r hr' => ?_, by rw [rsAdd_key]; exact h10⟩
  · unfold rsAdd at hr'
    rw [hl] at hr'
    obtain ⟨r0, h0, rfl⟩ := List.mem_map.mp hr'
    by_cases e : r0.1 = c.target
    · obtain rfl := eq_of_key h10 h0 hr e
      rw [if_pos rfl]
      exact ⟨_, upd_same, paired_app (paired_imp (fun _ _ => ListEnt.put ha) hk) (.cons ⟨rfl, b, rfl, hb' _⟩ .nil)⟩
    · rw [if_neg e]
      exact (h6 r0 h0).put ha fun z => e (congrArg (fun r => r.1) (eq_of_adr h7 h0 hr z))
  · have : r.2.1 ∈ rs.map fun r => r.2.1 := by
      rw [← rsAdd_adr t rs c]
      exact List.mem_map.mpr ⟨r, hr', rfl⟩
    obtain ⟨r0, h0, e⟩ := List.mem_map.mp this
    rw [← e]
    exact h9 r0 h0
theorem putK_new {kvs : List (Key × V)} {k : Key} {v : V} (h : valV kvs k = none) : putK kvs k v = kvs ++ [(k, v)] := by
  unfold putK
  rw [if_neg]
  unfold valV at h
  rw [Option.map_eq_none_iff, List.find?_eq_none] at h
  rw [List.any_eq_true]
  rintro ⟨x, hx, e⟩
  exact h x hx e
/-- columns that may stand in the next table -/
def ColsIn (t : Str) (cs : List Col) (m : List (Str × Lists)) (ts : Tabs) : Prop := ∀ d c r, d ++ c :: r = cs → ColIn c (d.map Col.name) (d.foldl (addCol t) m) ts
def spTakeCols (K : PySem.W.Frag) (C : Addr) : Sp := fun vs H Q _ => ∃ (p q : Addr) (i : V) (t : Str) (xs : List V) (cs : List Col) (dc dl : Addr) (cvs : List (Key × V)) (rs : Rows) (ts : Tabs), vs = [.ref p, i, .str t, .ref q] ∧ Part C H p dc dl cvs rs ts ∧
  H q = some (.lst xs) ∧ ColsV H xs cs ∧ cs.length ≤ 20 ∧ ts.length ≤ 100 ∧ t ∉ ts.map (·.1) ∧ rs.mir.map (·.1) = ts.map (·.1) ∧ (∀ r ∈ rs, r.2.2.length ≤ 500) ∧ ColsIn t cs rs.mir ts ∧
  ∀ (T D : Addr) (H' : Hp), H D = none → ExO (rs.own dc dl) H H' → Part C H' p dc dl (cvs ++ [(.inr t, .ref T)]) (cs.foldl (rsAdd t) rs ++ [(t, D, [])]) (ts ++ [(t, cs)]) → Q .non H'
end LP
namespace LP
open PySem L2
open Evl (Ex)
theorem foldl_adr (t : Str) : ∀ (cs : List Col) (rs : Rows), (cs.foldl (rsAdd t) rs).map (fun r => r.2.1) = rs.map fun r => r.2.1
  | [], _ => rfl
  | c :: r, rs => by rw [List.foldl_cons, foldl_adr t r, rsAdd_adr]
theorem foldl_mir (t : Str) : ∀ (cs : List Col) (rs : Rows), (cs.foldl (rsAdd t) rs).mir = cs.foldl (addCol t) rs.mir
  | [], _ => rfl
  | c :: r, rs => by rw [List.foldl_cons, foldl_mir t r, rsAdd_mir, List.foldl_cons]
theorem foldl_kvs (t : Str) : ∀ (cs : List Col) (rs : Rows), (cs.foldl (rsAdd t) rs).kvs = rs.kvs
  | [], _ => rfl
  | c :: r, rs => by rw [List.foldl_cons, foldl_kvs t r, rsAdd_kvs]
theorem foldl_key (t : Str) : ∀ (cs : List Col) (rs : Rows), (cs.foldl (rsAdd t) rs).map (fun r => r.1) = rs.map fun r => r.1
  | [], _ => rfl
  | c :: r, rs => by rw [List.foldl_cons, foldl_key t r, rsAdd_key]
theorem foldl_lens (t : Str) : ∀ (cs : List Col) (rs : Rows) (n : Nat), (∀ r ∈ rs, r.2.2.length ≤ n) → ∀ r ∈ cs.foldl (rsAdd t) rs, r.2.2.length ≤ n + cs.length
  | [], _, _, h => h
  | c :: r, rs, n, h => fun x hx => by
    have := foldl_lens t r (rsAdd t rs c) (n + 1) (rsAdd_len t rs c h) x hx
    rw [List.length_cons]
    omega
theorem own_eq (dc dl : Addr) (t : Str) (cs : List Col) (rs : Rows) : Rows.own dc dl (cs.foldl (rsAdd t) rs) = rs.own dc dl := by
  unfold Rows.own
  rw [foldl_adr]
theorem Col.lst_link {c : Col} {l : Str} (h : c.lst = some l) : c.isLink = true := by
  cases c <;> first | rfl | cases h
theorem ColAt.put {H : Hp} {a : Addr} {kvs : List (Key × V)} {o : HO} {v : V} {c : Col} (ha : H a = some (.dK kvs)) (h : ColAt H v c) : ColAt (L2.upd H a o) v c := by
  obtain ⟨x, e, hx⟩ := h
  exact ⟨x, e, by rw [upd_ne (ne_of hx ha (by intro z; cases z))]; exact hx⟩
theorem ColsV.put {H : Hp} {a : Addr} {kvs : List (Key × V)} {o : HO} {vs : List V} {cs : List Col} (ha : H a = some (.dK kvs)) (h : ColsV H vs cs) : ColsV (L2.upd H a o) vs cs := paired_imp (fun _ _ => ColAt.put ha) h
/-- a list that is no dict, no instance of ours, changes: the schema stays -/
theorem Part.upd {C : Addr} {H : Hp} {p dc dl q : Addr} {cvs : List (Key × V)} {rs : Rows} {ts : Tabs} {xs : List V} {o : HO} (hq : H q = some (.lst xs)) (h : Part C H p dc dl cvs rs ts) : Part C (upd H q o) p dc dl cvs rs ts := by
  obtain ⟨⟨dx, fs, h1, h2⟩, h3, h4, h5, h6, h7, h8, h9, h10⟩ := h
  have st : ∀ {a : Addr} {u : HO}, H a = some u → u ≠ .lst xs → (L2.upd H q o) a = some u := fun {a u} e n => by rw [upd_ne (ne_of e hq n)]; exact e
  refine ⟨⟨dx, fs, st h1 (by intro z; cases z), h2⟩, st h3 (by intro z; cases z), paired_imp (fun kv t h => ?_) h4, st h5 (by intro z; cases z), fun r hr => ?_, h7, h8, h9, h10⟩
  · obtain ⟨g1, b, vs, g2, g3, g4⟩ := h
    exact ⟨g1, b, vs, g2, st g3 (by intro z; cases z), g4.upd hq⟩
  · obtain ⟨k, g1, g2⟩ := h6 r hr
    refine ⟨k, st g1 (by intro z; cases z), paired_imp (fun kv e h => ?_) g2⟩
    obtain ⟨g3, b, g4, g5⟩ := h
    exact ⟨g3, b, g4, st g5 (by intro z; cases z)⟩
theorem rows_none {rs : Rows} {t : Str} (h : t ∉ rs.map fun r => r.1) : valV rs.kvs (Sum.inr t : Key) = none := by
  unfold valV
  rw [Option.map_eq_none_iff, List.find?_eq_none]
  intro kv hkv
  obtain ⟨r, hr, rfl⟩ := List.mem_map.mp hkv
  simp only [decide_eq_true_eq]
  intro e
  exact h (List.mem_map.mpr ⟨r, hr, Sum.inr.inj e⟩)
theorem ExO.back {own : List Addr} {H H1 : Hp} {D : Addr} (e : ExO own H H1) (h : ∀ a ∈ own, ∃ o, H1 a = some o) (hD : H1 D = none) : H D = none := by
  cases q : H D with
  | none => rfl
  | some o =>
    by_cases m : D ∈ own
    · obtain ⟨u, hu⟩ := h D m
      rw [hD] at hu
      cases hu
    · have := e D o q m
      rw [hD] at this
      cases this
theorem Part.there {C : Addr} {H : Hp} {p dc dl : Addr} {cvs : List (Key × V)} {rs : Rows} {ts : Tabs} (h : Part C H p dc dl cvs rs ts) : ∀ a ∈ rs.own dc dl, ∃ kv, H a = some (.dK kv) := fun a ha => by
  rcases List.mem_cons.1 ha with rfl | ha
  · exact ⟨_, h.hdc⟩
  · rcases List.mem_cons.1 ha with rfl | ha
    · exact ⟨_, h.hdl⟩
    · obtain ⟨r0, hr0, rfl⟩ := List.mem_map.mp ha
      obtain ⟨kv, g, _⟩ := h.lst r0 hr0
      exact ⟨kv, g⟩
theorem Part.addTab {C : Addr} {H : Hp} {p dc dl T D : Addr} {cvs : List (Key × V)} {rs : Rows} {ts : Tabs} {t : Str} {xs : List V} {cs : List Col} (h : Part C H p dc dl cvs rs ts) (hT : H T = some (.tup xs)) (hc : ColsV H xs cs) (hk : t ∉ rs.map fun r => r.1)
    (hD : (L2.upd H dc (.dK (cvs ++ [(.inr t, .ref T)]))) D = none) :
    Part C (L2.upd (L2.upd (L2.upd H dc (.dK (cvs ++ [(.inr t, .ref T)]))) D (.dK [])) dl (.dK (Rows.kvs (rs ++ [(t, D, [])])))) p dc dl (cvs ++ [(.inr t, .ref T)]) (rs ++ [(t, D, [])]) (ts ++ [(t, cs)]) := by
  obtain ⟨⟨dx, fs, h1, h2⟩, h3, h4, h5, h6, h7, h8, h9, h10⟩ := h
  have q1 : ∀ {a : Addr} {u : HO}, H a = some u → a ≠ dc → (L2.upd H dc (.dK (cvs ++ [(.inr t, .ref T)]))) a = some u := fun {a u} e n => by rw [upd_ne n]; exact e
  have s1 : (L2.upd H dc (.dK (cvs ++ [(.inr t, .ref T)]))) dc = some (.dK (cvs ++ [(.inr t, .ref T)])) := upd_same
  have hdl1 := q1 h5 (Ne.symm h8)
  have c1 : ∀ {kv t'}, ColRow H kv t' → ColRow (L2.upd H dc (.dK (cvs ++ [(.inr t, .ref T)]))) kv t' := fun h => h.put h3
  have l1 : ∀ {a : Addr} {ls}, a ≠ dc → ListRow H a ls → ListRow (L2.upd H dc (.dK (cvs ++ [(.inr t, .ref T)]))) a ls := fun n h => h.put h3 n
  have hT1 := q1 hT (ne_of hT h3 (by intro z; cases z))
  have hc1 := hc.put (o := .dK (cvs ++ [(.inr t, .ref T)])) h3
  have hp1 := q1 h1 (ne_of h1 h3 (by intro z; cases z))
  generalize (L2.upd H dc (.dK (cvs ++ [(.inr t, .ref T)]))) = H1 at hD s1 hdl1 c1 l1 hT1 hc1 hp1 ⊢
  have e2 : Ex H1 (L2.upd H1 D (.dK [])) := Ex.new hD
  have hD2 : (L2.upd H1 D (.dK [])) D = some (.dK []) := upd_same
  have Ddl : dl ≠ D := ne_of_none hdl1 hD
  have Ddc : dc ≠ D := ne_of_none s1 hD
  have Dad : ∀ r ∈ rs, r.2.1 ≠ D := fun r hr => by
    obtain ⟨k, g, _⟩ := l1 (h9 r hr).1 (h6 r hr)
    exact ne_of_none g hD
  generalize (L2.upd H1 D (.dK [])) = H2 at e2 hD2 ⊢
  have hdl2 := e2 _ _ hdl1
  refine ⟨⟨dx, fs, by rw [upd_ne (ne_of (e2 _ _ hp1) hdl2 (by intro z; cases z))]; exact e2 _ _ hp1, h2⟩, by rw [upd_ne h8]; exact e2 _ _ s1, paired_app (paired_imp (fun _ _ h => ((c1 h).ext e2).put hdl2) h4) (.cons ⟨rfl, T, xs, rfl, ?_, (hc1.ext e2).put hdl2⟩ .nil), upd_same, fun r hr => ?_, ?_, h8, fun r hr => ?_, ?_⟩
  · rw [upd_ne (ne_of (e2 _ _ hT1) hdl2 (by intro z; cases z))]
    exact e2 _ _ hT1
  · rcases List.mem_append.1 hr with hr | hr
    · exact ((l1 (h9 r hr).1 (h6 r hr)).ext e2).put hdl2 (h9 r hr).2
    · rw [List.mem_singleton] at hr
      subst hr
      exact ⟨[], by rw [upd_ne (Ne.symm Ddl)]; exact hD2, .nil⟩
  · rw [List.map_append]; rw [List.nodup_append]
    refine ⟨h7, by simp, fun a ha b hb => ?_⟩
    obtain ⟨r, hr, rfl⟩ := List.mem_map.mp ha
    simp only [List.map_cons,
            List.map_nil, List.mem_singleton] at hb
    rw [hb]
    exact Dad r hr
  · rcases List.mem_append.1 hr with hr | hr
    · exact h9 r hr
    · rw [List.mem_singleton] at hr
      subst hr
      exact ⟨Ne.symm Ddc, Ne.symm Ddl⟩
  · rw [List.map_append]; rw [List.nodup_append]
    refine ⟨h10, by simp, fun a ha b hb => ?_⟩
    simp only [List.map_cons,
            List.map_nil, List.mem_singleton] at hb
    rw [hb]
    rintro rfl
    exact hk ha
section
variable {base : Heap} {mg : Str → Option Value} {K : PySem.W.Frag} {w : World} {P : Program} {ra C : Addr}
theorem ok_take_columns {f : Addr} {fd : FuncData} (S : SchC K C) (me : Meth K C "_take_columns" f) (F : C8.Fun K "_take_columns" "Schema._take_columns" s_Schema__take_columns f fd) (b : Binds K fd ["self", "index", "table", "columns"] []) (B : Blt mg)
    (c_has_list : C8.Cal P w K mg base 2 "has_list" spHasList []) (c__is_column : C8.Met P w K mg base 5 C "_is_column" (spIsColumn K C) []) :
    C8.Met P w K mg base 6 C "_take_columns" (spTakeCols K C) [] := by
  have sc : FnScope ["self", "index", "table", "columns", "taken", "at", "column", "earlier"] ["self", "index", "table", "columns"] (C8.fnScope s_Schema__take_columns) := C8.fnScope_by (by decide +kernel)
  refine C8.met0 S.cls me F b sc (fun vs H Q E h => ?_) (fun cdv A outer s H vs Q E hr h => ?_)
  · obtain ⟨_, _, _, _, _, _, _, _, _, _, _, rfl, _⟩ := h
    rfl
  · obtain ⟨p, q, i, t, xs, cs, dc, dl, cvs, rs, ts, rfl, hP, hq, hc, hn1, hn2, hnt, hmk, hls, hin, k⟩ := h
    have lx := paired_len hc
    refine ⟨_, (pss_cons (ps_set (i := 4) sc.nd rfl (Or.inl rfl) (pe_lst pa_nil))
        (pss_cons (ps_for PassesOwn.never rfl (pi_enumK (K := K) rfl (by rfl) B.enumerate_ (pa_cons (pv 3) pa_nil)) (pg_tupK (K := K) (n := 2) rfl rfl (pgs_cons (pg_name (i := 5) sc.nd rfl (Or.inl rfl)) (pgs_cons (pg_name (i := 6) sc.nd rfl (Or.inl rfl)) pgs_nil)))
        (pss_cons (ps_if (pt_not (pt_val (C8.pe_mt c__is_column hr (by decide) (pv 0) (pa_cons (pv 6) (pa_cons (pe_lc (own := [("earlier", 7)]) (g := (gName 7)) (by rfl) sc.nd (pi_listK (K := K) rfl (pv 4)) (blkOk_by (own := [("earlier", 7)]) (N := ["self", "index", "table", "columns", "taken", "at", "column", "earlier"]) (sc := C8.fnScope s_Schema__take_columns) (by decide +kernel)) (fun _ _ _ _ _ => (pg_name (i := 7) sc.nd rfl (Or.inl rfl))) (fun _ _ _ _ _ => pts_nil) (fun _ _ _ _ _ => (pe_ix (ix_tupK (K := K) rfl) (pv 7) pe_int (fun _ _ => rfl)))) pa_nil)))))
        (pss_one ps_never)
        pss_nil)
        (pss_cons (ps_if (pt_val (C8.pe_c c_has_list hr (by decide) rfl (pa_cons (pv 6) pa_nil)))
        (pss_one (ps_dput (hu_of hr) (pe_dget (hu_of hr) (pe_fldK (K := K) rfl (pv 0) rfl) (pe_ix (ix_tupK (K := K) rfl) (pv 6) pe_int (fun _ _ => rfl)) (fun _ _ => rfl)) (pe_ix (ix_tupK (K := K) rfl) (pv 6) pe_int (fun _ _ => rfl)) (pe_tup (pa_cons (pv 2) (pa_cons (pe_ix (ix_tupK (K := K) rfl) (pv 6) pe_int (fun _ _ => rfl)) pa_nil))) rfl))
        pss_nil)
        (pss_one (ps_expr (pe_bmK (K := K) rfl PySem.F.plainAttrs_list PySem.F.slot_list_append PySem.F.type_list_append mt_append (pv 4) (pa_cons (pv 6) pa_nil)))))))
        (pss_cons (ps_dput (hu_of hr) (pe_fldK (K := K) rfl (pv 0) rfl) (pv 2) (pe_callTy (call_tuple_ofK (K := K) rfl) (by rfl) B.tuple_ (by decide +kernel) (pa_cons (pv 4) pa_nil)) rfl)
        (pss_one (ps_dput (hu_of hr) (pe_fldK (K := K) rfl (pv 0) rfl) (pv 2) pe_dnewK rfl))))), ?_⟩
    walk_at "w"
    intro tk htk
    have hq0 : SqL K (L2.upd H tk (.lst [])) q xs := SqL.of ((Ex.new htk) _ _ hq)
    walk_at "w"
    refine loopE (xs := xs) (fun d r σ' H' => ∃ x5 x6 md mr, σ' = [some (.ref p), some i, some (.str t), some (.ref q), some (.ref tk), x5, x6, none] ∧ cs = md ++ mr ∧ ColsV H' d md ∧ ColsV H' r mr ∧
      H' tk = some (.lst d) ∧ ExO (rs.own dc dl) H H' ∧ Part C H' p dc dl cvs (md.foldl (rsAdd t) rs) ts)
      ⟨_, _, [], cs, rfl, rfl, .nil, hc.ext (Ex.new htk), upd_same, ExO.of (Ex.new htk), hP.ext (Ex.new htk)⟩ (fun d r σ' H' e h => ?_) (fun d y r σ' H' Tp e hTp h => ?_) (fun σ' H' h => ?_)
    · obtain ⟨x5, x6, md, mr, rfl, ec, h1, h2, h3, h4, h5⟩ := h
      refine SqL.of (h4 _ _ hq ?_)
      intro z
      have ndk : ∀ a ∈ rs.own dc dl, ∃ kv, H a = some (.dK kv) := fun a ha => by
        rcases List.mem_cons.1 ha with rfl | ha
        · exact ⟨_, hP.hdc⟩
        · rcases List.mem_cons.1 ha with rfl | ha
          · exact ⟨_, hP.hdl⟩
          · obtain ⟨r0, hr0, rfl⟩ := List.mem_map.mp ha
            obtain ⟨kv, g, _⟩ := hP.lst r0 hr0
            exact ⟨kv, g⟩
      obtain ⟨kv, g⟩ := ndk _ z
      rw [hq] at g
      cases g
    · obtain ⟨x5, x6, md, mr, rfl, ec, h1, h2, h3, h4, h5⟩ := h
      obtain ⟨c, mr', rfl, hy, h2'⟩ := paired_cons h2
      have h2' : ColsV H' r mr' := h2'
      have cin := hin md c mr' ec.symm
      have hdl : d.length < sizeLine := Nat.lt_of_le_of_lt (m := 20) (by rw [paired_len h1]; rw [ec, List.length_append] at hn1; omega) (by decide)
      have hyE := hy
      obtain ⟨ca, rfl, hca⟩ := hy
      have h5n := h5.ext (Ex.new (o := .tup [.int (d.length : Nat), .ref ca]) hTp)
      have hTt : (L2.upd H' Tp (.tup [.int (d.length : Nat), .ref ca])) Tp = some (.tup [.int (d.length : Nat), .ref ca]) := upd_same
      have exT : Ex H' (L2.upd H' Tp (.tup [.int (d.length : Nat), .ref ca])) := Ex.new hTp
      generalize (L2.upd H' Tp (.tup [.int (d.length : Nat), .ref ca])) = H1 at h5n hTt exT ⊢
      obtain ⟨⟨dx, fs, i1, i2⟩, _, _, _, _, _, _, _, _⟩ := id h5n
      have htk1 : SqL K H1 tk d := SqL.of (exT _ _ h3)
      walk_at "w"
      refine w_kMeth i1 (i2.no _ (by decide)) ?_
      walk_at "w"
      intro D hD
      refine compQ md (ColAt H1) (fun c => some c.name) (fun v x => v = V.str x) hD (SqL.of (exT _ _ h3)) (by rw [paired_len h1]; rw [ec] at hn1; rw [List.length_append] at hn1; omega) (h1.ext exT) (fun y z hy hm H3 e3 kk kn hk hn => ?_) (fun acc H3 e3 hacc hp => ?_)
      · obtain ⟨a, rfl, ha⟩ := hy
        have ha3 := e3 _ _ ha
        walk_at "w"
        refine w_ixT (SqT.of ha3) z.at1 ?_
        exact hk _ _ _ (Ex.refl _) rfl rfl
      · rw [filterMap_some] at hp
        have ev := vals_strs hp
        walk_at "w"
        have h53 := h5n.ext e3
        refine ⟨p, D, .ref ca, c, md.map Col.name, dc, dl, cvs, _, ts, rfl, h53, (hyE.ext exT).ext e3, SqL.of (ev ▸ hacc), by rw [foldl_mir]; exact cin, fun H4 e4 => ?_⟩
        walk_at "w"
        have ex4 : Ex H' H4 := (exT.trans e3).trans e4
        have hc4 : ColAt H4 (.ref ca) c := hyE.ext ex4
        refine ⟨.ref ca, c, rfl, hc4, ?_⟩
        have h54 : Part C H4 p dc dl cvs (md.foldl (rsAdd t) rs) ts := h5.ext ex4
        have htk4 : H4 tk = some (.lst d) := ex4 _ _ h3
        have ec' : cs = (md ++ [c]) ++ mr' := by rw [ec, List.append_assoc]; rfl
        have hO4 : ExO (rs.own dc dl) H H4 := h4.trans (.of ex4)
        have tail : ∀ (H5 : Hp), Part C H5 p dc dl cvs ((md ++ [c]).foldl (rsAdd t) rs) ts → ExO (rs.own dc dl) H H5 → ColsV H5 d md → ColAt H5 (.ref ca) c → ColsV H5 r mr' → H5 tk = some (.lst d) →
            ∃ x5 x6 md' mr'', ([some (.ref p), some i, some (.str t), some (.ref q), some (.ref tk), some (.int (d.length : Nat)), some (.ref ca), none] : L2.St) = [some (.ref p), some i, some (.str t), some (.ref q), some (.ref tk), x5, x6, none] ∧ cs = md' ++ mr'' ∧ ColsV (L2.upd H5 tk (.lst (d ++ [.ref ca]))) (d ++ [.ref ca]) md' ∧ ColsV (L2.upd H5 tk (.lst (d ++ [.ref ca]))) r mr'' ∧
              (L2.upd H5 tk (.lst (d ++ [.ref ca]))) tk = some (.lst (d ++ [.ref ca])) ∧ ExO (rs.own dc dl) H (L2.upd H5 tk (.lst (d ++ [.ref ca]))) ∧ Part C (L2.upd H5 tk (.lst (d ++ [.ref ca]))) p dc dl cvs (md'.foldl (rsAdd t) rs) ts := fun H5 g1 g2 g3 g4 g5 g6 =>
          ⟨_, _, md ++ [c], mr', rfl, ec', paired_app (g3.upd g6) (.cons (g4.upd g6) .nil), g5.upd g6, upd_same, g2.mut htk, g1.upd g6⟩
        walk_at "w"
        refine iteB (fun hL => ?_) (fun hL => ?_)
        · obtain ⟨l, hl⟩ : ∃ l, c.lst = some l := Option.isSome_iff_exists.mp hL
          have hK := Col.lst_link hl
          have hca4 : H4 ca = some (.tup c.vals) := ex4 _ _ hca
          walk_at "w"
          refine w_ixT (SqT.of hca4) c.at1 ?_
          walk_at "w"
          intro bb hbb
          have ex5 : Ex H4 (L2.upd H4 bb (.tup [.str t, .str c.name])) := Ex.new hbb
          have hbb5 : (L2.upd H4 bb (.tup [.str t, .str c.name])) bb = some (.tup [.str t, .str c.name]) := upd_same
          generalize (L2.upd H4 bb (.tup [.str t, .str c.name])) = H5 at ex5 hbb5 ⊢
          have h55 := h54.ext ex5
          have hca5 : H5 ca = some (.tup c.vals) := ex5 _ _ hca4
          obtain ⟨⟨dx5, fs5, i5, j5⟩, _, _, _, _, _, _, _, _⟩ := id h55
          obtain ⟨cs', ls', e1, e2, e3', e4', e5'⟩ := cin.lk hK
          obtain ⟨la, l1, l2⟩ := rows_get (rs := md.foldl (rsAdd t) rs) (by rw [foldl_mir]; exact e2)
          obtain ⟨kvs, m1, m2⟩ := h55.lst _ l2
          have m1 : H5 la = some (.dK kvs) := m1
          have m2 : Paired (ListEnt H5) kvs ls' := m2
          walk_at "w"
          refine w_kFld i5 S.cls S.lists_ j5.l ?_
          walk_at "w"
          refine w_ixT (SqT.of hca5) (Col.at2 hK) ?_
          refine w_kG h55.hdl l1 ?_
          walk_at "w"
          refine w_ixT (SqT.of hca5) (Col.at4 hK) ?_
          rw [hl]
          have hlen : kvs.length < sizeLine := by
            have a1 := foldl_lens t md rs 500 hls _ l2
            have a2 : kvs.length = ls'.length := paired_len m2
            have a3 : ls'.length ≤ 500 + md.length := a1
            have a4 : md.length ≤ 20 := by rw [ec, List.length_append] at hn1; omega
            exact Nat.lt_of_le_of_lt (m := 1000) (by omega) (by decide)
          refine ⟨la, _, rfl, DPut.k (k := Sum.inr l) m1 hlen, ?_⟩
          rw [putK_new (show valV kvs (Sum.inr l : Key) = none from ?_)]
          · have hla : la ∈ rs.own dc dl := by
              rw [← own_eq dc dl t md rs]
              exact List.mem_cons_of_mem _ (List.mem_cons_of_mem _ (List.mem_map.mpr ⟨_, l2, rfl⟩))
            have h6 : Part C (L2.upd H5 la (.dK (kvs ++ [(.inr l, .ref bb)]))) p dc dl cvs ((md ++ [c]).foldl (rsAdd t) rs) ts := by
              rw [List.foldl_append]
              exact h55.addList hl l2 m1 m2 hbb5
            have tk6 : (L2.upd H5 la (.dK (kvs ++ [(.inr l, .ref bb)]))) tk = some (.lst d) := by
              rw [upd_ne (ne_of (ex5 _ _ htk4) m1 (by intro z; cases z))]
              exact ex5 _ _ htk4
            have T6 := tail _ h6 ((hO4.trans (.of ex5)).put hla) (((h1.ext ex4).ext ex5).put m1) ((hc4.ext ex5).put m1) ((((h2'.ext ex4)).ext ex5).put m1) tk6
            generalize (L2.upd H5 la (.dK (kvs ++ [(.inr l, .ref bb)]))) = H6 at h6 tk6 T6 ⊢
            walk_at "w"
            exact T6
          · have e6 : isListB cs' ls' (some l) = true := hl ▸ e5'
            unfold isListB at e6
            simp only [Bool.and_eq_true, Bool.not_eq_true', decide_eq_false_iff_not] at e6
            have := ListRow.has (a := la) m2 l
            rw [decide_eq_false e6.2] at this
            cases ev : valV kvs (Sum.inr l : Key) with
            | none => rfl
            | some v => rw [ev] at this; cases this
        · have T4 := tail H4 (by
              rw [List.foldl_append]
              show Part C H4 p dc dl cvs (rsAdd t (md.foldl (rsAdd t) rs) c) ts
              unfold rsAdd
              rw [show c.lst = none from Option.not_isSome_iff_eq_none.mp (by rw [hL]; exact Bool.false_ne_true)]
              exact h54) hO4 (h1.ext ex4) hc4 (h2'.ext ex4) htk4
          walk_at "w"
          exact T4
    · obtain ⟨x5, x6, md, mr, rfl, ec, h1, h2, h3, h4, h5⟩ := h
      cases h2
      rw [List.append_nil] at ec
      subst ec
      walk_at "w"
      refine w_tupL (SqL.of h3) fun T hT => ?_
      have ex1 : Ex H' (L2.upd H' T (.tup xs)) := Ex.new hT
      have hT1 : (L2.upd H' T (.tup xs)) T = some (.tup xs) := upd_same
      generalize (L2.upd H' T (.tup xs)) = H1 at ex1 hT1 ⊢
      have h51 := h5.ext ex1
      obtain ⟨⟨dx, fs, i1, i2⟩, g3, g4, g5, g6, g7, g8, g9, g10⟩ := id h51
      walk_at "w"
      refine w_kFld i1 S.cls S.columns_ i2.c ?_
      walk_at "w"
      have lc : cvs.length = ts.length := paired_len g4
      refine ⟨dc, _, rfl, DPut.k (k := Sum.inr t) g3 (Nat.lt_of_le_of_lt (m := 100) (by omega) (by decide)), ?_⟩
      rw [putK_new (show valV cvs (Sum.inr t : Key) = none from ?_)]
      · have kz : t ∉ (cs.foldl (rsAdd t) rs).map fun r => r.1 := by
          rw [foldl_key]
          rw [← hmk] at hnt
          unfold Rows.mir at hnt
          rw [List.map_map] at hnt
          exact hnt
        have adt := fun D hD => h51.addTab (t := t) (D := D) hT1 (h1.ext ex1) kz hD
        have st : ∀ {a : Addr} {u : HO}, H1 a = some u → a ≠ dc → (L2.upd H1 dc (.dK (cvs ++ [(.inr t, .ref T)]))) a = some u := fun {a u} e n => by rw [upd_ne n]; exact e
        have i3 := st i1 (ne_of i1 g3 (by intro z; cases z))
        have g5' := st g5 (Ne.symm g8)
        have fr : ∀ D, (L2.upd H1 dc (.dK (cvs ++ [(.inr t, .ref T)]))) D = none → H1 D = none := fun D hD => by
          by_cases e : D = dc
          · rw [e, upd_same] at hD
            cases hD
          · rw [upd_ne e] at hD
            exact hD
        have thO : ExO (rs.own dc dl) H H1 := h4.trans (.of ex1)
        walk_at "w"
        intro D hD
        have i4 := (Ex.new (o := .dK []) hD) _ _ i3
        have g6' := (Ex.new (o := .dK []) hD) _ _ g5'
        walk_at "w"
        refine w_kFld i4 S.cls S.lists_ i2.l ?_
        walk_at "w"
        refine ⟨dl, _, rfl, DPut.k (k := Sum.inr t) g6' ?_, ?_⟩
        · have e1 : (cs.foldl (rsAdd t) rs).kvs.length = ts.length := by
            rw [foldl_kvs]
            have := congrArg List.length hmk
            unfold Rows.mir at this
            simp only [List.length_map] at this
            show (rs.map _).length = _
            rw [List.length_map]
            exact this
          exact Nat.lt_of_le_of_lt (m := 100) (by omega) (by decide)
        · rw [putK_new (rows_none kz)]
          have HD1 : H D = none := thO.back (by rw [← own_eq dc dl t cs rs]; exact fun a ha => let ⟨kv, e⟩ := h51.there a ha; ⟨_, e⟩) (fr D hD)
          have hf := adt D hD
          have ek : Rows.kvs (cs.foldl (rsAdd t) rs ++ [(t, D, [])]) = (cs.foldl (rsAdd t) rs).kvs ++ [(.inr t, .ref D)] := by
            unfold Rows.kvs
            rw [List.map_append]
            rfl
          rw [ek] at hf
          exact k T D _ HD1 (((thO.put List.mem_cons_self).mut HD1).put (List.mem_cons_of_mem _ List.mem_cons_self)) hf
      · have := h51.has t
        rw [decide_eq_false hnt] at this
        cases ev : valV cvs (Sum.inr t : Key) with
        | none => rfl
        | some v => rw [ev] at this; cases this
end
end LP
namespace LP
open PySem L2
open Evl (Ex)
def Meets (H : Hp) (a : Addr) (m : List (Str × Bool)) : Prop := H a = some (.dK (m.map fun e => ((Sum.inr e.1 : Key), V.bl e.2)))
theorem meets_get {m : List (Str × Bool)} {n : Str} {b : Bool} (h : m.lookup n = some b) : valV (m.map fun e => ((Sum.inr e.1 : Key), V.bl e.2)) (Sum.inr n : Key) = some (.bl b) := by
  induction m with
  | nil => cases h
  | cons e r ih =>
    rw [List.lookup_cons] at h
    by_cases q : n = e.1
    · rw [show (n == e.1) = true by rw [q]; exact beq_self_eq_true _] at h
      cases h
      exact valV_pos (by rw [q])
    · rw [show (n == e.1) = false from beq_eq_false_iff_ne.mpr q] at h
      rw [List.map_cons, valV_neg (fun z => q (Sum.inr.inj z).symm)]
      exact ih h
def leads (m : List (Str × Bool)) (c : Col) : Bool := c.isLink && (m.lookup c.target == some true)
def spMeets (K : PySem.W.Frag) : Sp := fun vs H Q _ => ∃ (i : V) (a d : Addr) (xs : List V) (cs : List Col) (m : List (Str × Bool)), vs = [i, .ref a, .ref d] ∧ H a = some (.tup xs) ∧ ColsV H xs cs ∧ cs.length ≤ 20 ∧ (∀ c ∈ cs, c.Ok) ∧ Meets H d m ∧
  (∀ c ∈ cs, c.isLink = true → ∃ b, m.lookup c.target = some b) ∧ (∀ c ∈ cs, leads m c = true → listedOf cs ≠ [] → listedOf cs = [c]) ∧ ∀ H', Ex H H' → Q (.bl (meetOf m cs)) H'
theorem filter_ne {α : Type} (p : α → Bool) (l : List α) : (!(l.filter p).isEmpty) = l.any p := by
  induction l with
  | nil => rfl
  | cons c r ih =>
    cases h : p c with
    | true => rw [List.filter_cons_of_pos h, List.any_cons, h]; rfl
    | false => rw [List.filter_cons_of_neg (by rw [h]; exact Bool.false_ne_true), List.any_cons, h]; exact ih
theorem paired_empty {α β : Type} {R : α → β → Prop} {l : List α} {m : List β} (h : Paired R l m) : l.isEmpty = m.isEmpty := by cases h <;> rfl
theorem any_eqv (cs : List Col) (c : Col) : ((cs.map Col.data).any fun z => PyData.eqv z c.data) = decide (c ∈ cs) := by
  induction cs with
  | nil => rfl
  | cons e r ih =>
    rw [List.map_cons, List.any_cons, ih, Col.eqv]
    by_cases h : e = c
    · subst h
      rw [decide_eq_true rfl, decide_eq_true (show e ∈ e :: r from List.mem_cons_self)]
      rfl
    · rw [decide_eq_false h]
      by_cases h' : c ∈ r
      · rw [decide_eq_true h', decide_eq_true (List.mem_cons_of_mem _ h')]
        rfl
      · rw [decide_eq_false h', decide_eq_false (fun z => (List.mem_cons.mp z).elim (fun z => h z.symm) h')]
        rfl
theorem eqv_one (c : Col) : PyData.eqv (.list [c.data]) (.list [c.data]) = true := by
  simp [PyData.eqv, PyData.eqvAll, Col.eqv]
theorem listedOf_ne (cs : List Col) : (!(listedOf cs).isEmpty) = isListed cs := filter_ne (fun c : Col => c.lst.isSome) cs
section
variable {base : Heap} {mg : Str → Option Value} {K : PySem.W.Frag} {w : World} {P : Program}
theorem ok_meets {f : Addr} {fd : FuncData} (D : C8.Def K mg "_meets" s__meets f fd) (b : Binds K fd ["index", "columns", "meeting"] []) (B : Blt mg)
    (c_is_link : C8.Cal P w K mg base 1 "is_link" spIsLink []) (c_has_list : C8.Cal P w K mg base 2 "has_list" spHasList []) : C8.Cal P w K mg base 3 "_meets" (spMeets K) [] := by
  have sc : FnScope ["index", "columns", "meeting", "makers", "column", "leading", "at"] ["index", "columns", "meeting"] (C8.fnScope s__meets) := C8.fnScope_by (by decide +kernel)
  refine C8.cal0 D b .nil sc (fun vs H Q E h => ?_) (fun cdv A outer s H vs Q E hr h => ?_)
  · obtain ⟨_, _, _, _, _, _, rfl, _⟩ := h
    rfl
  · obtain ⟨i, a, d, xs, cs, m, rfl, ha, hc, hn, hok, hm, htg, hru, k⟩ := h
    have hat : SqT K H a xs := SqT.of ha
    have lx := paired_len hc
    refine ⟨_, (pss_cons (ps_setLc (i := 3) (own := [("column", 4)]) (g := (gName 4)) (by rfl) sc.nd rfl rfl (sw_true rfl rfl rfl (by decide +kernel)) (pi_tupK (K := K) rfl (pv 1)) (blkOk_by (own := [("column", 4)]) (N := ["index", "columns", "meeting", "makers", "column", "leading", "at"]) (sc := C8.fnScope s__meets) (by decide +kernel)) (fun _ _ _ _ _ => (pg_name (i := 4) sc.nd rfl (Or.inl rfl))) (fun _ _ _ _ _ => pts_one (pt_val (C8.pe_c c_has_list hr (by decide) rfl (pa_cons (pv 4) pa_nil)))) (fun _ _ _ _ _ => (pv 4)))
        (pss_cons (ps_setLc (i := 5) (own := [("column", 4)]) (g := (gName 4)) (by rfl) sc.nd rfl rfl (sw_true rfl rfl rfl (by decide +kernel)) (pi_tupK (K := K) rfl (pv 1)) (blkOk_by (own := [("column", 4)]) (N := ["index", "columns", "meeting", "makers", "column", "leading", "at"]) (sc := C8.fnScope s__meets) (by decide +kernel)) (fun _ _ _ _ _ => (pg_name (i := 4) sc.nd rfl (Or.inl rfl))) (fun _ _ _ _ _ => pts_one (PW.pt (pw_and (pt_val (C8.pe_c c_is_link hr (by decide) rfl (pa_cons (pv 4) pa_nil))) (pw_and1 (pt_val (pe_dget (hu_of hr) (pv 2) (pe_ix (ix_tupK (K := K) rfl) (pv 4) pe_int (fun _ _ => rfl)) (fun _ _ => rfl))))))) (fun _ _ _ _ _ => (pv 4)))
        (pss_cons (ps_for PassesOwn.never rfl (pi_enumTK (K := K) rfl (by rfl) B.enumerate_ (pa_cons (pv 1) pa_nil)) (pg_tupK (K := K) (n := 2) rfl rfl (pgs_cons (pg_name (i := 6) sc.nd rfl (Or.inl rfl)) (pgs_cons (pg_name (i := 4) sc.nd rfl (Or.inl rfl)) pgs_nil)))
        (pss_one (ps_if (PW.pt (pw_and (pt_truthK (K := K) rfl (pv 3)) (pw_and (pt_cmpR (op_inDK (K := K) rfl (hu65 hr)) (pv 4) (pv 5) (by rfl)) (pw_and1 (pt_cmpR (op_neDK (K := K) rfl (hu64 hr)) (pv 3) (pe_lst (pa_cons (pv 4) pa_nil)) (nomark _))))))
        (pss_one ps_never)
        pss_nil)))
        (pss_one (ps_ret (pe_or (pe_callTy (call_boolLK (K := K) rfl) (by rfl) B.bool_ (by decide +kernel) (pa_cons (pv 3) pa_nil)) (pe_one (pe_callTy (call_boolLK (K := K) rfl) (by rfl) B.bool_ (by decide +kernel) (pa_cons (pv 5) pa_nil))))))))), ?_⟩
    walk_at "w"
    intro D1 hD1
    refine compQT cs (ColAt H) (fun c => if c.lst.isSome = true then some c else none) (ColAt H) hD1 hat (by omega) hc (fun y c hy hmc H3 e3 kk kn hk hkn => ?_) (fun acc1 H1 e1 hacc1 hp1 => ?_)
    · have hy3 := hy.ext e3
      walk_at "w"
      refine ⟨y, c, rfl, hy3, ?_⟩
      walk_at "w"
      refine iteB (fun hL => ?_) (fun hL => ?_)
      · walk_at "w"
        exact hk _ _ _ (Ex.refl _) (by rw [if_pos hL]) hy
      · exact hkn _ (Ex.refl _) (by rw [if_neg (by rw [hL]; exact Bool.false_ne_true)])
    · rw [filterMap_if] at hp1
      have hat1 : SqT K H1 a xs := Evl.ex_t e1 hat
      have hp1 : ColsV H acc1 (listedOf cs) := hp1
      walk_at "w"
      intro D2 hD2
      refine compQT cs (ColAt H1) (fun c => if leads m c = true then some c else none) (ColAt H1) hD2 hat1 (by omega) (hc.ext e1) (fun y c hy hmc H3 e3 kk kn hk hkn => ?_) (fun acc2 H2 e2 hacc2 hp2 => ?_)
      · have hy3 := hy.ext e3
        walk_at "w"
        refine ⟨y, c, rfl, hy3, ?_⟩
        walk_at "w"
        refine iteB (fun hL => ?_) (fun hL => ?_)
        · obtain ⟨ca, rfl, hca⟩ := hy3
          obtain ⟨b', hb'⟩ := htg c hmc hL
          walk_at "w"
          refine w_ixT (SqT.of hca) (Col.at2 hL) ?_
          refine w_kG ((e1.trans e3) _ _ hm) (meets_get hb') ?_
          have el : leads m c = b' := by
            unfold leads
            rw [hL, hb']
            cases b' <;> rfl
          walk_at "w"
          refine iteB (fun hb => ?_) (fun hb => ?_)
          · walk_at "w"
            exact hk _ _ _ (Ex.refl _) (by rw [if_pos (el.trans hb)]) hy
          · exact hkn _ (Ex.refl _) (by rw [if_neg (by rw [el, hb]; exact Bool.false_ne_true)])
        · exact hkn _ (Ex.refl _) (by rw [if_neg (by unfold leads; rw [hL]; exact Bool.false_ne_true)])
      · rw [filterMap_if] at hp2
        have hat2 : SqT K H2 a xs := Evl.ex_t e2 hat1
        have hp2 : ColsV H1 acc2 (cs.filter (leads m)) := hp2
        have mk2 : SqL K H2 D1 acc1 := SqL.of (e2 _ _ hacc1)
        have ld2 : SqL K H2 D2 acc2 := SqL.of hacc2
        have v1 : ColsV H2 acc1 (listedOf cs) := (hp1.ext e1).ext e2
        have v2 : ColsV H2 acc2 (cs.filter (leads m)) := hp2.ext e2
        walk_at "w"
        refine loopET (xs := xs) (fun d' r σ' H' => ∃ x4 x6, σ' = [some i, some (.ref a), some (.ref d), some (.ref D1), x4, some (.ref D2), x6] ∧ Ex H2 H') ⟨_, _, rfl, Ex.refl _⟩ (fun d' r σ' H' e h => ?_) (fun d' y r σ' H' Tp e hTp h => ?_) (fun σ' H' h => ?_)
        · obtain ⟨_, _, _, ex⟩ := h
          exact Evl.ex_t ex hat2
        · obtain ⟨x4, x6, rfl, ex⟩ := h
          obtain ⟨c, hmc, hy⟩ := paired_mem hc y (by rw [← e]; simp)
          have exT : Ex H2 (L2.upd H' Tp (.tup [.int (d'.length : Nat), y])) := ex.trans (Ex.new hTp)
          have hTt : (L2.upd H' Tp (.tup [.int (d'.length : Nat), y])) Tp = some (.tup [.int (d'.length : Nat), y]) := upd_same
          generalize (L2.upd H' Tp (.tup [.int (d'.length : Nat), y])) = H3 at exT hTt ⊢
          have mk3 := Evl.ex_l exT mk2
          have ld3 := Evl.ex_l exT ld2
          have hy3 : ColAt H3 y c := ((hy.ext e1).ext e2).ext exT
          walk_at "w"
          rw [paired_empty v1, listedOf_ne]
          refine iteB (fun hL => ?_) (fun hL => ?_)
          · walk_at "w"
            have sh : ∀ l : List Col, (∀ x ∈ l, x ∈ cs) → SeqAt.shaped (.list (l.map Col.data)) = true := fun l hl => shapedL_cols fun x hx => hok x (hl x hx)
            refine ⟨c.data, (cs.filter (leads m)).map Col.data, hy3.dp, .lst ld3 (v2.ext exT).dp, Col.shaped (hok c hmc), sh _ (fun x hx => (List.mem_filter.mp hx).1), ?_⟩
            rw [any_eqv]
            walk_at "w"
            refine iteD (fun hM => ?_) (fun hM => ?_)
            · have one := hru c hmc (List.mem_filter.mp hM).2 (fun z => by
                have := listedOf_ne cs
                rw [z, hL] at this
                cases this)
              walk_at "w"
              intro L hL'
              have exL : Ex H3 (L2.upd H3 L (.lst [y])) := Ex.new hL'
              have hLL : (L2.upd H3 L (.lst [y])) L = some (.lst [y]) := upd_same
              generalize (L2.upd H3 L (.lst [y])) = H4 at exL hLL ⊢
              refine ⟨.list ((listedOf cs).map Col.data), .list [c.data], .lst (Evl.ex_l exL mk3) ((v1.ext exT).ext exL).dp, .lst (SqL.of hLL) (.cons (hy3.ext exL).dp .nil), sh _ (fun x hx => (List.mem_filter.mp hx).1), sh [c] (fun x hx => by rw [List.mem_singleton.1 hx]; exact hmc), ?_⟩
              rw [one]
              rw [show PyData.eqv (.list ([c].map Col.data)) (.list [c.data]) = true from eqv_one c]
              walk_at "w"
              exact ⟨_, _, rfl, exT.trans exL⟩
            · walk_at "w"
              exact ⟨_, _, rfl, exT⟩
          · walk_at "w"
            exact ⟨_, _, rfl, exT⟩
        · obtain ⟨x4, x6, rfl, ex⟩ := h
          have mk3 := Evl.ex_l ex mk2
          have ld3 := Evl.ex_l ex ld2
          walk_at "w"
          refine w_boolL mk3 ?_
          walk_at "w"
          rw [paired_empty v1, listedOf_ne]
          have k2 := k H' ((e1.trans e2).trans ex)
          unfold meetOf at k2
          refine iteB (fun hL => ?_) (fun hL => ?_)
          · rw [hL] at k2
            exact k2
          · rw [hL] at k2
            walk_at "w"
            refine w_boolL ld3 ?_
            rw [paired_empty v2, filter_ne]
            exact k2
end
end LP
namespace LP
open PySem L2
open Evl (Ex)
def sz (x : String) : Str := Str.ofString x
def colLine (c : Col) : Str :=
  let a : Str := (((Str.empty ++ c.kind) ++ sz " ") ++ c.name) ++ (if c.opt = true then sz "?" else sz "")
  let b : Str := if c.isLink = true then ((Str.empty ++ a) ++ sz " to ") ++ c.target else a
  match c.lst with
  | none => b
  | some l => ((Str.empty ++ b) ++ sz " as ") ++ l
def tabLines (t : Str × List Col) : List Str := ((Str.empty ++ sz "table ") ++ t.1) :: t.2.map colLine
def linesOf (u : Str) (ts : Tabs) : List Str := ((Str.empty ++ sz "user ") ++ u) :: ts.flatMap tabLines
structure Col.Sz (c : Col) : Prop where
  n : c.name.length ≤ 1000
  t : c.target.length ≤ 1000
  l : ∀ x, c.lst = some x → x.length ≤ 1000
structure TabSz (t : Str × List Col) : Prop where
  n : t.1.length ≤ 1000
  l : t.2.length ≤ 20
  c : ∀ c ∈ t.2, c.Sz
def spWriteLines : Sp := fun vs H Q _ => ∃ (u : Str) (dc : Addr) (cvs : List (Key × V)) (ts : Tabs), vs = [.str u, .ref dc] ∧ H dc = some (.dK cvs) ∧ Paired (ColRow H) cvs ts ∧ u.length ≤ 1000 ∧ ts.length ≤ 100 ∧ (ts.map (·.1)).Nodup ∧ (∀ t ∈ ts, TabSz t) ∧
  ∀ (q : Addr) (H' : Hp), Ex H H' → H' q = some (.lst ((linesOf u ts).map V.str)) → Q (.ref q) H'
def spWriteCol : Sp := fun vs H Q _ => ∃ (v : V) (c : Col), vs = [v] ∧ ColAt H v c ∧ c.Sz ∧ Q (.str (colLine c)) H
theorem Col.kind_len (c : Col) : c.kind.length ≤ 6 := by
  cases c with
  | plain f n =>
    cases f with
    | true => show (Str.ofString "flag").length ≤ 6; decide
    | false => show (Str.ofString "number").length ≤ 6; decide
  | word n o => show (Str.ofString "word").length ≤ 6; decide
  | link n t o l => show (Str.ofString "link").length ≤ 6; decide
theorem mark_len (b : Bool) : (if b = true then Str.ofString "?" else Str.ofString "").length ≤ 1 := by cases b <;> decide
section
variable {base : Heap} {mg : Str → Option Value} {K : PySem.W.Frag} {w : World} {P : Program}
theorem ok_write_column {f : Addr} {fd : FuncData} (D : C8.Def K mg "_write_column" s__write_column f fd) (b : Binds K fd ["column"] []) (c_is_link : C8.Cal P w K mg base 1 "is_link" spIsLink [])
    (c_has_list : C8.Cal P w K mg base 2 "has_list" spHasList []) (c_may_lack : C8.Cal P w K mg base 2 "may_lack" spMayLack []) : C8.Cal P w K mg base 3 "_write_column" spWriteCol [] := by
  have sc : FnScope ["column", "mark", "line"] ["column"] (C8.fnScope s__write_column) := C8.fnScope_by (by decide +kernel)
  refine C8.cal0 D b .nil sc (fun vs H Q E h => ?_) (fun cdv A outer s H vs Q E hr h => ?_)
  · obtain ⟨_, _, rfl, _⟩ := h
    rfl
  · obtain ⟨v, c, rfl, ⟨a, rfl, ha⟩, hz, k⟩ := h
    have tt : SqT K H a c.vals := SqT.of ha
    have z1 := hz.n
    have z2 := hz.t
    have z3 := c.kind_len
    have z4 := mark_len c.opt
    refine ⟨_, (pss_cons (ps_set (i := 1) sc.nd rfl (Or.inl rfl) (pe_ifExp (pt_val (C8.pe_c c_may_lack hr (by decide) rfl (pa_cons (pv 0) pa_nil))) pe_str pe_str))
        (pss_cons (ps_set (i := 2) sc.nd rfl (Or.inl rfl) (pe_joinedN (PJ.cons (pe_fmt (pe_ix (ix_tupK (K := K) rfl) (pv 0) pe_int (fun _ _ => rfl))) (PJ.cons pe_str (PJ.cons (pe_fmt (pe_ix (ix_tupK (K := K) rfl) (pv 0) pe_int (fun _ _ => rfl))) (PJ.cons (pe_fmt (pv 1)) PJ.nil))))))
        (pss_cons (ps_if (pt_val (C8.pe_c c_is_link hr (by decide) rfl (pa_cons (pv 0) pa_nil)))
        (pss_one (ps_set (i := 2) sc.nd rfl (Or.inl rfl) (pe_joinedN (PJ.cons (pe_fmt (pv 2)) (PJ.cons pe_str (PJ.cons (pe_fmt (pe_ix (ix_tupK (K := K) rfl) (pv 0) pe_int (fun _ _ => rfl))) PJ.nil))))))
        pss_nil)
        (pss_cons (ps_if (pt_val (C8.pe_c c_has_list hr (by decide) rfl (pa_cons (pv 0) pa_nil)))
        (pss_one (ps_set (i := 2) sc.nd rfl (Or.inl rfl) (pe_joinedN (PJ.cons (pe_fmt (pv 2)) (PJ.cons pe_str (PJ.cons (pe_fmt (pe_ix (ix_tupK (K := K) rfl) (pv 0) pe_int (fun _ _ => rfl))) PJ.nil))))))
        pss_nil)
        (pss_one (ps_ret (pv 2))))))), ?_⟩
    walk_at "w"
    refine ⟨_, c, rfl, ⟨a, rfl, ha⟩, ?_⟩
    walk_at "w"
    unfold colLine at k
    refine iteB (fun hL => ?_) (fun hL => ?_)
    all_goals
      rw [hL] at k
      walk_at "w"
      refine w_ixT tt c.at0 ?_
      refine w_kfmt (by walk_at "js") ?_
      refine w_jstr (by walk_at "js") ?_
      walk_at "w"
      refine w_jstr (by walk_at "js") ?_
      walk_at "w"
      refine w_ixT tt c.at1 ?_
      refine w_kfmt (by walk_at "js") ?_
      refine w_jstr (by walk_at "js") ?_
      walk_at "w"
      refine w_kfmt (by walk_at "js") ?_
      refine w_jstr (by walk_at "js") ?_
      walk_at "w"
      refine ⟨_, c, rfl, ⟨a, rfl, ha⟩, ?_⟩
      walk_at "w"
      refine iteB (fun hK => ?_) (fun hK => ?_)
      · rw [hK] at k
        walk_at "w"
        refine w_kfmt (by walk_at "js") ?_
        refine w_jstr (by walk_at "js") ?_
        walk_at "w"
        refine w_jstr (by walk_at "js") ?_
        walk_at "w"
        refine w_ixT tt (Col.at2 hK) ?_
        refine w_kfmt (by walk_at "js") ?_
        refine w_jstr (by walk_at "js") ?_
        walk_at "w"
        refine ⟨_, c, rfl, ⟨a, rfl, ha⟩, ?_⟩
        walk_at "w"
        cases hl : c.lst with
        | none =>
          rw [hl] at k
          refine iteF ?_
          walk_at "w"
          exact k
        | some x =>
          rw [hl] at k
          have zx := hz.l x hl
          refine iteT ?_
          walk_at "w"
          refine w_kfmt (by walk_at "js") ?_
          refine w_jstr (by walk_at "js") ?_
          walk_at "w"
          refine w_jstr (by walk_at "js") ?_
          walk_at "w"
          refine w_ixT tt (Col.at4 hK) ?_
          rw [hl]
          refine w_kfmt (y := x) (by walk_at "js") ?_
          refine w_jstr (by walk_at "js") ?_
          walk_at "w"
          exact k
      · have hl : c.lst = none := by cases c <;> first | rfl | cases hK
        rw [hK, hl] at k
        walk_at "w"
        refine ⟨_, c, rfl, ⟨a, rfl, ha⟩, ?_⟩
        rw [hl]
        refine ⟨false, rfl, iteF ?_⟩
        walk_at "w"
        exact k
theorem lines_len : ∀ {ts : Tabs}, (∀ t ∈ ts, TabSz t) → (ts.flatMap tabLines).length ≤ 21 * ts.length
  | [], _ => Nat.le_refl _
  | t :: r, h => by
    rw [List.flatMap_cons, List.length_append, List.length_cons]
    have i := lines_len (ts := r) fun x hx => h x (List.mem_cons_of_mem _ hx)
    have l := (h t List.mem_cons_self).l
    have : (tabLines t).length = t.2.length + 1 := by
      unfold tabLines
      rw [List.length_cons, List.length_map]
    omega
theorem lookup_mem {α : Type} : ∀ {l : List (Str × α)} {e : Str × α}, (l.map (·.1)).Nodup → e ∈ l → l.lookup e.1 = some e.2
  | x :: xs, e, nd, h => by
    rw [List.map_cons,
            List.nodup_cons] at nd
    rw [List.lookup_cons]
    rcases List.mem_cons.1 h with q | q
    · rw [q, show (x.1 == x.1) = true from beq_self_eq_true _]
    · have : e.1 ≠ x.1 := fun z => nd.1 (z ▸ List.mem_map.mpr ⟨e, q, rfl⟩)
      rw [show (e.1 == x.1) = false from beq_eq_false_iff_ne.mpr this]
      exact lookup_mem nd.2 q
theorem cgetP {H : Hp} {cvs : List (Key × V)} {ts : Tabs} {n : Str} {cs : List Col} (h : Paired (ColRow H) cvs ts) (e : ts.lookup n = some cs) :
    ∃ a vs, valV cvs (Sum.inr n : Key) = some (.ref a) ∧ H a = some (.tup vs) ∧ ColsV H vs cs := by
  rcases valV_pair (fun _ _ h => h.1) h n with ⟨h1, h2⟩ | ⟨kv, t, h1, h2, ⟨h3, a, vs, h4, h5, h6⟩, h7, h8⟩
  · exact absurd (List.mem_map.mpr ⟨(n, cs), PySem.mem_of_lookup e, rfl⟩) h2
  · rw [e] at h8
    cases h8
    exact ⟨a, vs, by rw [h7, h4], h5, h6⟩
theorem ColsV.exo {H H' : Hp} {L : Addr} {xs : List V} {vs : List V} {cs : List Col} (hL : H L = some (.lst xs)) (e : ExO [L] H H') (h : ColsV H vs cs) : ColsV H' vs cs := paired_imp (fun _ _ ⟨a, ev, ha⟩ => ⟨a, ev, e _ _ ha fun z => absurd (List.mem_singleton.mp z) (ne_of ha hL (by intro z; cases z))⟩) h
theorem w_kGf {H : Hp} {d : Addr} {o : Obj} {kvs : List (Key × V)} {k : Str} {v : V} {z : V → Prop} (h : H d = some (.frz o (.dK kvs))) (e : valV kvs (Sum.inr k : Key) = some v) (q : z v) : ∃ a' v', V.ref d = .ref a' ∧ DGet H a' (.str k) (some v') ∧ z v' :=
  ⟨d, v, rfl, .inl ⟨kvs, .inr k, .inr ⟨o, h⟩, rfl, e.symm⟩, q⟩
theorem ok_write_lines {f : Addr} {fd : FuncData} (D : C8.Def K mg "write_lines" s_write_lines f fd) (b : Binds K fd ["user", "columns"] []) (c__write_column : C8.Cal P w K mg base 3 "_write_column" spWriteCol []) : C8.Cal P w K mg base 4 "write_lines" spWriteLines [] := by
  have sc : FnScope ["user", "columns", "lines", "table", "column"] ["user", "columns"] (C8.fnScope s_write_lines) := C8.fnScope_by (by decide +kernel)
  refine C8.cal0 D b .nil sc (fun vs H Q E h => ?_) (fun cdv A outer s H vs Q E hr h => ?_)
  · obtain ⟨_, _, _, _, rfl, _⟩ := h
    rfl
  · obtain ⟨u, dc, cvs, ts, rfl, hd, hc, zu, zt, nd, ht, k⟩ := h
    refine ⟨_, (pss_cons (ps_set (i := 2) sc.nd rfl (Or.inl rfl) (pe_lst (pa_cons (pe_joinedN (PJ.cons pe_str (PJ.cons (pe_fmt (pv 0)) PJ.nil))) pa_nil)))
        (pss_cons (ps_lock (ps_for PassesOwn.never rfl (pi_keys (pv 1)) (pg_name (i := 3) sc.nd rfl (Or.inl rfl))
        (pss_cons (ps_expr (pe_bmK (K := K) rfl PySem.F.plainAttrs_list PySem.F.slot_list_append PySem.F.type_list_append mt_append (pv 2) (pa_cons (pe_joinedN (PJ.cons pe_str (PJ.cons (pe_fmt (pv 3)) PJ.nil))) pa_nil)))
        (pss_one (ps_expr (pe_bmK (K := K) rfl PySem.F.plainAttrs_list PySem.F.slot_list_extend PySem.F.type_list_extend mt_extend (pv 2) (pa_cons (pe_lc (own := [("column", 4)]) (g := (gName 4)) (by rfl) sc.nd (pi_tupK (K := K) rfl (pe_dget (hu_of hr) (pv 1) (pv 3) (fun _ _ => rfl))) (blkOk_by (own := [("column", 4)]) (N := ["user", "columns", "lines", "table", "column"]) (sc := C8.fnScope s_write_lines) (by decide +kernel)) (fun _ _ _ _ _ => (pg_name (i := 4) sc.nd rfl (Or.inl rfl))) (fun _ _ _ _ _ => pts_nil) (fun _ _ _ _ _ => (C8.pe_c c__write_column hr (by decide) rfl (pa_cons (pv 4) pa_nil)))) pa_nil)))))))
        (pss_one (ps_ret (pv 2))))), ?_⟩
    walk_at "w"
    refine w_jstr (by walk_at "js") ?_
    walk_at "w"
    refine w_kfmt (by walk_at "js") ?_
    refine w_jstr (by walk_at "js") ?_
    walk_at "w"
    intro L hL
    have Ldc : dc ≠ L := ne_of_none hd hL
    have e1 : Ex H (L2.upd H L (.lst [V.str (Str.empty ++ Str.ofString "user " ++ u)])) := Ex.new hL
    have hL1 : (L2.upd H L (.lst [V.str (Str.empty ++ Str.ofString "user " ++ u)])) L = some (.lst [V.str (Str.empty ++ Str.ofString "user " ++ u)]) := upd_same
    generalize (L2.upd H L (.lst [V.str (Str.empty ++ Str.ofString "user " ++ u)])) = H1 at e1 hL1 ⊢
    have hd1 := e1 _ _ hd
    have hc1 : Paired (ColRow H1) cvs ts := paired_imp (fun _ _ => ColRow.ext e1) hc
    walk_at "w"
    refine ⟨dc, .dK cvs, hd1, trivial, fun od => ?_⟩
    have hdF : (L2.upd H1 dc (.frz od (.dK cvs))) dc = some (.frz od (.dK cvs)) := upd_same
    have hcF : Paired (ColRow (L2.upd H1 dc (.frz od (.dK cvs)))) cvs ts := paired_imp (fun _ _ => ColRow.put hd1) hc1
    have hLF : (L2.upd H1 dc (.frz od (.dK cvs))) L = some (.lst [V.str (Str.empty ++ Str.ofString "user " ++ u)]) := by rw [upd_ne (Ne.symm Ldc)]; exact hL1
    have stF : ∀ a o, H1 a = some o → a ≠ dc → (L2.upd H1 dc (.frz od (.dK cvs))) a = some o := fun a o h n => by rw [upd_ne n]; exact h
    generalize (L2.upd H1 dc (.frz od (.dK cvs))) = HF at hdF hcF hLF stF ⊢
    walk_at "w"
    refine w_kKeys hdF ?_
    refine loopK (fun d' r σ' H' => ∃ x3 ms mr, σ' = [some (.str u), some (.ref dc), some (.ref L), x3, none] ∧ ts = ms ++ mr ∧ Paired (ColRow HF) d' ms ∧ Paired (ColRow HF) r mr ∧
        H' L = some (.lst (((Str.empty ++ Str.ofString "user " ++ u) :: ms.flatMap tabLines).map V.str)) ∧ ExO [L] HF H') ⟨_, [], ts, rfl, rfl, .nil, hcF, hLF, ExO.refl⟩ (fun d' r σ' H' e h => ?_) (fun d' y r σ' H' e h => ?_) (fun σ' H' h => ?_)
    · obtain ⟨x3, ms, mr, rfl, et, p1, p2, h1, h2⟩ := h
      exact h2 _ _ hdF fun z => Ldc (List.mem_singleton.mp z)
    · obtain ⟨x3, ms, mr, rfl, et, p1, p2, h1, h2⟩ := h
      obtain ⟨t, mr', rfl, hy, p2'⟩ := paired_cons p2
      obtain ⟨ky, vy⟩ := y
      obtain ⟨hk, _⟩ := id hy
      have hk : ky = .inr t.1 := hk
      subst hk
      have htm : t ∈ ts := by rw [et]; simp
      have hz := ht t htm
      have z1 := hz.n
      obtain ⟨ca, vs, g1, g2, g3⟩ := cgetP hcF (lookup_mem nd htm)
      show gName 3 (V.str t.1) _ _ _
      have hlen : (List.map V.str ((Str.empty ++ Str.ofString "user " ++ u) :: ms.flatMap tabLines)).length ≤ 2101 := by
        have := lines_len (ts := ms) fun x hx => ht x (by rw [et]; exact List.mem_append_left _ hx)
        rw [et, List.length_append] at zt
        rw [List.length_map, List.length_cons]
        omega
      have hsz : (List.map V.str ((Str.empty ++ Str.ofString "user " ++ u) :: ms.flatMap tabLines)).length < sizeLine := Nat.lt_of_le_of_lt hlen (by decide)
      walk_at "w"
      refine w_jstr (by walk_at "js") ?_
      walk_at "w"
      refine w_kfmt (by walk_at "js") ?_
      refine w_jstr (by walk_at "js") ?_
      walk_at "w0"
      walk_at "w0"
      refine w_app h1 hsz ?_
      have hL2 : (L2.upd H' L (.lst (List.map V.str ((Str.empty ++ Str.ofString "user " ++ u) :: ms.flatMap tabLines) ++ [V.str (Str.empty ++ Str.ofString "table " ++ t.1)]))) L = some (.lst (List.map V.str ((Str.empty ++ Str.ofString "user " ++ u) :: ms.flatMap tabLines) ++ [V.str (Str.empty ++ Str.ofString "table " ++ t.1)])) := upd_same
      have h22 : ExO [L] HF (L2.upd H' L (.lst (List.map V.str ((Str.empty ++ Str.ofString "user " ++ u) :: ms.flatMap tabLines) ++ [V.str (Str.empty ++ Str.ofString "table " ++ t.1)]))) := h2.put List.mem_cons_self
      generalize (L2.upd H' L (.lst (List.map V.str ((Str.empty ++ Str.ofString "user " ++ u) :: ms.flatMap tabLines) ++ [V.str (Str.empty ++ Str.ofString "table " ++ t.1)]))) = H2 at hL2 h22 ⊢
      have hd2 := h22 _ _ hdF fun z => Ldc (List.mem_singleton.mp z)
      have hca2 : SqT K H2 ca vs := SqT.of (h22 _ _ g2 fun z => absurd (List.mem_singleton.mp z) (ne_of g2 hLF (by intro z; cases z)))
      have g32 : ColsV H2 vs t.2 := g3.exo hLF h22
      walk_at "w"
      refine w_kGf hd2 g1 ?_
      walk_at "w"
      intro D hD
      refine compQT t.2 (ColAt H2) (fun c => some (colLine c)) (fun v x => v = V.str x) hD hca2 (by rw [paired_len g32]; have := hz.l; omega) g32 (fun y c hy hm H3 e3 kk kn hk hn => ?_) (fun acc H3 e3 hacc hp => ?_)
      · walk_at "w"
        exact ⟨y, c, rfl, hy.ext e3, hz.c c hm, hk _ _ _ (Ex.refl _) rfl rfl⟩
      · rw [filterMap_some] at hp
        have ev := vals_strs hp
        walk_at "w"
        have el : List.map V.str ((Str.empty ++ Str.ofString "user " ++ u) :: ms.flatMap tabLines) ++ [V.str (Str.empty ++ Str.ofString "table " ++ t.1)] ++ acc = List.map V.str ((Str.empty ++ Str.ofString "user " ++ u) :: (ms ++ [t]).flatMap tabLines) := by
          rw [ev, List.flatMap_append, List.map_cons, List.map_cons, List.map_append]
          simp [tabLines, sz]
        have al : acc.length ≤ 20 := by rw [ev, List.length_map, List.length_map]; exact hz.l
        refine w_ext (e3 _ _ hL2) hacc (small_le (by rw [List.length_append, List.length_singleton]; omega)) ?_
        rw [el]
        exact ⟨_, ms ++ [t], mr', rfl, by rw [et, List.append_assoc]; rfl, paired_app p1 (.cons hy .nil), p2', upd_same, (h22.trans (.of e3)).put List.mem_cons_self⟩
    · obtain ⟨x3, ms, mr, rfl, et, p1, p2, h1, h2⟩ := h
      cases p2
      rw [List.append_nil] at et
      subst et
      have hdE := h2 _ _ hdF fun z => Ldc (List.mem_singleton.mp z)
      refine ⟨hdE, ?_⟩
      walk_at "w"
      refine k L _ (fun a o h => ?_) (by rw [upd_ne (Ne.symm Ldc)]; exact h1)
      by_cases q : a = dc
      · subst q
        rw [hd] at h
        cases h
        exact upd_same
      · rw [upd_ne q]
        exact h2 _ _ (stF _ _ (e1 _ _ h) q) fun z => absurd (List.mem_singleton.mp z) (ne_of_none h hL)
end
end LP
namespace LP
open PySem L2
open Evl (Ex)
/-! ### valid tables may be taken one by one -/
theorem GoodTabs.split : ∀ {ts : Tabs}, GoodTabs ts → ∀ (td : Tabs) (t : Str × List Col) (tr : Tabs), ts = td ++ t :: tr → GoodTabs td ∧ IsName t.1 ∧ t.1 ∉ td.map (·.1) ∧ GoodCols td t.2 := by
  intro ts g
  induction g with
  | nil => intro td t tr e; cases td <;> cases e
  | @snoc ts n cs g hn hx hc ih =>
    intro td t tr e
    rcases List.eq_nil_or_concat tr with rfl | ⟨tr', z, rfl⟩
    · have e2 : ts ++ [(n, cs)] = td ++ [t] := e
      obtain ⟨rfl, e3⟩ := List.append_inj' e2 rfl
      cases e3
      exact ⟨g, hn, hx, hc⟩
    · have e2 : ts ++ [(n, cs)] = (td ++ t :: tr') ++ [z] := by rw [e]; simp
      obtain ⟨e3, e4⟩ := List.append_inj' e2 rfl
      exact ih td t tr' e3
theorem GoodTabs.nodup {ts : Tabs} (g : GoodTabs ts) : (ts.map (·.1)).Nodup := by
  induction g with
  | nil => exact List.nodup_nil
  | snoc g hn hx hc ih =>
    rw [List.map_append]; rw [List.nodup_append]
    refine ⟨ih, by simp, fun a ha b hb => ?_⟩
    simp only [List.map_cons,
            List.map_nil, List.mem_singleton] at hb
    rw [hb]
    rintro rfl
    exact hx ha
def mirOf (ts : Tabs) : List (Str × Lists) := ts.foldl (fun m t => t.2.foldl (addCol t.1) m ++ [(t.1, [])]) []
theorem mirOf_snoc (ts : Tabs) (t : Str × List Col) : mirOf (ts ++ [t]) = t.2.foldl (addCol t.1) (mirOf ts) ++ [(t.1, [])] := by
  unfold mirOf
  rw [List.foldl_append]
  rfl
theorem addCol_key (t : Str) (m : List (Str × Lists)) (c : Col) : (addCol t m c).map (·.1) = m.map (·.1) := by
  unfold addCol
  cases c.lst with
  | none => rfl
  | some l =>
    show (m.map _).map _ = _
    rw [List.map_map]
    refine List.map_congr_left fun r _ => ?_
    simp only [Function.comp]
    by_cases h : r.1 = c.target
    · rw [if_pos h]
    · rw [if_neg h]
theorem foldl_addKey (t : Str) : ∀ (cs : List Col) (m : List (Str × Lists)), (cs.foldl (addCol t) m).map (·.1) = m.map (·.1)
  | [], _ => rfl
  | c :: r, m => by rw [List.foldl_cons, foldl_addKey t r, addCol_key]
theorem mirOf_key {ts : Tabs} (g : GoodTabs ts) : (mirOf ts).map (·.1) = ts.map (·.1) := by
  induction g with
  | nil => rfl
  | snoc g hn hx hc ih => rw [mirOf_snoc, List.map_append, List.map_append, foldl_addKey, ih]; rfl
/-- where the lists come from -/
def Src (m : List (Str × Lists)) (S : Str → Str → Prop) : Prop := ∀ r ∈ m, ∀ e ∈ r.2, S r.1 e.1
theorem Src.add {t : Str} {m : List (Str × Lists)} {S : Str → Str → Prop} {c : Col} (h : Src m S) (hc : ∀ l, c.lst = some l → S c.target l) : Src (addCol t m c) S := by
  unfold addCol
  cases e : c.lst with
  | none => exact h
  | some l =>
    intro r hr x hx
    obtain ⟨r0, h0, rfl⟩ := List.mem_map.mp hr
    by_cases q : r0.1 = c.target
    · rw [if_pos q] at hx ⊢
      rcases List.mem_append.1 hx with hx | hx
      · exact h r0 h0 x hx
      · rw [List.mem_singleton.mp hx, show ((r0.1, r0.2 ++ [(l, t, c.name)]) : Str × Lists).1 = c.target from q]
        exact hc l e
    · rw [if_neg q] at hx ⊢
      exact h r0 h0 x hx
theorem Src.adds {t : Str} {S : Str → Str → Prop} : ∀ {cs : List Col} {m : List (Str × Lists)}, Src m S → (∀ c ∈ cs, ∀ l, c.lst = some l → S c.target l) → Src (cs.foldl (addCol t) m) S
  | [], _, h, _ => h
  | c :: r, m, h, hc => Src.adds (cs := r) (h.add (hc c List.mem_cons_self)) fun x hx => hc x (List.mem_cons_of_mem _ hx)
theorem mirOf_src : ∀ {ts : Tabs} {S : Str → Str → Prop}, GoodTabs ts → (∀ t ∈ ts, ∀ c ∈ t.2, ∀ l, c.lst = some l → S c.target l) → Src (mirOf ts) S := by
  intro ts S g
  induction g with
  | nil => exact fun _ r h => absurd h List.not_mem_nil
  | snoc g hn hx hc ih =>
    intro h
    rw [mirOf_snoc]
    have i := (ih fun t ht => h t (List.mem_append_left _ ht))
    intro r hr e he
    rcases List.mem_append.1 hr with hr | hr
    · exact (Src.adds i fun c hc => h _ (List.mem_append_right _ List.mem_cons_self) c hc) r hr e he
    · rw [List.mem_singleton.1 hr] at he
      exact absurd he List.not_mem_nil
theorem lookup_some {α : Type} : ∀ {l : List (Str × α)} {n : Str}, n ∈ l.map (·.1) → ∃ v, l.lookup n = some v
  | x :: xs, n, h => by
    rw [List.lookup_cons]
    by_cases e : n = x.1
    · rw [show (n == x.1) = true by rw [e]; exact beq_self_eq_true _]
      exact ⟨_, rfl⟩
    · rw [show (n == x.1) = false from beq_eq_false_iff_ne.mpr e]
      rw [List.map_cons] at h
      exact lookup_some ((List.mem_cons.mp h).resolve_left e)
theorem IsName.short {x : Str} (h : IsName x) : x.length ≤ 8 := h.1.2.1
theorem pre_colsIn {td : Tabs} {n : Str} {cs : List Col} (g : GoodTabs td) (h : PreCols td cs) : ColsIn n cs (mirOf td) td := by
  intro d c r e
  have hc : c ∈ cs := by rw [← e]; simp
  have nd := h.nd
  refine ⟨h.nm c hc, fun z => ?_, fun hL => ?_⟩
  · rw [← e, List.map_append, List.nodup_append] at nd
    exact nd.2.2 _ z _ (by rw [List.map_cons]; exact List.mem_cons_self) rfl
  · have htg := h.tg c hc hL
    obtain ⟨cs', hcs'⟩ := lookup_some htg
    obtain ⟨ls, hls⟩ := lookup_some (l := d.foldl (addCol n) (mirOf td)) (n := c.target) (by rw [foldl_addKey, mirOf_key g]; exact htg)
    have mt := PySem.mem_of_lookup hcs'
    refine ⟨cs', ls, hcs', hls, Nat.le_trans (g.cols _ mt) (by decide), fun x hx => Nat.le_trans (h.ls c hc x hx).short (by decide), ?_⟩
    cases hl : c.lst with
    | none => rfl
    | some l =>
      have old := h.old c hc l hl
      have o1 := old _ mt
      show (nameB l && !decide (l ∈ cs'.map Col.name) && !decide (l ∈ ls.map (·.1))) = true
      rw [(nameB_iff l).mpr (h.ls c hc l hl), decide_eq_false, decide_eq_false]
      · rfl
      · intro z
        obtain ⟨x, hx, rfl⟩ := List.mem_map.mp z
        have src : Src (d.foldl (addCol n) (mirOf td)) fun tg l => (∃ t ∈ td, ∃ c ∈ t.2, c.target = tg ∧ c.lst = some l) ∨ ∃ c ∈ d, c.target = tg ∧ c.lst = some l :=
          (mirOf_src g fun t ht c hc l hl => .inl ⟨t, ht, c, hc, rfl, hl⟩).adds fun c hc l hl => .inr ⟨c, hc, rfl, hl⟩
        rcases src _ (PySem.mem_of_lookup hls) x hx with ⟨t, ht, c', hc', e1, e2⟩ | ⟨c', hc', e1, e2⟩
        · refine old t ht ?_
          unfold takenStep linkLists
          refine List.mem_append_left _ (List.mem_map.mpr ⟨c', List.mem_filter.mpr ⟨hc', ?_⟩, e2⟩)
          rw [Col.lst_link e2, decide_eq_true e1]
          rfl
        · have pw := h.fr
          rw [← e, List.pairwise_append] at pw
          exact pw.2.2 c' hc' c List.mem_cons_self (Col.lst_link e2) e1 x.1 hl e2
      · intro z
        refine o1 ?_
        unfold takenStep
        rw [if_pos rfl]
        refine List.mem_append_right _ ?_
        obtain ⟨c', hc', e1⟩ := List.mem_map.mp z
        exact List.mem_map.mpr ⟨c', hc', by rw [e1]⟩
theorem good_colsIn {td : Tabs} {n : Str} {cs : List Col} (g : GoodTabs td) (h : GoodCols td cs) : ColsIn n cs (mirOf td) td := pre_colsIn g h.toPreCols
/-- the rows a schema's lists end with -/
theorem good_rule {td : Tabs} {cs : List Col} (h : GoodCols td cs) : ∀ c ∈ cs, leads (meetMap td) c = true → listedOf cs ≠ [] → listedOf cs = [c] := fun c hc hl hn => by
  unfold leads at hl
  rw [Bool.and_eq_true] at hl
  exact h.r6 c hc hl.1 hl.2 hn
theorem good_targets {td : Tabs} {cs : List Col} (h : PreCols td cs) : ∀ c ∈ cs, c.isLink = true → ∃ b, (meetMap td).lookup c.target = some b := fun c hc hl =>
  lookup_some (by rw [meetMap_keys]; exact h.tg c hc hl)
theorem good_sz {ts : Tabs} (g : GoodTabs ts) : ∀ t ∈ ts, TabSz t := by
  intro t ht
  obtain ⟨td, tr, e⟩ := List.append_of_mem ht
  obtain ⟨g1, g2, g3, g4⟩ := g.split td t tr e
  refine ⟨Nat.le_trans g2.short (by decide), Nat.le_trans g4.few (by decide), fun c hc => ⟨Nat.le_trans (g4.nm c hc).short (by decide), ?_, fun x hx => Nat.le_trans (g4.ls c hc x hx).short (by decide)⟩⟩
  cases hk : c.isLink with
  | true =>
    obtain ⟨t', h1, h2⟩ := List.mem_map.mp (g4.tg c hc hk)
    rw [← h2]
    exact Nat.le_trans (g1.names t' h1).short (by decide)
  | false =>
    have : c.target = "" := by cases c <;> first | rfl | cases hk
    rw [this]
    decide
end LP
namespace LP
open PySem L2
open Evl (Ex)
/-- a schema, made -/
structure SchAt (C : Addr) (H : Hp) (p : Addr) (u : Str) (ts : Tabs) : Prop where
  ex : ∃ (dc dl : Addr) (cvs : List (Key × V)) (rs : Rows) (dx : Addr) (fs : List (Str × V)) (tt ll : Addr), Part C H p dc dl cvs rs ts ∧ rs.mir = mirOf ts ∧ H p = some (.ins C dx fs) ∧ FsOk fs dc dl ∧ fs.lookup ("user" : Str) = some (.str u) ∧
    fs.lookup ("tables" : Str) = some (.ref tt) ∧ H tt = some (.tup (ts.map fun t => V.str t.1)) ∧ fs.lookup ("_lines" : Str) = some (.ref ll) ∧ H ll = some (.lst ((linesOf u ts).map V.str))
theorem SchAt.ext {C : Addr} {H H' : Hp} {p : Addr} {u : Str} {ts : Tabs} (e : Ex H H') (h : SchAt C H p u ts) : SchAt C H' p u ts := by
  obtain ⟨dc, dl, cvs, rs, dx, fs, tt, ll, h1, h2, h3, h4, h5, h6, h7, h8, h9⟩ := h.ex
  exact ⟨dc, dl, cvs, rs, dx, fs, tt, ll, h1.ext e, h2, e _ _ h3, h4, h5, h6, e _ _ h7, h8, e _ _ h9⟩
def spInit (C : Addr) : Sp := fun vs H Q _ => ∃ (p q dx : Addr) (u : Str) (ts : Tabs), vs = [.ref p, .str u, .ref q] ∧ H p = some (.ins C dx []) ∧ TabsAt H q ts ∧ GoodTabs ts ∧ 1 ≤ ts.length ∧ ts.length ≤ 6 ∧ u ∈ ts.map (·.1) ∧
  ∀ H', ExO [p] H H' → SchAt C H' p u ts → Q .non H'
/-- a field of the schema is set -/
theorem Part.setF {C : Addr} {H : Hp} {p dc dl dx dx' : Addr} {cvs : List (Key × V)} {rs : Rows} {ts : Tabs} {fs fs' : List (Str × V)} (h : Part C H p dc dl cvs rs ts) (hp : H p = some (.ins C dx fs)) (hf : FsOk fs' dc dl) : Part C (L2.upd H p (.ins C dx' fs')) p dc dl cvs rs ts := by
  obtain ⟨_, h3, h4, h5, h6, h7, h8, h9, h10⟩ := h
  have st : ∀ {a : Addr} {u : HO}, H a = some u → u ≠ .ins C dx fs → (L2.upd H p (.ins C dx' fs')) a = some u := fun {a u} e n => by rw [upd_ne (ne_of e hp n)]; exact e
  refine ⟨⟨dx', fs', upd_same, hf⟩, st h3 (by intro z; cases z), paired_imp (fun kv t h => ?_) h4, st h5 (by intro z; cases z), fun r hr => ?_, h7, h8, h9, h10⟩
  · obtain ⟨g1, b, vs, g2, g3, g4⟩ := h
    refine ⟨g1, b, vs, g2, st g3 (by intro z; cases z), paired_imp (fun v c hc => ?_) g4⟩
    obtain ⟨x, e, hx⟩ := hc
    exact ⟨x, e, st hx (by intro z; cases z)⟩
  · obtain ⟨k, g1, g2⟩ := h6 r hr
    refine ⟨k, st g1 (by intro z; cases z), paired_imp (fun kv e h => ?_) g2⟩
    obtain ⟨g3, b, g4, g5⟩ := h
    exact ⟨g3, b, g4, st g5 (by intro z; cases z)⟩
theorem FsOk.put {fs : List (Str × V)} {dc dl : Addr} {f : Str} {y : V} (h : FsOk fs dc dl) (hf : f ∉ ("_columns" : Str) :: ("_lists" : Str) :: meths) : FsOk (putF f y fs) dc dl := by
  refine ⟨?_, ?_, fun m hm => ?_⟩
  · rw [lookup_putF, if_neg (show ¬ (("_columns" : Str) = f) from fun z => hf (by rw [← z]; exact List.mem_cons_self))]
    exact h.c
  · rw [lookup_putF, if_neg (show ¬ (("_lists" : Str) = f) from fun z => hf (by rw [← z]; exact List.mem_cons_of_mem _ List.mem_cons_self))]
    exact h.l
  · rw [lookup_putF, if_neg (show ¬ (m = f) from fun z => hf (by rw [← z]; exact List.mem_cons_of_mem _ (List.mem_cons_of_mem _ hm)))]
    exact h.no m hm
theorem keepT {p C dx : Addr} {H H' : Hp} {a : Addr} {ys : List V} (hp : H p = some (.ins C dx [])) (x : ExO [p] H H') (h : H a = some (.tup ys)) : H' a = some (.tup ys) := x _ _ h fun z => by rw [List.mem_singleton.mp z, hp] at h; cases h
theorem keepL {p C dx : Addr} {H H' : Hp} {a : Addr} {ys : List V} (hp : H p = some (.ins C dx [])) (x : ExO [p] H H') (h : H a = some (.lst ys)) : H' a = some (.lst ys) := x _ _ h fun z => by rw [List.mem_singleton.mp z, hp] at h; cases h
theorem keepC {p C dx : Addr} {H H' : Hp} {vs : List V} {cs : List Col} (hp : H p = some (.ins C dx [])) (x : ExO [p] H H') (h : ColsV H vs cs) : ColsV H' vs cs := paired_imp (fun v c ⟨b, ev, hb⟩ => ⟨b, ev, keepT hp x hb⟩) h
theorem ExO.over {o1 o2 : List Addr} {H H1 H2 : Hp} (a : ExO o1 H H1) (b : ExO o2 H1 H2) (h : ∀ x ∈ o2, H x = none) : ExO o1 H H2 := fun c o hc n => b c o (a c o hc n) fun z => by
  rw [h c z] at hc
  cases hc
/-- another dict changes -/
theorem Part.other {C : Addr} {H : Hp} {p dc dl a : Addr} {cvs kvs : List (Key × V)} {rs : Rows} {ts : Tabs} {o : HO} (h : Part C H p dc dl cvs rs ts) (ha : H a = some (.dK kvs)) (n : a ∉ rs.own dc dl) : Part C (L2.upd H a o) p dc dl cvs rs ts := by
  obtain ⟨⟨dx, fs, h1, h2⟩, h3, h4, h5, h6, h7, h8, h9, h10⟩ := h
  have n1 : dc ≠ a := fun z => n (by rw [← z]; exact List.mem_cons_self)
  have n2 : dl ≠ a := fun z => n (by rw [← z]; exact List.mem_cons_of_mem _ List.mem_cons_self)
  refine ⟨⟨dx, fs, by rw [upd_ne (ne_of h1 ha (by intro z; cases z))]; exact h1, h2⟩, by rw [upd_ne n1]; exact h3, paired_imp (fun _ _ => ColRow.put ha) h4, by rw [upd_ne n2]; exact h5, fun r hr => (h6 r hr).put ha fun z => n ?_, h7, h8, h9, h10⟩
  rw [← z]
  exact List.mem_cons_of_mem _ (List.mem_cons_of_mem _ (List.mem_map.mpr ⟨r, hr, rfl⟩))
theorem meets_none {m : List (Str × Bool)} {n : Str} (h : n ∉ m.map (·.1)) : valV (m.map fun e => ((Sum.inr e.1 : Key), V.bl e.2)) (Sum.inr n : Key) = none := by
  unfold valV
  rw [Option.map_eq_none_iff, List.find?_eq_none]
  intro kv hkv
  obtain ⟨e, he, rfl⟩ := List.mem_map.mp hkv
  simp only [decide_eq_true_eq]
  intro z
  exact h (List.mem_map.mpr ⟨e, he, Sum.inr.inj z⟩)
theorem tup_keys {H : Hp} {cvs : List (Key × V)} {ts : Tabs} (h : Paired (ColRow H) cvs ts) : (cvs.map fun kv => kV kv.1) = ts.map fun t => V.str t.1 := by
  induction h with
  | nil => rfl
  | cons h _ ih => rw [List.map_cons, List.map_cons, ih, h.1]; rfl
section
variable {base : Heap} {mg : Str → Option Value} {K : PySem.W.Frag} {w : World} {P : Program} {ra C : Addr}
theorem ok_init {f : Addr} {fd : FuncData} {mc : Value} (S : SchC K C) (M : Mk K C f) (F : C8.Fun K "__init__" "Schema.__init__" s_Schema___init__ f fd) (b : Binds K fd ["self", "user", "tables"] []) (B : Blt mg) (T : Cns K mg ra C) (hmC : mg "Schema" = some (.ref C))
    (c_is_name : SCal P w K mg base 3 C mc "is_name" (spAsk K (strD nameB))) (c___contains__ : C8.Met P w K mg base 1 C "__contains__" (spContains K C) []) (c__take_columns : C8.Met P w K mg base 6 C "_take_columns" (spTakeCols K C) [])
    (c__meets : C8.Cal P w K mg base 3 "_meets" (spMeets K) []) (c_write_lines : C8.Cal P w K mg base 4 "write_lines" spWriteLines []) :
    C8.Mak P w K mg base 7 "Schema" C (spInit C) [] := by
  have sc : FnScope ["self", "user", "tables", "meeting", "index", "name", "columns"] ["self", "user", "tables"] (C8.fnScope s_Schema___init__) := C8.fnScope_by (by decide +kernel)
  refine C8.mak0 M hmC F b .nil sc (fun vs H Q E h => ?_) (fun cdv A outer s H vs Q E hr h => ?_)
  · obtain ⟨_, _, _, _, _, rfl, _⟩ := h
    rfl
  · obtain ⟨p, q, dx, u, ts, rfl, hp, ⟨xs, hq, hx⟩, g, l1, l2, hu, k⟩ := h
    have lx := paired_len hx
    refine ⟨_, (pss_cons (ps_if (pt_not (pt_chain op_le op_le pe_int (pe_callB (call_len_seqK (K := K) rfl) (by rfl) B.len_ (by decide +kernel) (pa_cons (pv 2) pa_nil)) (C8.pe_gc rfl T.MOST_TABLES_)))
        (pss_one ps_never)
        pss_nil)
        (pss_cons (ps_fldK (K := K) rfl (pv 0) pe_dnewK rfl)
        (pss_cons (ps_fldK (K := K) rfl (pv 0) pe_dnewK rfl)
        (pss_cons (ps_set (i := 3) sc.nd rfl (Or.inl rfl) pe_dnewK)
        (pss_cons (ps_for PassesOwn.never rfl (pi_enumK (K := K) rfl (by rfl) B.enumerate_ (pa_cons (pv 2) pa_nil)) (pg_tupK (K := K) (n := 2) rfl rfl (pgs_cons (pg_name (i := 4) sc.nd rfl (Or.inl rfl)) (pgs_cons (pg_tupK (K := K) (n := 2) rfl rfl (pgs_cons (pg_name (i := 5) sc.nd rfl (Or.inl rfl)) (pgs_cons (pg_name (i := 6) sc.nd rfl (Or.inl rfl)) pgs_nil))) pgs_nil)))
        (pss_cons (ps_if (PW.pt (pw_or (pt_not (pt_val (pe_sm c_is_name hr (by decide) (C8.pe_gc rfl T.Schema_) (pa_cons (pv 5) pa_nil)))) (pw_or (pt_cmp (pc_din (hu_of hr) (pv 5) (pe_fldK (K := K) rfl (pv 0) rfl))) (pw_or1 (pt_cmpR op_gt (pe_callB (call_len_seqK (K := K) rfl) (by rfl) B.len_ (by decide +kernel) (pa_cons (pv 6) pa_nil)) (C8.pe_gc rfl T.MOST_COLUMNS_) (nomark _))))))
        (pss_one ps_never)
        pss_nil)
        (pss_cons (ps_expr (C8.pe_mt c__take_columns hr (by decide) (pv 0) (pa_cons (pv 4) (pa_cons (pv 5) (pa_cons (pv 6) pa_nil)))))
        (pss_one (ps_dput (hu_of hr) (pv 3) (pv 5) (C8.pe_c c__meets hr (by decide) rfl (pa_cons (pv 4) (pa_cons (pe_dget (hu_of hr) (pe_fldK (K := K) rfl (pv 0) rfl) (pv 5) (fun _ _ => rfl)) (pa_cons (pv 3) pa_nil)))) rfl)))))
        (pss_cons (ps_if (pt_cmpR (op_onin (dvs := []) c___contains__ hr (by decide)) (pv 1) (pv 0) (by rfl))
        (pss_one ps_never)
        pss_nil)
        (pss_cons (ps_fldK (K := K) rfl (pv 0) (pv 1) rfl)
        (pss_cons (ps_fldK (K := K) rfl (pv 0) (pe_callTy (call_tupD rfl) (by rfl) B.tuple_ (by decide +kernel) (pa_cons (pe_fldK (K := K) rfl (pv 0) rfl) pa_nil)) rfl)
        (pss_one (ps_fldK (K := K) rfl (pv 0) (C8.pe_c c_write_lines hr (by decide) rfl (pa_cons (pv 1) (pa_cons (pe_fldK (K := K) rfl (pv 0) rfl) pa_nil))) rfl)))))))))), ?_⟩
    walk_at "w"
    refine iteD (fun _ => ?_) (fun h => absurd (by omega) h)
    walk_at "w"
    refine iteND (fun h => absurd (by omega) h) (fun _ => ?_)
    walk_at "w"
    intro dc hdc
    have hp1 : (L2.upd H dc (.dK [])) p = some (.ins C dx []) := by rw [upd_ne (ne_of_none hp hdc)]; exact hp
    have hc1 : (L2.upd H dc (.dK [])) dc = some (.dK []) := upd_same
    have x1 : ExO [p] H (L2.upd H dc (.dK [])) := ExO.of (Ex.new hdc)
    generalize (L2.upd H dc (.dK [])) = H1 at hp1 hc1 x1 ⊢
    walk_at "w"
    refine w_kSfld hp1 S.cls S.columns_ (by decide) ?_
    have hp2 : (L2.upd H1 p (.ins C dx (putF "_columns" (.ref dc) []))) p = some (.ins C dx (putF "_columns" (.ref dc) [])) := upd_same
    have hc2 : (L2.upd H1 p (.ins C dx (putF "_columns" (.ref dc) []))) dc = some (.dK []) := by rw [upd_ne (ne_of hc1 hp1 (by intro z; cases z))]; exact hc1
    have x2 : ExO [p] H (L2.upd H1 p (.ins C dx (putF "_columns" (.ref dc) []))) := x1.put List.mem_cons_self
    generalize (L2.upd H1 p (.ins C dx (putF "_columns" (.ref dc) []))) = H2 at hp2 hc2 x2 ⊢
    have one : ∀ {a : Addr}, a ∈ [p] → ∀ {G : Hp}, G p = some (.ins C dx []) → ∃ o, G a = some o := fun h _ e => by rw [List.mem_singleton.1 h]; exact ⟨_, e⟩
    walk_at "w"
    intro dl hdl
    have cdl : dc ≠ dl := ne_of_none hc2 hdl
    have hdl0 : H dl = none := x2.back (fun a ha => by rw [List.mem_singleton.1 ha]; exact ⟨_, hp2⟩) hdl
    have hp3 : (L2.upd H2 dl (.dK [])) p = some (.ins C dx (putF "_columns" (.ref dc) [])) := by rw [upd_ne (ne_of_none hp2 hdl)]; exact hp2
    have hc3 : (L2.upd H2 dl (.dK [])) dc = some (.dK []) := by rw [upd_ne cdl]; exact hc2
    have hl3 : (L2.upd H2 dl (.dK [])) dl = some (.dK []) := upd_same
    have x3 : ExO [p] H (L2.upd H2 dl (.dK [])) := x2.mut hdl0
    generalize (L2.upd H2 dl (.dK [])) = H3 at hp3 hc3 hl3 x3 ⊢
    have f5 : FsOk (putF "_lists" (.ref dl) (putF "_columns" (.ref dc) [])) dc dl := by
      have nm : ∀ m ∈ meths, ¬ m = ("_lists" : Str) ∧ ¬ m = ("_columns" : Str) := by decide +kernel
      refine ⟨?_, ?_, fun m hm => ?_⟩
      · rw [lookup_putF, if_neg (by decide +kernel), lookup_putF, if_pos rfl]
      · rw [lookup_putF, if_pos rfl]
      · rw [lookup_putF, if_neg (nm m hm).1, lookup_putF, if_neg (nm m hm).2]
        rfl
    have ln2 : (putF "_columns" (.ref dc) ([] : List (Str × V))).length ≤ 1 := length_putF _ _ _
    have ln5 : (putF "_lists" (.ref dl) (putF "_columns" (.ref dc) ([] : List (Str × V)))).length ≤ 2 := Nat.le_trans (length_putF _ _ _) (Nat.succ_le_succ ln2)
    walk_at "w"
    refine w_kSfld hp3 S.cls S.lists_ (by omega) ?_
    generalize (putF "_lists" (.ref dl) (putF "_columns" (.ref dc) [])) = fs at f5 ln5 ⊢
    have hp4 : (L2.upd H3 p (.ins C dx fs)) p = some (.ins C dx fs) := upd_same
    have hc4 : (L2.upd H3 p (.ins C dx fs)) dc = some (.dK []) := by rw [upd_ne (ne_of hc3 hp3 (by intro z; cases z))]; exact hc3
    have hl4 : (L2.upd H3 p (.ins C dx fs)) dl = some (.dK []) := by rw [upd_ne (ne_of hl3 hp3 (by intro z; cases z))]; exact hl3
    have x4 : ExO [p] H (L2.upd H3 p (.ins C dx fs)) := x3.put List.mem_cons_self
    generalize (L2.upd H3 p (.ins C dx fs)) = H4 at hp4 hc4 hl4 x4 ⊢
    walk_at "w"
    intro dm hdm
    have cdm : dc ≠ dm := ne_of_none hc4 hdm
    have ldm : dl ≠ dm := ne_of_none hl4 hdm
    have hdm0 : H dm = none := x4.back (fun a ha => by rw [List.mem_singleton.1 ha]; exact ⟨_, hp4⟩) hdm
    have e5 : Ex H4 (L2.upd H4 dm (.dK [])) := Ex.new hdm
    have hm5 : (L2.upd H4 dm (.dK [])) dm = some (.dK []) := upd_same
    have x5 : ExO [p] H (L2.upd H4 dm (.dK [])) := x4.mut hdm0
    generalize (L2.upd H4 dm (.dK [])) = H5 at e5 hm5 x5 ⊢
    have P5 : Part C H5 p dc dl [] [] [] := ⟨⟨dx, fs, e5 _ _ hp4, f5⟩, e5 _ _ hc4, .nil, e5 _ _ hl4, fun _ h => absurd h List.not_mem_nil, List.nodup_nil, cdl, fun _ h => absurd h List.not_mem_nil, List.nodup_nil⟩
    have hq5 : SqL K H5 q xs := SqL.of (x5 _ _ hq fun z => by rw [List.mem_singleton.mp z, hp] at hq; cases hq)
    walk_at "w"
    refine loopE (xs := xs) (fun d r σ' H' => ∃ x4 x5 x6 td tr cvs rs, σ' = [some (.ref p), some (.str u), some (.ref q), some (.ref dm), x4, x5, x6] ∧ ts = td ++ tr ∧ Paired (TabAt H) r tr ∧ Part C H' p dc dl cvs rs td ∧ rs.mir = mirOf td ∧ Meets H' dm (meetMap td) ∧ ExO [p] H H' ∧ H' p = some (.ins C dx fs) ∧
        (∀ r ∈ rs, H r.2.1 = none ∧ r.2.1 ≠ dm ∧ r.2.2.length ≤ 6 * td.length)) ⟨_, _, _, [], ts, [], [], rfl, rfl, hx, P5, rfl, hm5, x5, e5 _ _ hp4, fun _ h => absurd h List.not_mem_nil⟩ (fun d r σ' H' e h => ?_) (fun d y r σ' H' Tp e hTp h => ?_) (fun σ' H' h => ?_)
    · obtain ⟨_, _, _, _, _, _, _, _, _, _, _, _, _, x, _, _⟩ := h
      exact SqL.of (keepL hp x hq)
    · obtain ⟨x4, x5', x6, td, tr, cvs, rs, rfl, et, hr0, hP, hmi, hme, hO, hpf, hrs⟩ := h
      obtain ⟨t, tr', rfl, hy, hr1⟩ := paired_cons hr0
      obtain ⟨g1, g2, g3, g4⟩ := g.split td t tr' et
      obtain ⟨ya, pp, rfl, hya, vs, hpp, hcs⟩ := hy
      have hT1 : (L2.upd H' Tp (.tup [.int (d.length : Nat), .ref ya])) Tp = some (.tup [.int (d.length : Nat), .ref ya]) := upd_same
      have eT : Ex H' (L2.upd H' Tp (.tup [.int (d.length : Nat), .ref ya])) := Ex.new hTp
      generalize (L2.upd H' Tp (.tup [.int (d.length : Nat), .ref ya])) = H1 at hT1 eT ⊢
      have hO1 : ExO [p] H H1 := hO.trans (.of eT)
      have hP1 := hP.ext eT
      have hme1 : H1 dm = _ := eT _ _ hme
      obtain ⟨⟨dx1, fs1, i1, i2⟩, _, _, _, _, _, _, _, _⟩ := id hP1
      have hya1 := keepT hp hO1 hya
      have hpp1 : H1 pp = some (.lst vs) := keepL hp hO1 hpp
      have hpL : SqL K H1 pp vs := SqL.of hpp1
      have hcs1 : ColsV H1 vs t.2 := keepC hp hO1 hcs
      have lv := paired_len hcs1
      have few := g4.few
      walk_at "w"
      refine ⟨_, .str t.1, rfl, .str _, (fun y e => by cases e; exact Nat.le_trans g2.short (by decide)), ?_⟩
      rw [show strD nameB (.str t.1) = true from (nameB_iff _).mpr g2]
      walk_at "w"
      refine w_kFld i1 S.cls S.columns_ i2.c ?_
      refine w_kI2 hP1.hdc ?_
      rw [hP1.has, decide_eq_false g3]
      walk_at "w"
      refine iteD (fun h => absurd h (by omega)) (fun _ => ?_)
      walk_at "w"
      refine w_kMeth i1 (i2.no _ (by decide +kernel)) ?_
      walk_at "w"
      have mk : rs.mir.map (·.1) = td.map (·.1) := by rw [hmi]; exact mirOf_key g1
      have ltd : td.length ≤ 6 := by rw [et, List.length_append] at l2; omega
      have hown : ∀ a ∈ rs.own dc dl, H a = none := fun a ha => by
        rcases List.mem_cons.1 ha with rfl | ha
        · exact hdc
        · rcases List.mem_cons.1 ha with rfl | ha
          · exact hdl0
          · obtain ⟨r0, hr0, rfl⟩ := List.mem_map.mp ha
            exact (hrs r0 hr0).1
      have dmo : dm ∉ rs.own dc dl := fun ha => by
        rcases List.mem_cons.1 ha with z | ha
        · exact cdm z.symm
        · rcases List.mem_cons.1 ha with z | ha
          · exact ldm z.symm
          · obtain ⟨r0, hr0, z⟩ := List.mem_map.mp ha
            exact (hrs r0 hr0).2.1 z
      refine ⟨p, pp, _, t.1, vs, t.2, dc, dl, cvs, rs, td, rfl, hP1, hpp1, hcs1, by omega, by omega, g3, mk, fun r hr => by have := (hrs r hr).2.2; omega, by rw [hmi]; exact good_colsIn g1 g4, fun T D H3 hD hO3 hP3 => ?_⟩
      have hme3 : H3 dm = some (.dK ((meetMap td).map fun e => ((Sum.inr e.1 : Key), V.bl e.2))) := hO3 _ _ hme1 dmo
      have hp3' : H3 p = some (.ins C dx fs) := hO3 _ _ (eT _ _ hpf) fun z => by rw [hown p z] at hp; cases hp
      have hOO3 : ExO [p] H H3 := hO1.over hO3 hown
      have hD0 : H D = none := hO1.back (fun a ha => by rw [List.mem_singleton.1 ha]; exact ⟨_, i1⟩) hD
      have Ddm : D ≠ dm := fun z => by rw [z, hme1] at hD; cases hD
      obtain ⟨⟨dx3, fs3, j1, j2⟩, k3, _, _, _, _, _, _, _⟩ := id hP3
      have lk : (td ++ [(t.1, t.2)]).lookup t.1 = some t.2 := lookup_mem (l := td ++ [(t.1, t.2)]) (e := t) (by
        have := g.nodup
        rw [et] at this
        have e2 : td ++ t :: tr' = (td ++ [(t.1, t.2)]) ++ tr' := by simp
        rw [e2, List.map_append] at this
        exact (List.nodup_append.mp this).1) (by simp)
      obtain ⟨ca, cvals, c1, c2, c3⟩ := hP3.cget lk
      walk_at "w"
      refine w_kFld j1 S.cls S.columns_ j2.c ?_
      walk_at "w"
      refine w_kG k3 c1 ?_
      walk_at "w"
      refine ⟨_, ca, dm, cvals, t.2, meetMap td, rfl, c2, c3, by omega, g4.ok g1, hme3, good_targets g4.toPreCols, good_rule g4, fun H4 e4 => ?_⟩
      walk_at "w"
      have hm4 := e4 _ _ hme3
      have lm : (meetMap td).length = td.length := by have := congrArg List.length (meetMap_keys td); simpa using this
      refine ⟨dm, _, rfl, DPut.k (k := Sum.inr t.1) hm4 (Nat.lt_of_le_of_lt (m := 6) (by rw [List.length_map]; omega) (by decide)), ?_⟩
      rw [putK_new (meets_none (by rw [meetMap_keys]; exact g3))]
      have P4 := hP3.ext e4
      have ek : ((meetMap td).map fun e => ((Sum.inr e.1 : Key), V.bl e.2)) ++ [(Sum.inr t.1, V.bl (meetOf (meetMap td) t.2))] = (meetMap (td ++ [(t.1, t.2)])).map fun e => ((Sum.inr e.1 : Key), V.bl e.2) := by
        rw [meetMap_snoc, List.map_append]
        rfl
      rw [ek]
      have adr : ∀ r ∈ t.2.foldl (rsAdd t.1) rs ++ [(t.1, D, [])], H r.2.1 = none ∧ r.2.1 ≠ dm ∧ r.2.2.length ≤ 6 * (td ++ [(t.1, t.2)]).length := fun r hr => by
        rw [List.length_append,
                List.length_singleton]
        rcases List.mem_append.1 hr with hr | hr
        · have a1 : r.2.1 ∈ rs.map fun r => r.2.1 := by
            rw [← foldl_adr t.1 t.2 rs]
            exact List.mem_map.mpr ⟨r, hr, rfl⟩
          obtain ⟨r0, h0, e0⟩ := List.mem_map.mp a1
          have a2 := foldl_lens t.1 t.2 rs (6 * td.length) (fun r hr => (hrs r hr).2.2) r hr
          rw [← e0]
          exact ⟨(hrs r0 h0).1, (hrs r0 h0).2.1, by omega⟩
        · rw [List.mem_singleton.1 hr]
          exact ⟨hD0, Ddm, Nat.zero_le _⟩
      have dm4 : dm ∉ Rows.own dc dl (t.2.foldl (rsAdd t.1) rs ++ [(t.1, D, [])]) := fun ha => by
        rcases List.mem_cons.1 ha with z | ha
        · exact cdm z.symm
        · rcases List.mem_cons.1 ha with z | ha
          · exact ldm z.symm
          · obtain ⟨r0, hr0, z⟩ := List.mem_map.mp ha
            exact (adr r0 hr0).2.1 z
      exact ⟨_, _, _, td ++ [(t.1, t.2)], tr', cvs ++ [(.inr t.1, .ref T)], _, rfl, by rw [et]; simp, hr1, P4.other hm4 dm4, by rw [mirOf_snoc]; unfold Rows.mir; rw [List.map_append]; show (t.2.foldl (rsAdd t.1) rs).mir ++ _ = _; rw [foldl_mir, hmi]; rfl, upd_same, (hOO3.trans (.of e4)).mut hdm0, by rw [upd_ne (ne_of (e4 _ _ hp3') hm4 (by intro z; cases z))]; exact e4 _ _ hp3', adr⟩
    · obtain ⟨x4, x5', x6, td, tr, cvs, rs, rfl, et, hr0, hP, hmi, hme, hO, hpf, hrs⟩ := h
      cases hr0
      rw [List.append_nil] at et
      subst et
      obtain ⟨_, k1, k2, _, _, _, _, _, _⟩ := id hP
      walk_at "w"
      refine w_ownIn hpf ?_
      refine ⟨p, _, .str u, dc, dl, cvs, rs, ts, rfl, hP, .str u, ?_⟩
      rw [show strD (fun n => decide (n ∈ ts.map (·.1))) (.str u) = true from decide_eq_true hu]
      refine ⟨true, rfl, ?_⟩
      refine ⟨false, rfl, iteF ?_⟩
      walk_at "w"
      refine w_kSfld hpf S.cls S.user_ (by omega) ?_
      have ln6 : (putF "user" (.str u) fs).length ≤ 3 := Nat.le_trans (length_putF _ _ _) (Nat.succ_le_succ ln5)
      have f6 : FsOk (putF "user" (.str u) fs) dc dl := f5.put (by decide +kernel)
      have u6 : (putF "user" (.str u) fs).lookup ("user" : Str) = some (.str u) := by rw [lookup_putF, if_pos rfl]
      have P6 : Part C (L2.upd H' p (.ins C dx (putF "user" (.str u) fs))) p dc dl cvs rs ts := hP.setF hpf f6
      have O6 : ExO [p] H (L2.upd H' p (.ins C dx (putF "user" (.str u) fs))) := hO.put List.mem_cons_self
      have p6 : (L2.upd H' p (.ins C dx (putF "user" (.str u) fs))) p = some (.ins C dx (putF "user" (.str u) fs)) := upd_same
      generalize (L2.upd H' p (.ins C dx (putF "user" (.str u) fs))) = H6 at P6 O6 p6 ⊢
      generalize (putF "user" (.str u) fs) = fs6 at ln6 f6 u6 p6 ⊢
      walk_at "w"
      refine w_kFld p6 S.cls S.columns_ f6.c ?_
      walk_at "w"
      refine ⟨dc, cvs, rfl, .inl P6.hdc, fun tt htt => ?_⟩
      rw [tup_keys P6.cols]
      have e7 : Ex H6 (L2.upd H6 tt (.tup (ts.map fun t => V.str t.1))) := Ex.new htt
      have t7 : (L2.upd H6 tt (.tup (ts.map fun t => V.str t.1))) tt = some (.tup (ts.map fun t => V.str t.1)) := upd_same
      generalize (L2.upd H6 tt (.tup (ts.map fun t => V.str t.1))) = H7 at e7 t7 ⊢
      walk_at "w"
      have p7 := e7 _ _ p6
      refine w_kSfld p7 S.cls S.tables_ (by omega) ?_
      have ln8 : (putF "tables" (.ref tt) fs6).length ≤ 4 := Nat.le_trans (length_putF _ _ _) (Nat.succ_le_succ ln6)
      have f8 : FsOk (putF "tables" (.ref tt) fs6) dc dl := f6.put (by decide +kernel)
      have u8 : (putF "tables" (.ref tt) fs6).lookup ("user" : Str) = some (.str u) := by rw [lookup_putF, if_neg (by decide +kernel)]; exact u6
      have t8 : (putF "tables" (.ref tt) fs6).lookup ("tables" : Str) = some (.ref tt) := by rw [lookup_putF, if_pos rfl]
      have P8 : Part C (L2.upd H7 p (.ins C dx (putF "tables" (.ref tt) fs6))) p dc dl cvs rs ts := (P6.ext e7).setF p7 f8
      have O8 : ExO [p] H (L2.upd H7 p (.ins C dx (putF "tables" (.ref tt) fs6))) := (O6.trans (.of e7)).put List.mem_cons_self
      have p8 : (L2.upd H7 p (.ins C dx (putF "tables" (.ref tt) fs6))) p = some (.ins C dx (putF "tables" (.ref tt) fs6)) := upd_same
      have tt8 : (L2.upd H7 p (.ins C dx (putF "tables" (.ref tt) fs6))) tt = some (.tup (ts.map fun t => V.str t.1)) := by rw [upd_ne (ne_of t7 p7 (by intro z; cases z))]; exact t7
      generalize (L2.upd H7 p (.ins C dx (putF "tables" (.ref tt) fs6))) = H8 at P8 O8 p8 tt8 ⊢
      generalize (putF "tables" (.ref tt) fs6) = fs8 at ln8 f8 u8 t8 p8 ⊢
      walk_at "w"
      refine w_kFld p8 S.cls S.columns_ f8.c ?_
      walk_at "w"
      refine ⟨u, dc, cvs, ts, rfl, P8.hdc, P8.cols, ?_, by omega, g.nodup, good_sz g, fun ll H9 e9 hll => ?_⟩
      · obtain ⟨t, h1, h2⟩ := List.mem_map.mp hu
        rw [← h2]
        exact Nat.le_trans (g.names t h1).short (by decide)
      · walk_at "w"
        have p9 := e9 _ _ p8
        refine w_kSfld p9 S.cls S.lines_ (by omega) ?_
        have f10 : FsOk (putF "_lines" (.ref ll) fs8) dc dl := f8.put (by decide +kernel)
        refine k _ ((O8.trans (.of e9)).put List.mem_cons_self) ⟨dc, dl, cvs, rs, dx, _, tt, ll, (P8.ext e9).setF p9 f10, hmi, upd_same, f10, ?_, ?_, ?_, ?_, ?_⟩
        · rw [lookup_putF, if_neg (by decide +kernel)]; exact u8
        · rw [lookup_putF, if_neg (by decide +kernel)]; exact t8
        · rw [upd_ne (ne_of (e9 _ _ tt8) p9 (by intro z; cases z))]; exact e9 _ _ tt8
        · rw [lookup_putF, if_pos rfl]
        · rw [upd_ne (ne_of hll p9 (by intro z; cases z))]; exact hll
end
end LP
namespace LP
open PySem L2
open Evl (Ex)
section
variable {base : Heap} {mg : Str → Option Value} {K : PySem.W.Frag} {w : World} {P : Program} {C CN fI : Addr} {fdI : FuncData}
theorem ok_noname {f : Addr} {fd : FuncData} (T : OexL K CN) (n : NoAttr K CN "name") (F : C8.Fun K "__init__" "NoName.__init__" s_NoName___init__ f fd) (b : Binds K fd ["self", "name"] []) :
    FnOk P w K mg base C8.CX0 1 f fd ["self", "name"] (spExI CN "name") := by
  have sc : FnScope ["self", "name"] ["self", "name"] (C8.fnScope s_NoName___init__) := C8.fnScope_by (by decide +kernel)
  refine C8.fn0 F sc (fun vs H Q E h => ?_) (fun cdv A outer s H vs Q E hr h => ?_)
  · obtain ⟨_, _, rfl, _⟩ := h
    rfl
  · obtain ⟨a, v, rfl, ha, k⟩ := h
    refine ⟨_, (pss_one (ps_ostL (K := K) rfl (pv 0) (pv 1) rfl)), ?_⟩
    walk_at "w"
    exact ⟨a, CN, rfl, T, n, ha, k⟩
/-- what a def wishes that may refuse a name -/
def NoN (CN : Addr) (v : V) (H : Hp) (E : XK) : Prop := ∀ (dd : Addr) (H' : Hp), Ex H H' → H' dd = some (.xd [("name", v)]) → E (.ref CN) (some dd) H'
def spColumns (K : PySem.W.Frag) (C CN : Addr) : Sp := fun vs H Q E => ∃ (p : Addr) (v : V) (d : PyData) (u : Str) (ts : Tabs), vs = [.ref p, v] ∧ SchAt C H p u ts ∧ Dp K H v d ∧
  ((∃ n cs, d = .str n ∧ ts.lookup n = some cs ∧ ∀ a xs, H a = some (.tup xs) → ColsV H xs cs → Q (.ref a) H) ∨ (strD (fun n => decide (n ∈ ts.map (·.1))) d = false ∧ NoN CN v H E))
theorem raised {H : Hp} {CN : Addr} {v : V} {E : XK} (k : NoN CN v H E) (a : Addr) (ha : H a = none) : spExI CN "name" [.ref a, v] (upd H a (exo a CN none))
    (fun x H2 => x = .non ∧ ∃ (d : Addr) (fs : List (Str × V)), H2 a = some (exo a CN (some d)) ∧ H2 d = some (exd d fs) ∧ H d = none ∧ E (.ref CN) (some d) (upd (L2.del H2 a) d (.xd fs))) (fun _ _ _ => False) := by
  refine ⟨a, v, rfl, upd_same, fun dx hdx ne => ⟨rfl, dx, _, upd_same, by rw [upd_ne ne]; exact upd_same, ?_, ?_⟩⟩
  · rw [upd_ne ne] at hdx
    exact hdx
  · rw [upd_ne ne] at hdx
    refine k dx _ (fun b o hb => ?_) upd_same
    have b1 : b ≠ dx := ne_of_none hb hdx
    have b2 : b ≠ a := ne_of_none hb ha
    rw [upd_ne b1, L2.del_ne b2, upd_ne b2, upd_ne b1, upd_ne b2]
    exact hb
theorem ok_columns {f : Addr} {fd : FuncData} (S : SchC K C) (F : C8.Fun K "columns" "Schema.columns" s_Schema_columns f fd) (B : Blt mg) (NX : ExC P w K mg base "NoName" CN fI fdI ["self", "name"] 1 (spExI CN "name"))
    (c___contains__ : C8.Met P w K mg base 1 C "__contains__" (spContains K C) []) : FnOk P w K mg base (L2.CX P w) 3 f fd ["self", "table"] (spColumns K C CN) := by
  have sc : FnScope ["self", "table"] ["self", "table"] (C8.fnScope s_Schema_columns) := C8.fnScope_by (by decide +kernel)
  refine fnX F sc (fun vs H Q E h => ?_) (fun cdv A outer s H vs Q E hr h => ?_)
  · obtain ⟨_, _, _, _, _, rfl, _⟩ := h
    rfl
  · obtain ⟨p, v, d, u, ts, rfl, hS, hd, k⟩ := h
    obtain ⟨dc, dl, cvs, rs, dx, fs, tt, ll, hP, hm, hp, hf, _⟩ := hS.ex
    refine ⟨_, (pss_cons (ps_if (pt_cmpR (op_onin (dvs := []) c___contains__ hr (by decide)) (pv 1) (pv 0) (by rfl))
        (pss_one (ps_raiseL rfl (takes_of rfl rfl rfl rfl) (pmk_L NX.T NX.iC NX.tI NX.F (hr.mono (by decide)) NX.b (by rfl) NX.mgC (pa_cons (pv 1) pa_nil))))
        pss_nil)
        (pss_one (ps_ret (pe_dget (hu_of hr) (pe_fldK (K := K) rfl (pv 0) rfl) (pv 1) (fun _ _ => rfl))))), ?_⟩
    walk_at "w"
    refine w_ownIn hp ?_
    refine ⟨p, v, d, dc, dl, cvs, rs, ts, rfl, hP, hd, ?_⟩
    rcases k with ⟨n, cs, rfl, hl, k⟩ | ⟨hno, k⟩
    · rw [show strD (fun n => decide (n ∈ ts.map (·.1))) (.str n) = true from decide_eq_true (List.mem_map.mpr ⟨_, PySem.mem_of_lookup hl, rfl⟩)]
      cases hd
      refine ⟨true, rfl, false, rfl, iteF ?_⟩
      walk_at "w"
      refine w_kFld hp S.cls S.columns_ hf.c ?_
      walk_at "w"
      obtain ⟨ca, cvals, g1, g2, g3⟩ := hP.cget hl
      refine w_kG hP.hdc g1 ?_
      exact k ca cvals g2 g3
    · rw [hno]
      refine ⟨false, rfl, true, rfl, iteT ?_⟩
      walk_at "w"
      exact ⟨by simp, fun a ha => raised k a ha⟩
def spLists (K : PySem.W.Frag) (C CN : Addr) : Sp := fun vs H Q E => ∃ (p : Addr) (v : V) (d : PyData) (u : Str) (ts : Tabs), vs = [.ref p, v] ∧ SchAt C H p u ts ∧ Dp K H v d ∧
  ((∃ n ls, d = .str n ∧ n ∈ ts.map (·.1) ∧ (mirOf ts).lookup n = some ls ∧ ∀ D H', H D = none → Ex H H' → ListRow H' D ls → Q (.ref D) H') ∨ (strD (fun n => decide (n ∈ ts.map (·.1))) d = false ∧ NoN CN v H E))
theorem ok_lists {f : Addr} {fd : FuncData} (S : SchC K C) (F : C8.Fun K "lists" "Schema.lists" s_Schema_lists f fd) (B : Blt mg) (NX : ExC P w K mg base "NoName" CN fI fdI ["self", "name"] 1 (spExI CN "name"))
    (c___contains__ : C8.Met P w K mg base 1 C "__contains__" (spContains K C) []) : FnOk P w K mg base (L2.CX P w) 3 f fd ["self", "table"] (spLists K C CN) := by
  have sc : FnScope ["self", "table"] ["self", "table"] (C8.fnScope s_Schema_lists) := C8.fnScope_by (by decide +kernel)
  refine fnX F sc (fun vs H Q E h => ?_) (fun cdv A outer s H vs Q E hr h => ?_)
  · obtain ⟨_, _, _, _, _, rfl, _⟩ := h
    rfl
  · obtain ⟨p, v, d, u, ts, rfl, hS, hd, k⟩ := h
    obtain ⟨dc, dl, cvs, rs, dx, fs, tt, ll, hP, hm, hp, hf, _⟩ := hS.ex
    refine ⟨_, (pss_cons (ps_if (pt_cmpR (op_onin (dvs := []) c___contains__ hr (by decide)) (pv 1) (pv 0) (by rfl))
        (pss_one (ps_raiseL rfl (takes_of rfl rfl rfl rfl) (pmk_L NX.T NX.iC NX.tI NX.F (hr.mono (by decide)) NX.b (by rfl) NX.mgC (pa_cons (pv 1) pa_nil))))
        pss_nil)
        (pss_one (ps_ret (pe_callTy call_dictD' (by rfl) B.dict_ (by decide +kernel) (pa_cons (pe_dget (hu_of hr) (pe_fldK (K := K) rfl (pv 0) rfl) (pv 1) (fun _ _ => rfl)) pa_nil))))), ?_⟩
    walk_at "w"
    refine w_ownIn hp ?_
    refine ⟨p, v, d, dc, dl, cvs, rs, ts, rfl, hP, hd, ?_⟩
    rcases k with ⟨n, ls, rfl, hn, hl, k⟩ | ⟨hno, k⟩
    · rw [show strD (fun n => decide (n ∈ ts.map (·.1))) (.str n) = true from decide_eq_true hn]
      cases hd
      refine ⟨true, rfl, false, rfl, iteF ?_⟩
      walk_at "w"
      refine w_kFld hp S.cls S.lists_ hf.l ?_
      walk_at "w"
      obtain ⟨la, l1, l2⟩ := rows_get (rs := rs) (by rw [hm]; exact hl)
      refine w_kG hP.hdl l1 ?_
      obtain ⟨kvs, m1, m2⟩ := hP.lst _ l2
      walk_at "w"
      have m1 : H la = some (.dK kvs) := m1
      have fin : ∀ D, H D = none → Q (.ref D) (L2.upd H D (.dK kvs)) := fun D hD => k D _ hD (Ex.new hD) ⟨kvs, upd_same, paired_imp (fun _ _ => ListEnt.ext (Ex.new hD)) m2⟩
      exact ⟨la, kvs, rfl, .inl m1, fin⟩
    · rw [hno]
      refine ⟨false, rfl, true, rfl, iteT ?_⟩
      walk_at "w"
      exact ⟨by simp, fun a ha => raised k a ha⟩
end
end LP
namespace LP
open PySem L2
open Evl (Ex)
open LamX (GivesTo CodeO)
/-- what the law's own names of classes hold -/
structure LawC (K : PySem.W.Frag) (mg : Str → Option Value) (CN NR LE : Addr) : Prop where
  mgN : mg "NoName" = some (.ref CN)
  NoRow_ : ∃ u, mg "NoRow" = some u ∧ RelV (.ref NR) u
  ListandpageError_ : ∃ u, mg "ListandpageError" = some u ∧ RelV (.ref LE) u
  lk_ : mg "LookupError" = none
  ex : ExcK K CN
  xf : XfC K CN
  nn : PySem.W.findIn K (.ref CN) "name" = some none
  k1 : PySem.W.kitAny K (.ref CN) [.ref NR, .ref LE] = some false
  k2 : PySem.W.kitOne K (.ref CN) (.type "LookupError") = some true
  m1 : PySem.W.exmOne K (.ref CN) (.ref CN) = some true
/-- what _law_error makes of what it calls -/
def TTerr (CN : Addr) : (XK → Hp → VK → Prop) → Hp → VK → Prop := fun tl H Q =>
  tl (fun cls d H' => cls = .ref CN ∧ ∃ (dd : Addr) (v : V), d = some dd ∧ H' dd = some (.xd [("name", v)]) ∧ ∀ T H'', Ex H' H'' → H'' T = some (.tup [.str "name", v]) → Q (.ref T) H'') H fun _ H' => Q .non H'
end LP
namespace LP
open PySem L2
open Evl (Ex)
open LamX (GivesTo CodeO TabS Tabs ExtN TabB LamS lamEnv lamCx tLam)
/-- a def, its code object at c -/
structure FunC (K : PySem.W.Frag) (x qual : Str) (st : Stmt) (f : Addr) (fd : FuncData) (c : Addr) : Prop where
  ex : ∃ (oc : Value) (od : Option Addr) (dV kV doc pm : Value) (an : Option Addr) (ct : Value) (osl : Array (Option Value)),
    fd = PySem.W.fnOf x qual (C8.fnArgs st) (C8.fnBody st) (C8.fnScope st) dV kV doc pm an (.ref c) ct ∧ K.lookup f = some ⟨oc, od, .func fd, osl⟩ ∧ PySem.W.codeIn K (.ref c) qual = true
theorem fnC {P : Program} {w : World} {K : PySem.W.Frag} {mg : Str → Option Value} {base : Heap} {x qual : Str} {st : Stmt} {f c : Addr} {fd : FuncData} {N ps : List Str} {k : Nat} {sp : Sp} (F : FunC K x qual st f fd c) (S : FnScope N ps (C8.fnScope st)) (len : ∀ vs H Q E, sp vs H Q E → vs.length = ps.length)
    (hb : ∀ (A : Around) (outer : List Env) (s : Shared) (H : Hp) (vs : List V) (Q : VK) (E : XK), Room k (A.deeper (PyProof.Rows.envOfC qual (C8.fnScope st) s.heap.objs.size f (.ref c))) → sp vs H Q E →
      ∃ t, PSs (cxOf C8.CX0 P w K mg base N qual (C8.fnScope st) f (.ref c) A outer s H E).nox (C8.fnBody st) t ∧ t { nx := fun _ H' => Q .non H', rt := Q } (L2.start N vs) H) : FnOk P w K mg base C8.CX0 (k + 1) f fd ps sp := by
  obtain ⟨oc, od, dV, kV, doc, pm, an, ct, osl, rfl, lk, hcd⟩ := F.ex
  refine fn_of lk hcd S len fun A outer s H vs Q E hr hsp => ?_; obtain ⟨t, h, q⟩ := hb A outer s H vs Q E hr hsp
  exact ⟨t, h.nox, q⟩
/-- a method that may raise -/
structure MetX (P : Program) (w : World) (K : PySem.W.Frag) (mg : Str → Option Value) (base : Heap) (k : Nat) (C : Addr) (m : Str) (sp : Sp) : Prop where
  ex : ∃ (f : Addr) (fd : FuncData) (ps : List Str), Cls K C ∧ Meth K C m f ∧ FnOk P w K mg base (L2.CX P w) k f fd ps sp ∧ Binds K fd ps []
theorem passF {X : Cx} : Passes (L2.CX X.prog X.w) X (fun _ _ _ => False) := fun _ _ _ _ _ _ _ h => by
  obtain ⟨_,
          _, _, _, _, _, _, _, _, _, _, _, z⟩ := h
  exact z.elim
theorem pe_mx {X : Cx} {k j : Nat} {C : Addr} {m : Str} {sp : Sp} {E : XK} {o e : Expr} {es : List Expr} {pos apos : Pos} {ta : TE} {t : TA} {pl : Sem Bool} (c : MetX X.prog X.w X.K X.mg X.base k C m sp) (hr : Room j X.A) (hk : k ≤ j) (hx : Passes (L2.CX X.prog X.w) X E) (he : PE X o ta) (ha : PA X (e :: es) t)
    (hst : starEach
            (e :: es) X.env = (false, eval e X.env) :: starEach es X.env := by rfl) (hpl : (backTo pos (starEach es X.env)).any (·.1) = false := by rfl)
    (ht : eval (.Call (.Attribute o m apos) (e :: es) [] pos) X.env = (do let ov ← eval o X.env; standAt apos.atName; let (f, first) ← holding [ov] (getMethod ov m pl); callWith pos f first (backTo pos (starEach (e :: es) X.env)) (backToKw pos (keywordEach [] X.env))) := by rfl) :
    PE X (.Call (.Attribute o m apos) (e :: es) [] pos) (tMeth C m sp [] E ta t) := by
  obtain ⟨f, fd, ps, hc, hm, F, b⟩ := c.ex
  exact pe_meth (pl := pl) he hc hm F (hr.mono hk) b .nil hx ha hst hpl ht
/-- the heap without the tables of code objects -/
def noT (H : Hp) : Hp := fun a => match H a with
  | some (.tbl _) => none
  | o => o
theorem noT_ex {H : Hp} : Ex (noT H) H := fun a o h => by
  unfold noT at h
  split at h
  · cases h
  · exact h
theorem noT_some {H : Hp} {a : Addr} {o : HO} (h : noT H a = some o) : ∀ ps, o ≠ .tbl ps := fun ps z => by
  subst z
  have e := noT_ex a _ h
  unfold noT at h
  rw [e] at h
  cases h
theorem noT_of {H : Hp} {a : Addr} {o : HO} (h : H a = some o) (n : ∀ ps, o ≠ .tbl ps) : noT H a = some o := by
  unfold noT
  split
  · rename_i ps e
    rw [e] at h
    cases h
    exact absurd rfl (n ps)
  · exact h
theorem noT_ext {H H' : Hp} (e : ExtN H H') : Ex (noT H) (noT H') := fun a o h => noT_of (e a o (noT_ex a o h) (noT_some h)) (noT_some h)
theorem noT_mono {H H' : Hp} (e : Ex H H') : Ex (noT H) (noT H') := noT_ext (LamX.ExtN.of e)
end LP
namespace LP
open PySem L2
open Evl (Ex)
/-- what isinstance asks of the class -/
structure IsC (K : PySem.W.Frag) (C : Addr) : Prop where
  ca : PySem.W.findIn K
          (.ref C) "__class__" = some (some (.builtin "object.__class__"))
  cg : PySem.W.specialIn K (.builtin "object.__class__") "__get__" = some (some (.builtin "getset_descriptor.__get__"))
  ct : PySem.W.takesIn K
          (.builtin "object.__class__") = some true
  cm : PySem.W.mroIn K C
          (.type "object") = some true
  no : ∀ t ∈ ["NoneType", "int", "str", "list"], PySem.W.kitOne K (.type t) (.ref C) = some false
def spLen (C : Addr) : Sp := fun vs H Q _ => ∃ (p : Addr) (u : Str) (ts : Tabs), vs = [.ref p] ∧ SchAt C H p u ts ∧ Q (.int ts.length) H
/-- what stands beside a schema -/
inductive Odd (K : PySem.W.Frag) (H : Hp) : V → Prop where
  | non : Odd K H .non
  | int (i : Int) : Odd K H (.int i)
  | str (x : Str) : Odd K H (.str x)
  | lst {a : Addr} {xs : List V} (h : SqL K H a xs) : Odd K H (.ref a)
def spEqS (K : PySem.W.Frag) (C : Addr) : Sp := fun vs H Q _ => ∃ (p : Addr) (v : V) (u : Str) (ts : Tabs), vs = [.ref p, v] ∧ SchAt C H p u ts ∧ GoodTabs ts ∧ SOk u ∧
  ((∃ q u' ts', v = .ref q ∧ SchAt C H q u' ts' ∧ GoodTabs ts' ∧ SOk u' ∧ Q (.bl (decide (linesOf u ts = linesOf u' ts'))) H) ∨ (Odd K H v ∧ Q (.bl false) H))
def spStrS (C : Addr) : Sp := fun vs H Q _ => ∃ (p : Addr) (u : Str) (ts : Tabs), vs = [.ref p] ∧ SchAt C H p u ts ∧ GoodTabs ts ∧ ts.length ≤ 6 ∧ u.length ≤ 1000 ∧ ∀ z, Q (.str z) H
instance (x : Str) : Decidable (SOk x) := inferInstanceAs (Decidable (PyData.strOk x = true))
theorem sok_cat {x y : Str} (a : SOk x) (b : SOk y) : SOk (x ++ y) := by
  unfold SOk PyData.strOk at a b ⊢
  show (x.cps ++ y.cps).all _ = true
  rw [Array.all_append, a, b]
  rfl
theorem Col.sok_line {c : Col} (h : c.Ok) : SOk (colLine c) := by
  have e0 : SOk Str.empty := by decide +kernel
  have e1 : SOk (sz " ") := by decide +kernel
  have e2 : SOk (sz "?") := by decide +kernel
  have e3 : SOk (sz "") := by decide +kernel
  have e4 : SOk (sz " to ") := by decide +kernel
  have e5 : SOk (sz " as ") := by decide +kernel
  have ek : SOk c.kind := by
    cases c with
    | plain f n => cases f <;> exact (show SOk (_ : Str) by first | exact (by decide +kernel : SOk ("flag" : Str)) | exact (by decide +kernel : SOk ("number" : Str)))
    | word n o => exact (by decide +kernel : SOk ("word" : Str))
    | link n t o l => exact (by decide +kernel : SOk ("link" : Str))
  have en : SOk c.name := by
    cases c with
    | plain f n => exact h
    | word n o => exact h
    | link n t o l => exact h.1
  have em : ∀ b : Bool, SOk (if b = true then sz "?" else sz "") := fun b => by cases b <;> assumption
  have ea := sok_cat (sok_cat (sok_cat (sok_cat e0 ek) e1) en) (em c.opt)
  unfold colLine
  cases c with
  | plain f n => exact ea
  | word n o => exact ea
  | link n t o l =>
    have eb := sok_cat (sok_cat (sok_cat e0 ea) e4) h.2.1
    cases l with
    | none => exact eb
    | some x => exact sok_cat (sok_cat (sok_cat e0 eb) e5) (h.2.2 x rfl)
theorem lines_sok {u : Str} {ts : Tabs} (hu : SOk u) (g : GoodTabs ts) : ∀ x ∈ linesOf u ts, SOk x := by
  intro x hx
  unfold linesOf at hx
  rcases List.mem_cons.1 hx with rfl | hx
  · exact sok_cat (by decide +kernel) hu
  · obtain ⟨t, ht, hx⟩ := List.mem_flatMap.mp hx
    unfold tabLines at hx
    rcases List.mem_cons.1 hx with rfl | hx
    · exact sok_cat (by decide +kernel) (g.names t ht).ok
    · obtain ⟨c, hc, rfl⟩ := List.mem_map.mp hx
      exact Col.sok_line (g.oks t ht c hc)
theorem mark_le (b : Bool) : (if b = true then sz "?" else sz "").length ≤ 1 := by cases b <;> decide
theorem Col.line_len {c : Col} (h : c.Sz) : (colLine c).length ≤ 3100 := by
  have e0 : Str.empty.length = 0 := rfl
  have e1 : (sz " ").length = 1 := by decide
  have e4 : (sz " to ").length = 4 := by decide
  have e5 : (sz " as ").length = 4 := by decide
  have k := Col.kind_len c
  have m := mark_le c.opt
  have n := h.n
  have t := h.t
  unfold colLine
  cases c with
  | plain f x =>
    simp only [Col.isLink, Col.lst, len_cat, e0, e1, Bool.false_eq_true, if_false]
    omega
  | word x o =>
    simp only [Col.isLink, Col.lst, len_cat, e0, e1, Bool.false_eq_true, if_false]
    omega
  | link x y o l =>
    cases l with
    | none =>
      simp only [Col.isLink, Col.lst, len_cat, e0, e1, e4, if_true]
      omega
    | some z =>
      have z1 := h.l z rfl
      simp only [Col.isLink, Col.lst, len_cat, e0, e1, e4, e5, if_true]
      omega
theorem sum_le {α : Type} {f : α → Nat} {m : Nat} : ∀ {l : List α}, (∀ x ∈ l, f x ≤ m) → (l.map f).sum ≤ m * l.length
  | [], _ => Nat.zero_le _
  | x :: r, h => by
    have a := h x List.mem_cons_self
    have b := sum_le (l := r) fun y hy => h y (List.mem_cons_of_mem _ hy)
    rw [List.map_cons, List.sum_cons, List.length_cons, Nat.mul_succ]
    omega
theorem lines_size {u : Str} {ts : Tabs} (hu : u.length ≤ 1000) (g : GoodTabs ts) (l6 : ts.length ≤ 6) : ((linesOf u ts).map (·.length)).sum + (linesOf u ts).length * 1 ≤ 16777216 := by
  have sz6 := good_sz g
  have a : ∀ x ∈ linesOf u ts, x.length ≤ 3100 := fun x hx => by
    unfold linesOf at hx
    rcases List.mem_cons.1 hx with rfl | hx
    · simp only [len_cat, show Str.empty.length = 0 from rfl, show (sz "user ").length = 5 by decide]
      omega
    · obtain ⟨t, ht, hx⟩ := List.mem_flatMap.mp hx
      unfold tabLines at hx
      rcases List.mem_cons.1 hx with rfl | hx
      · have := (sz6 t ht).n
        simp only [len_cat, show Str.empty.length = 0 from rfl, show (sz "table ").length = 6 by decide]
        omega
      · obtain ⟨c, hc, rfl⟩ := List.mem_map.mp hx
        exact Col.line_len ((sz6 t ht).c c hc)
  have b := lines_len sz6
  have c : ((linesOf u ts).map fun x => x.length).sum ≤ 3100 * (linesOf u ts).length := sum_le a
  have c' : ((linesOf u ts).map Str.length).sum = ((linesOf u ts).map fun x => x.length).sum := rfl
  have d : (linesOf u ts).length = (ts.flatMap tabLines).length + 1 := by unfold linesOf; rw [List.length_cons]
  omega
theorem dp_strs {K : PySem.W.Frag} {H : Hp} : ∀ xs : List Str, DpAll K H (xs.map V.str) (xs.map PyData.str)
  | [] => .nil
  | x :: r => .cons (.str x) (dp_strs r)
theorem eqv_strs : ∀ xs ys : List Str, PyData.eqv (.list (xs.map PyData.str)) (.list (ys.map PyData.str)) = decide (xs = ys)
  | xs, ys => by
    have key : ∀ xs ys : List Str, PyData.eqvAll (xs.map PyData.str) (ys.map PyData.str) = decide (xs = ys) := fun xs => by
      induction xs with
      | nil => intro ys; cases ys <;> simp [PyData.eqvAll]
      | cons x r ih => intro ys; cases ys <;> simp [PyData.eqvAll, PyData.eqv, ih, bdec]
    simp only [PyData.eqv]
    exact key xs ys
theorem shaped_strs {xs : List Str} (h : ∀ x ∈ xs, SOk x) : SeqAt.shaped (.list (xs.map PyData.str)) = true := by
  have key : ∀ xs : List Str, (∀ x ∈ xs, SOk x) → PyData.canLayAll0 (xs.map PyData.str) = true ∧ PyData.depthAll (xs.map PyData.str) ≤ 1 := fun xs => by
    induction xs with
    | nil => exact fun _ => ⟨rfl, by show 0 ≤ 1; omega⟩
    | cons x r ih =>
      intro h
      obtain ⟨a, b⟩ := ih fun y hy => h y (List.mem_cons_of_mem _ hy)
      have c : PyData.strOk x = true := h x List.mem_cons_self
      rw [List.map_cons]
      refine ⟨by simp only [PyData.canLayAll0, PyData.canLay0, c, a, Bool.and_self], ?_⟩
      simp only [PyData.depthAll, PyData.depth]
      omega
  obtain ⟨a, b⟩ := key xs h
  unfold SeqAt.shaped
  rw [Bool.and_eq_true, decide_eq_true_eq]
  exact ⟨by simp only [PyData.canLay0]; exact a, by simp only [PyData.depth]; omega⟩
section
variable {base : Heap} {mg : Str → Option Value} {K : PySem.W.Frag} {w : World} {P : Program} {ra C : Addr}
theorem ok_len {f : Addr} {fd : FuncData} (S : SchC K C) (F : C8.Fun K "__len__" "Schema.__len__" s_Schema___len__ f fd) (B : Blt mg) : FnOk P w K mg base C8.CX0 1 f fd ["self"] (spLen C) := by
  have sc : FnScope ["self"] ["self"] (C8.fnScope s_Schema___len__) := C8.fnScope_by (by decide +kernel)
  refine C8.fn0 F sc (fun vs H Q E h => ?_) (fun cdv A outer s H vs Q E hr h => ?_)
  · obtain ⟨_, _, _, rfl, _⟩ := h
    rfl
  · obtain ⟨p, u, ts, rfl, hS, k⟩ := h
    obtain ⟨dc, dl, cvs, rs, dx, fs, tt, ll, hP, hm, hp, hf, hu, ht, htt, hl, hll⟩ := hS.ex
    refine ⟨_, (pss_one (ps_ret (pe_callB (call_len_seqK (K := K) rfl) (by rfl) B.len_ (by decide +kernel) (pa_cons (pe_fldK (K := K) rfl (pv 0) rfl) pa_nil)))), ?_⟩
    walk_at "w"
    refine w_kFld hp S.cls S.tables_ ht ?_
    walk_at "w"
    rw [List.length_map]
    exact k
theorem ok_eq {f : Addr} {fd : FuncData} (S : SchC K C) (I : IsC K C) (F : C8.Fun K "__eq__" "Schema.__eq__" s_Schema___eq__ f fd) (B : Blt mg) (T : Cns K mg ra C) : FnOk P w K mg base C8.CX0 2 f fd ["self", "other"] (spEqS K C) := by
  have sc : FnScope ["self", "other"] ["self", "other"] (C8.fnScope s_Schema___eq__) := C8.fnScope_by (by decide +kernel)
  refine C8.fn0 F sc (fun vs H Q E h => ?_) (fun cdv A outer s H vs Q E hr h => ?_)
  · obtain ⟨_, _, _, _, rfl, _⟩ := h
    rfl
  · obtain ⟨p, v, u, ts, rfl, hS, hG, su, k⟩ := h
    obtain ⟨dc, dl, cvs, rs, dx, fs, tt, ll, hP, hm, hp, hf, hu, ht, htt, hl, hll⟩ := hS.ex
    refine ⟨_, (pss_one (ps_ret (pe_and (pe_callB (call_isiK1 (K := K) rfl) (by rfl) B.isinstance_ (by decide +kernel) (pa_cons (pv 1) (pa_cons (C8.pe_gc rfl T.Schema_) pa_nil))) (pe_one (pe_cmpR (op_eqDK (K := K) rfl (hu64 hr)) (pe_fldK (K := K) rfl (pv 0) rfl) (pe_fldK (K := K) rfl (pv 1) rfl) (nomark _)))))), ?_⟩
    walk_at "w"
    rcases k with ⟨q, u', ts', rfl, hS', hG', su', k⟩ | ⟨od, k⟩
    · obtain ⟨dc', dl', cvs', rs', dx', fs', tt', ll', hP', hm', hp', hf', hu', ht', htt', hl', hll'⟩ := hS'.ex
      refine ⟨.ref q, .ref C, .ref C, .ref C, true, rfl, .own C, .base (.ins hp' S.cls I.ca I.cg I.ct I.cm), ?_, ⟨true, rfl, iteT ?_⟩⟩
      · exact if_pos (beq_self_eq_true _)
      walk_at "w"
      refine w_kFld hp S.cls S.lines_ hl ?_
      walk_at "w"
      refine w_kFld hp' S.cls S.lines_ hl' ?_
      refine ⟨_, _, .lst (SqL.of hll) (dp_strs _), .lst (SqL.of hll') (dp_strs _), shaped_strs (lines_sok su hG), shaped_strs (lines_sok su' hG'), ?_⟩
      rw [eqv_strs]
      exact k
    · have no : ∀ t ∈ ["NoneType", "int", "str", "list"], TyX K H v (.type t) → rIsi K [v, .ref C] H fun x H1 => ∃ c, x = V.bl c ∧ if c = true then tOp (rEqD K) (tFld K (tVar 0) (Str.ofString "_lines")) (tFld K (tVar 1) (Str.ofString "_lines")) (L2.start [Str.ofString "self", Str.ofString "other"] [V.ref p, v]) H1 Q else Q (.bl false) H1 := fun t ht ty =>
        ⟨v, .ref C, .type t, .ref C, false, rfl, .own C, ty, I.no t ht, ⟨false, rfl, iteF k⟩⟩
      cases od with
      | non => exact no "NoneType" (by decide) (.base .non)
      | int i => exact no "int" (by decide) (.base (.int i))
      | str x => exact no "str" (by decide) (.base (.str x))
      | lst hx =>
        refine no "list" (by decide) ?_
        rcases hx with (hx | ⟨o, hx⟩) | ⟨o, its, n, hx, hc, hr⟩
        · exact .base (.lst hx)
        · exact .base (.frz hx)
        · exact .kList hx hc
theorem ok_str {f : Addr} {fd : FuncData} (S : SchC K C) (F : C8.Fun K "__str__" "Schema.__str__" s_Schema___str__ f fd) (B : Blt mg) : FnOk P w K mg base C8.CX0 1 f fd ["self"] (spStrS C) := by
  have sc : FnScope ["self"] ["self"] (C8.fnScope s_Schema___str__) := C8.fnScope_by (by decide +kernel)
  refine C8.fn0 F sc (fun vs H Q E h => ?_) (fun cdv A outer s H vs Q E hr h => ?_)
  · obtain ⟨_, _, _, rfl, _⟩ := h
    rfl
  · obtain ⟨p, u, ts, rfl, hS, hG, l6, lu, k⟩ := h
    obtain ⟨dc, dl, cvs, rs, dx, fs, tt, ll, hP, hm, hp, hf, hu, ht, htt, hl, hll⟩ := hS.ex
    refine ⟨_, (pss_one (ps_ret (pe_joinK (K := K) rfl pe_str (pe_fldK (K := K) rfl (pv 0) rfl)))), ?_⟩
    walk_at "w"
    refine w_kFld hp S.cls S.lines_ hl ?_
    refine w_join (SqL.of hll) (by rw [show (Str.ofString "\n").length = 1 by decide]; exact lines_size lu hG l6) ?_
    exact k _
end
end LP
namespace LP
open PySem L2
open Evl (Ex)
theorem filterMap_some' {acc : List V} {ts : Tabs} (h : Paired (fun v x => v = V.str x) acc (ts.filterMap fun t => some t.1)) : acc = (ts.map (·.1)).map V.str := by
  have e : (ts.filterMap fun t => some t.1) = ts.map (·.1) := congrFun (List.filterMap_eq_map (f := fun t : Str × List Col => t.1)) ts
  rw [e] at h
  have key : ∀ {a : List V} {l : List Str}, Paired (fun v x => v = V.str x) a l → a = l.map V.str := fun {a l} h => by
    induction h with
    | nil => rfl
    | cons h _ ih => rw [h, ih]; rfl
  exact key h
theorem shaped_colT {cs : List Col} (h : ∀ c ∈ cs, c.Ok) : SeqAt.shaped (.tuple (cs.map Col.data)) = true := by
  have z := shapedL_cols h
  unfold SeqAt.shaped at z ⊢
  simp only [PyData.canLay0, PyData.depth] at z ⊢
  exact z
theorem shaped_strT {xs : List Str} (h : ∀ x ∈ xs, SOk x) : SeqAt.shaped (.tuple (xs.map PyData.str)) = true := by
  have z := shaped_strs h
  unfold SeqAt.shaped at z ⊢
  simp only [PyData.canLay0, PyData.depth] at z ⊢
  exact z
theorem eqv_strT (xs : List Str) : PyData.eqv (.tuple (xs.map PyData.str)) (.tuple (xs.map PyData.str)) = true := by
  have z := eqv_strs xs xs
  rw [decide_eq_true rfl] at z
  simp only [PyData.eqv] at z ⊢
  exact z
theorem look_mem {ts : Tabs} {t : Str × List Col} (nd : (ts.map (·.1)).Nodup) (h : t ∈ ts) : ts.lookup t.1 = some t.2 := by
  induction ts with
  | nil => cases h
  | cons x r ih =>
    rw [List.map_cons,
            List.nodup_cons] at nd
    rw [List.lookup_cons]
    rcases List.mem_cons.1 h with rfl | h
    · rw [show (t.1 == t.1) = true from beq_self_eq_true _]
    · rw [show (t.1 == x.1) = false from beq_eq_false_iff_ne.mpr fun z => nd.1 (by rw [← z]; exact List.mem_map.mpr ⟨t, h, rfl⟩)]
      exact ih nd.2 h
theorem sh_str {x : Str} (h : SOk x) : SeqAt.shaped (.str x) = true := by
  unfold SeqAt.shaped
  rw [Bool.and_eq_true]
  have h : PyData.strOk x = true := h
  exact ⟨by simp only [PyData.canLay0]; exact h, by simp [PyData.depth]⟩
theorem sh_one {x : Str} (h : SOk x) : SeqAt.shaped (.list [.str x]) = true ∧ SeqAt.shaped (.tuple [.str x]) = true := by
  have h : PyData.strOk x = true := h
  unfold SeqAt.shaped
  simp [PyData.canLay0, PyData.canLayAll0, PyData.depth, PyData.depthAll, h]
theorem eqv_cols (cs : List Col) : PyData.eqv (.tuple (cs.map Col.data)) (.tuple (cs.map Col.data)) = true := by
  have h : PyData.eqvAll (cs.map Col.data) (cs.map Col.data) = true := by
    induction cs with
    | nil => simp [PyData.eqvAll]
    | cons c r ih =>
      rw [List.map_cons]
      simp only [PyData.eqvAll, Bool.and_eq_true]
      exact ⟨by rw [Col.eqv]; exact decide_eq_true rfl, ih⟩
  simp only [PyData.eqv]
  exact h
theorem SchAt.ins {C : Addr} {H : Hp} {p : Addr} {u : Str} {ts : Tabs} (h : SchAt C H p u ts) : ∃ dx fs, H p = some (.ins C dx fs) := by
  obtain ⟨_, _, _, _, dx, fs, _, _, _, _, hp, _⟩ := h.ex
  exact ⟨dx, fs, hp⟩
section
variable {K : PySem.W.Frag} {C : Addr} {H : Hp} {p q : Addr} {u u' : Str} {ts ts' : Tabs} {Q : VK}
theorem sch_eq (h1 : SchAt C H p u ts) (g1 : GoodTabs ts) (s1 : SOk u) (h2 : SchAt C H q u' ts') (g2 : GoodTabs ts') (s2 : SOk u') (k : Q (.bl (decide (linesOf u ts = linesOf u' ts'))) H) : rOwnEq C false (spEqS K C) C8.E0 K (.ref p) (.ref q) H Q := by
  obtain ⟨dx, fs, hp⟩ := h1.ins
  obtain ⟨dx', fs', hq⟩ := h2.ins
  exact ⟨p, dx, fs, .ref C, rfl, hp, .inl ⟨q, dx', fs', rfl, hq, rfl⟩, p, .ref q, u, ts, rfl, h1, g1, s1, .inl ⟨q, u', ts', rfl, h2, g2, s2, _, rfl, k⟩⟩
theorem sch_ne (h1 : SchAt C H p u ts) (g1 : GoodTabs ts) (s1 : SOk u) (h2 : SchAt C H q u' ts') (g2 : GoodTabs ts') (s2 : SOk u') (k : Q (.bl (!decide (linesOf u ts = linesOf u' ts'))) H) : rOwnEq C true (spEqS K C) C8.E0 K (.ref p) (.ref q) H Q := by
  obtain ⟨dx, fs, hp⟩ := h1.ins
  obtain ⟨dx', fs', hq⟩ := h2.ins
  exact ⟨p, dx, fs, .ref C, rfl, hp, .inl ⟨q, dx', fs', rfl, hq, rfl⟩, p, .ref q, u, ts, rfl, h1, g1, s1, .inl ⟨q, u', ts', rfl, h2, g2, s2, _, rfl, k⟩⟩
theorem sch_odd {v : V} (h1 : SchAt C H p u ts) (g1 : GoodTabs ts) (s1 : SOk u) (o : Odd K H v) (k : Q (.bl false) H) : rOwnEq C false (spEqS K C) C8.E0 K (.ref p) v H Q := by
  obtain ⟨dx, fs, hp⟩ := h1.ins
  have fin : ∀ tb, TyAt K C H v tb → rOwnEq C false (spEqS K C) C8.E0 K (.ref p) v H Q := fun tb t => ⟨p, dx, fs, tb, rfl, hp, t, p, v, u, ts, rfl, h1, g1, s1, .inr ⟨o, _, rfl, k⟩⟩
  cases o with
  | non => exact fin _ (.inr (.inl ⟨rfl, rfl⟩))
  | int i => exact fin _ (.inr (.inr (.inl ⟨i, rfl, rfl⟩)))
  | str x => exact fin _ (.inr (.inr (.inr (.inl ⟨x, rfl, rfl⟩))))
  | lst h => exact fin _ (.inr (.inr (.inr (.inr ⟨_, _, rfl, h, rfl⟩))))
end
end LP
namespace LP
open PySem L2
section
variable {X : Cx} {k j : Nat} {C : Addr} {sp : Sp}
theorem call_lenM (c : C8.Met X.prog X.w X.K X.mg X.base k C "__len__" sp []) (hr : Room j X.A) (hk : k + 1 ≤ j) : CallR X (.builtin "len") (rOwnLen C sp C8.E0) := by
  obtain ⟨f, fd, ps, ds, _, hm, F, b, d⟩ := c.ex
  cases d
  exact call_own_len hm F (hr.mono hk) b C8.pass0
theorem call_strM (c : C8.Met X.prog X.w X.K X.mg X.base k C "__str__" sp []) (hr : Room j X.A) (hk : k + 2 ≤ j) : CallR X (.type "str") (rOwnStr C sp C8.E0) := by
  obtain ⟨f, fd, ps, ds, _, hm, F, b, d⟩ := c.ex
  cases d
  exact call_own_str hm F (hr.mono hk) b C8.pass0
theorem op_eqM {K : PySem.W.Frag} (hK : X.K = K) (c : C8.Met X.prog X.w X.K X.mg X.base k C "__eq__" sp []) (hr : Room j X.A) (hk : k ≤ j) : OpR X (compareOp .Eq) (rOwnEq C false sp C8.E0 K) := by
  subst hK
  obtain ⟨f, fd, ps, ds, _, hm, F, b, d⟩ := c.ex
  cases d
  exact op_own_eq hm F (hr.mono hk) b C8.pass0
theorem op_neM {K : PySem.W.Frag} (hK : X.K = K) (nn : NoNe K C) (c : C8.Met X.prog X.w X.K X.mg X.base k C "__eq__" sp []) (hr : Room j X.A) (hk : k + 2 ≤ j) : OpR X (compareOp .NotEq) (rOwnEq C true sp C8.E0 K) := by
  subst hK
  obtain ⟨f, fd, ps, ds, _, hm, F, b, d⟩ := c.ex
  cases d
  exact op_own_ne nn hm F (hr.mono hk) b C8.pass0
end
end LP
namespace LP
open PySem L2
open Evl (Ex)
open LamX (ExtN)
/-! ### what stays but for the bag and the tables of code -/
def Good (o : HO) : Prop := (∀ ps, o ≠ .tbl ps) ∧ ∀ i j k : Int, o ≠ .lst [.int i, .int j, .int k]
def St (H H' : Hp) : Prop := ∀ a o, H a = some o → Good o → H' a = some o
theorem good_tup {xs : List V} : Good (.tup xs) := ⟨(fun _ z => by cases z), (fun _ _ _ z => by cases z)⟩
theorem good_dK {xs : List (Key × V)} : Good (.dK xs) := ⟨(fun _ z => by cases z), (fun _ _ _ z => by cases z)⟩
theorem good_ins {C dx : Addr} {fs : List (Str × V)} : Good (.ins C dx fs) := ⟨(fun _ z => by cases z), (fun _ _ _ z => by cases z)⟩
theorem good_lst {xs : List V} (h : ∀ i j k : Int, xs ≠ [.int i, .int j, .int k]) : Good (.lst xs) := ⟨(fun _ z => by cases z), fun i j k z => h i j k (by injection z)⟩
theorem good_strs {xs : List Str} : Good (.lst (xs.map V.str)) := good_lst fun i j k z => by
  cases xs with
  | nil => cases z
  | cons x r =>
    rw [List.map_cons] at z
    injection z with z1 _
    cases z1
theorem St.trans {H H1 H2 : Hp} (a : St H H1) (b : St H1 H2) : St H H2 := fun c o h g => b c o (a c o h g) g
theorem St.of {H H' : Hp} (e : Ex H H') : St H H' := fun c o h _ => e c o h
theorem St.n {H H' : Hp} (e : ExtN H H') : St H H' := fun c o h g => e c o h g.1
theorem St.nt {H : Hp} : St H (noT H) := fun c o h g => noT_of h g.1
theorem St.dl {H : Hp} {b : Addr} {n : Nat} (hB : BagAt H b n) : St H (del b H) := fun c o h g => by
  obtain ⟨d, m, t, hb, _⟩ := hB.ex
  rw [del_ne (ne_of h hb (g.2 d m t))]
  exact h
theorem St.d {H H' : Hp} {b : Addr} {n : Nat} (hB : BagAt H b n) (e : Ex (del b H) H') : St H H' := (St.dl hB).trans (.of e)
theorem ColsV.st {H H' : Hp} {vs : List V} {cs : List Col} (s : St H H') (h : ColsV H vs cs) : ColsV H' vs cs := paired_imp (fun _ _ ⟨a, e, ha⟩ => ⟨a, e, s _ _ ha good_tup⟩) h
theorem TabsV.st {H H' : Hp} {vs : List V} {ts : Tabs} (s : St H H') (h : TabsV H vs ts) : TabsV H' vs ts :=
  paired_imp (fun _ _ ⟨a, p, e, ha, ws, hp, hc⟩ => ⟨a, p, e, s _ _ ha good_tup, ws, s _ _ hp (good_lst hc.refs), hc.st s⟩) h
theorem TabsAt.st {H H' : Hp} {q : Addr} {ts : Tabs} (s : St H H') (h : TabsAt H q ts) : TabsAt H' q ts := by
  obtain ⟨vs, hq, hv⟩ := h
  exact ⟨vs, s _ _ hq (good_lst hv.refs), hv.st s⟩
theorem Part.st {C : Addr} {H H' : Hp} {p dc dl : Addr} {cvs : List (Key × V)} {rs : Rows} {ts : Tabs} (s : St H H') (h : Part C H p dc dl cvs rs ts) : Part C H' p dc dl cvs rs ts := by
  obtain ⟨⟨dx, fs, h1, h2⟩, h3, h4, h5, h6, h7, h8, h9, h10⟩ := h
  refine ⟨⟨dx, fs, s _ _ h1 good_ins, h2⟩, s _ _ h3 good_dK, paired_imp (fun _ _ ⟨g1, a, vs, g2, g3, g4⟩ => ⟨g1, a, vs, g2, s _ _ g3 good_tup, g4.st s⟩) h4, s _ _ h5 good_dK, fun r hr => ?_, h7, h8, h9, h10⟩
  obtain ⟨kvs, g1, g2⟩ := h6 r hr
  exact ⟨kvs, s _ _ g1 good_dK, paired_imp (fun _ _ ⟨f1, b, f2, f3⟩ => ⟨f1, b, f2, s _ _ f3 good_tup⟩) g2⟩
theorem SchAt.st {C : Addr} {H H' : Hp} {p : Addr} {u : Str} {ts : Tabs} (s : St H H') (h : SchAt C H p u ts) : SchAt C H' p u ts := by
  obtain ⟨dc, dl, cvs, rs, dx, fs, tt, ll, h1, h2, h3, h4, h5, h6, h7, h8, h9⟩ := h.ex
  exact ⟨dc, dl, cvs, rs, dx, fs, tt, ll, h1.st s, h2, s _ _ h3 good_ins, h4, h5, h6, s _ _ h7 good_tup, h8, s _ _ h9 good_strs⟩
theorem sqL_noT {K : PySem.W.Frag} {H : Hp} {a : Addr} {xs : List V} (h : SqL K H a xs) : SqL K (noT H) a xs := by
  rcases h with (h | ⟨u, h⟩) | h
  · exact .inl (.inl (noT_of h fun _ z => by cases z))
  · exact .inl (.inr ⟨u, noT_of h fun _ z => by cases z⟩)
  · exact .inr h
theorem sqT_noT {K : PySem.W.Frag} {H : Hp} {a : Addr} {xs : List V} (h : SqT K H a xs) : SqT K (noT H) a xs := by
  rcases h with (h | ⟨u, h⟩) | h
  · exact .inl (.inl (noT_of h fun _ z => by cases z))
  · exact .inl (.inr ⟨u, noT_of h fun _ z => by cases z⟩)
  · exact .inr h
mutual
theorem dp_noT {K : PySem.W.Frag} {H : Hp} : ∀ {v : V} {d : PyData}, Dp K H v d → Dp K (noT H) v d
  | _, _, .non => .non
  | _, _, .bl b => .bl b
  | _, _, .int i => .int i
  | _, _, .str x => .str x
  | _, _, .lst h r => .lst (sqL_noT h) (dpAll_noT r)
  | _, _, .tup h r => .tup (sqT_noT h) (dpAll_noT r)
theorem dpAll_noT {K : PySem.W.Frag} {H : Hp} : ∀ {vs : List V} {ds : List PyData}, DpAll K H vs ds → DpAll K (noT H) vs ds
  | _, _, .nil => .nil
  | _, _, .cons h r => .cons (dp_noT h) (dpAll_noT r)
end
/-- what is data for good: no bag, no table of code -/
def dat (b : Addr) (H : Hp) : Hp := noT (del b H)
theorem dat_ex {b : Addr} {H : Hp} : Ex (dat b H) H := noT_ex.trans ex_del
theorem dat_no {b : Addr} {H : Hp} : Ex (dat b H) (noT H) := noT_mono ex_del
theorem dat_some {b a : Addr} {H : Hp} {o : HO} (h : dat b H a = some o) : a ≠ b ∧ H a = some o ∧ ∀ ps, o ≠ .tbl ps := ⟨(del_some (noT_ex _ _ h)).1, (del_some (noT_ex _ _ h)).2, noT_some h⟩
theorem dat_of {b a : Addr} {H : Hp} {o : HO} (n : a ≠ b) (h : H a = some o) (m : ∀ ps, o ≠ .tbl ps) : dat b H a = some o := noT_of (by rw [del_ne n]; exact h) m
theorem dat_d {b : Addr} {H H' : Hp} (e : Ex (del b H) H') : Ex (dat b H) (dat b H') := fun a o h => by
  obtain ⟨n, _, m⟩ := dat_some h
  exact dat_of n (e a o (noT_ex _ _ h)) m
theorem dat_n {b : Addr} {H H' : Hp} (e : ExtN H H') : Ex (dat b H) (dat b H') := fun a o h => by
  obtain ⟨n, q, m⟩ := dat_some h
  exact dat_of n (e a o q m) m
theorem extN_d {b : Addr} {H0 Hm H H' : Hp} (a0 : ExtN H0 Hm) (hb : Hm b = none) (a : ExtN H0 H) (e : Ex (del b H) H') : ExtN H0 H' := fun c o h n => e c o (by rw [del_ne (ne_of_none (a0 c o h n) hb)]; exact a c o h n)
theorem tabs_d {T : List (Addr × Str)} {b : Addr} {n : Nat} {H H' : Hp} (hB : BagAt H b n) (h : LamX.Tabs T H) (e : Ex (del b H) H') : LamX.Tabs T H' := fun p hp => by
  obtain ⟨ps, h1, h2, h3⟩ := h p hp
  obtain ⟨d, m, t, hb, _⟩ := hB.ex
  have ne : ∀ {a : Addr} {o : HO}, H a = some o → o ≠ .lst [.int d, .int m, .int t] → H' a = some o := fun {a o} q z => e a o (by rw [del_ne (ne_of q hb z)]; exact q)
  refine ⟨ps, ne h1 (by intro z; cases z), h2, fun pos cv hc => ?_⟩
  obtain ⟨c,
          e1, e2⟩ := h3 pos cv hc
  exact ⟨c, e1, ne e2 (by intro z; cases z)⟩
theorem BagAt.extN {b : Addr} {n : Nat} {H H' : Hp} (hB : BagAt H b n) (e : ExtN H H') : BagAt H' b n := by
  obtain ⟨d, m, t, hb, r⟩ := hB.ex
  exact ⟨d, m, t, e _ _ hb (by intro ps z; cases z), r⟩
theorem w_make {σ : L2.St} {H : Hp} {Q : VK} {C : Addr} {sp : Sp} {dvs : List V} {E : XK} {t : TA} (h : t σ H fun vs H1 => ∀ x dx, H1 x = none → H1 dx = none → dx ≠ x → sp (.ref x :: (vs ++ dvs)) (upd (upd H1 dx (.own x)) x (.ins C dx [])) (fun v H2 => v = .non ∧ Q (.ref x) H2) E) : tMake C sp dvs E t σ H Q := h
theorem w_sinst {σ : L2.St} {H : Hp} {Q : VK} {C : Addr} {m : Str} {sp : Sp} {E : XK} {ta : TE} {t : TA} (h : ta σ H fun x H1 => ∃ a dx fs, x = .ref a ∧ H1 a = some (.ins C dx fs) ∧ fs.lookup m = none ∧ t σ H1 fun vs H2 => sp vs H2 Q E) : tSInst C m sp E ta t σ H Q := h
end LP
namespace LP
open PySem L2
open Evl (Ex)
/-! ### the lists of a table -/
def lstEnt (t n : Str) (c : Col) : Option (Str × Str × Str) := match c.lst with
  | none => none
  | some l => if c.target = n then some (l, t, c.name) else none
def listsOf (ts : Tabs) (n : Str) : Lists := ts.flatMap fun t => t.2.filterMap (lstEnt t.1 n)
theorem look_map {f : Str → Lists → Lists} {n : Str} : ∀ m : List (Str × Lists), (m.map fun r => (r.1, f r.1 r.2)).lookup n = (m.lookup n).map (f n)
  | [] => rfl
  | r :: m => by
    rw [List.map_cons, List.lookup_cons, List.lookup_cons]
    by_cases e : n = r.1
    · subst e
      rw [show (r.1 == r.1) = true from beq_self_eq_true _]
      rfl
    · rw [show (n == r.1) = false from beq_eq_false_iff_ne.mpr e]
      exact look_map m
theorem addCol_look (t n : Str) (m : List (Str × Lists)) (c : Col) : (addCol t m c).lookup n = (m.lookup n).map fun ls => ls ++ (lstEnt t n c).toList := by
  unfold addCol lstEnt
  cases c.lst with
  | none =>
    show m.lookup n = (m.lookup n).map fun ls => ls ++ []
    cases m.lookup n <;> simp
  | some l =>
    have e : (m.map fun r => if r.1 = c.target then (r.1, r.2 ++ [(l, t, c.name)]) else r) = m.map fun r => (r.1, (fun x ls => if x = c.target then ls ++ [(l, t, c.name)] else ls) r.1 r.2) :=
      List.map_congr_left fun r _ => by
        by_cases h : r.1 = c.target
        · rw [if_pos h]; simp only [h, if_true]
        · rw [if_neg h]; simp only [h, if_false]
    show (m.map fun r => if r.1 = c.target then (r.1, r.2 ++ [(l, t, c.name)]) else r).lookup n = _
    rw [e]
    refine (look_map (f := fun x ls => if x = c.target then ls ++ [(l, t, c.name)] else ls) m).trans ?_
    congr 1
    funext ls
    show (if n = c.target then ls ++ [(l, t, c.name)] else ls) = ls ++ (if c.target = n then some (l, t, c.name) else none).toList
    by_cases h : n = c.target
    · rw [if_pos h, if_pos h.symm]; rfl
    · rw [if_neg h, if_neg (Ne.symm h)]; exact (List.append_nil _).symm
theorem addCols_look (t n : Str) : ∀ (cs : List Col) (m : List (Str × Lists)), (cs.foldl (addCol t) m).lookup n = (m.lookup n).map fun ls => ls ++ cs.filterMap (lstEnt t n)
  | [], m => by
    rw [List.foldl_nil]
    cases m.lookup n <;> simp
  | c :: r, m => by
    rw [List.foldl_cons, addCols_look t n r, addCol_look]
    cases m.lookup n with
    | none => rfl
    | some ls =>
      show some _ = some _
      rw [List.filterMap_cons]
      cases lstEnt t n c <;> simp
theorem look_none {m : List (Str × Lists)} {n : Str} (h : n ∉ m.map (·.1)) : m.lookup n = none := by
  induction m with
  | nil => rfl
  | cons r m ih =>
    rw [List.map_cons, List.mem_cons, not_or] at h
    rw [List.lookup_cons, show (n == r.1) = false from beq_eq_false_iff_ne.mpr h.1]
    exact ih h.2
theorem look_app {m k : List (Str × Lists)} {n : Str} : (m ++ k).lookup n = (m.lookup n).or (k.lookup n) := by
  induction m with
  | nil => rfl
  | cons r m ih =>
    rw [List.cons_append, List.lookup_cons, List.lookup_cons]
    cases (n == r.1) with
    | true => rfl
    | false => exact ih
theorem listsOf_app (ts : Tabs) (t : Str × List Col) (n : Str) : listsOf (ts ++ [t]) n = listsOf ts n ++ t.2.filterMap (lstEnt t.1 n) := by
  unfold listsOf
  rw [List.flatMap_append, List.flatMap_cons, List.flatMap_nil, List.append_nil]
theorem ent_none {t n : Str} {ns : List Str} {cs : List Col} (h : ∀ c ∈ cs, c.isLink = true → c.target ∈ ns) (hn : n ∉ ns) : cs.filterMap (lstEnt t n) = [] := by
  rw [List.filterMap_eq_nil_iff]
  intro c hc
  unfold lstEnt
  cases e : c.lst with
  | none => rfl
  | some l =>
    have := h c hc (lst_link e)
    exact if_neg fun z => hn (by rw [← z]; exact this)
theorem listsOf_new {ts : Tabs} {n : Str} (g : GoodTabs ts) (hn : n ∉ ts.map (·.1)) : listsOf ts n = [] := by
  induction g with
  | nil => rfl
  | @snoc ts m cs g hm hx hc ih =>
    rw [List.map_append, List.mem_append, not_or] at hn
    rw [listsOf_app, ih hn.1, ent_none hc.tg hn.1]
    rfl
theorem mirOf_look {ts : Tabs} {n : Str} (g : GoodTabs ts) (hn : n ∈ ts.map (·.1)) : (mirOf ts).lookup n = some (listsOf ts n) := by
  induction g with
  | nil => cases hn
  | @snoc ts m cs g hm hx hc ih =>
    rw [mirOf_snoc, look_app, addCols_look, listsOf_app]
    by_cases e : n ∈ ts.map (·.1)
    · rw [ih e]
      rfl
    · have en : n = m := by
        rw [List.map_append, List.mem_append] at hn
        exact List.mem_singleton.1 (hn.resolve_left e)
      subst en
      rw [look_none (by rw [mirOf_key g]; exact hx), listsOf_new g hx, ent_none hc.tg hx]
      show Option.or none (List.lookup n [(n, [])]) = some []
      rw [List.lookup_cons, show (n == n) = true from beq_self_eq_true _]
      rfl
/-! ### a table in another spelling -/
def key (cs : List Col) : List (Str × Option Str) := (cs.filter Col.isLink).map fun c => (c.target, c.lst)
theorem key_listed (cs : List Col) : isListed cs = (key cs).any fun k => k.2.isSome := by
  unfold isListed key
  induction cs with
  | nil => rfl
  | cons c r ih =>
    rw [List.any_cons, ih]
    cases c <;> simp [Col.isLink, Col.lst]
theorem key_meet (m : List (Str × Bool)) (cs : List Col) : meetOf m cs = (isListed cs || (key cs).any fun k => m.lookup k.1 == some true) := by
  unfold meetOf
  congr 1
  unfold key
  induction cs with
  | nil => rfl
  | cons c r ih =>
    rw [List.any_cons, ih]
    cases c <;> simp [Col.isLink, Col.target]
theorem key_links (cs : List Col) (tg : Str) : linkLists cs tg = ((key cs).filter fun k => decide (k.1 = tg)).map (·.2) := by
  unfold linkLists key
  induction cs with
  | nil => rfl
  | cons c r ih =>
    cases c with
    | plain f n => exact ih
    | word n o => exact ih
    | link n t o l =>
      by_cases h : t = tg
      · simp only [List.filter_cons, Col.isLink, Col.target, h, decide_true, Bool.and_self, if_true, List.map_cons, Col.lst] at ih ⊢
        rw [ih]
      · simp only [List.filter_cons, Col.isLink, Col.target, h, decide_false, Bool.and_false, Bool.false_eq_true, if_false, if_true, List.map_cons, Col.lst] at ih ⊢
        exact ih
theorem meet_same {cs cs' : List Col} (h : key cs' = key cs) (m : List (Str × Bool)) : meetOf m cs' = meetOf m cs := by rw [key_meet, key_meet, key_listed, key_listed, h]
theorem meetMap_app (ts tr : Tabs) : meetMap (ts ++ tr) = tr.foldl (fun m t => m ++ [(t.1, meetOf m t.2)]) (meetMap ts) := by
  unfold meetMap
  rw [List.foldl_append]
theorem meetMap_same {td tr : Tabs} {t t' : Str × List Col} (hn : t'.1 = t.1) (hk : key t'.2 = key t.2) : meetMap (td ++ t' :: tr) = meetMap (td ++ t :: tr) := by
  rw [meetMap_app, meetMap_app, List.foldl_cons, List.foldl_cons, meet_same hk, hn]
theorem names_same {td tr : Tabs} {t t' : Str × List Col} (hn : t'.1 = t.1) : (td ++ t' :: tr).map (·.1) = (td ++ t :: tr).map (·.1) := by
  rw [List.map_append, List.map_append, List.map_cons, List.map_cons, hn]
theorem good_other {td : Tabs} {t t' : Str × List Col} (hn : t'.1 = t.1) (hk : key t'.2 = key t.2) (hc : GoodCols td t'.2) :
    ∀ (n : Nat) (tr : Tabs), tr.length = n → GoodTabs (td ++ t :: tr) → (∀ z ∈ tr, ∀ c ∈ z.2, ∀ l, c.lst = some l → some l ∉ takenStep c.target t') → GoodTabs (td ++ t' :: tr) := by
  intro n
  induction n with
  | zero =>
    intro tr hl g _
    rw [List.length_eq_zero_iff] at hl
    subst hl
    obtain ⟨g1, g2, g3, _⟩ := g.split td t [] rfl
    have := GoodTabs.snoc g1 (n := t'.1) (cs := t'.2) (by rw [hn]; exact g2) (by rw [hn]; exact g3) hc
    exact this
  | succ n ih =>
    intro tr hl g ho
    rcases List.eq_nil_or_concat tr with rfl | ⟨pre, z, rfl⟩
    · cases hl
    · have e : ∀ x : Str × List Col, td ++ x :: (pre ++ [z]) = (td ++ x :: pre) ++ [z] := fun x => by simp
      rw [List.concat_eq_append, e] at g
      rw [List.concat_eq_append, e]
      rw [List.concat_eq_append] at ho hl
      obtain ⟨g1, g2, g3, g4⟩ := g.split (td ++ t :: pre) z [] rfl
      have g5 := ih pre (by rw [List.length_append] at hl; exact Nat.succ.inj hl) g1 fun y hy => ho y (List.mem_append_left _ hy)
      refine GoodTabs.snoc g5 g2 (by rw [names_same hn]; exact g3) ⟨⟨g4.nm, g4.nd, fun c h1 h2 => by rw [names_same hn]; exact g4.tg c h1 h2, g4.ls, g4.fr, fun c h1 l h2 y hy => ?_⟩, g4.few, fun c h1 h2 h3 h4 => ?_⟩
      · rcases List.mem_append.1 hy with hy | hy
        · exact g4.old c h1 l h2 y (List.mem_append_left _ hy)
        · rcases List.mem_cons.1 hy with rfl | hy
          · exact ho z (List.mem_append_right _ (List.mem_singleton.2 rfl)) c h1 l h2
          · exact g4.old c h1 l h2 y (List.mem_append_right _ (List.mem_cons_of_mem _ hy))
      · refine g4.r6 c h1 h2 ?_ h4
        unfold meets at h3 ⊢
        rw [meetMap_same hn hk] at h3
        exact h3
/-! ### one place changed -/
def Col.turn : Col → Col
  | .plain f n => .plain (!f) n
  | .word n o => .word n (!o)
  | .link n t o l => .link n t (!o) l
theorem turn_stays (c : Col) : c.turn.name = c.name ∧ c.turn.target = c.target ∧ c.turn.isLink = c.isLink ∧ c.turn.lst = c.lst := by cases c <;> exact ⟨rfl, rfl, rfl, rfl⟩
theorem listed_map {f : Col → Col} (hf : ∀ c, (f c).lst = c.lst) (cs : List Col) : listedOf (cs.map f) = (listedOf cs).map f := by
  unfold listedOf
  rw [List.filter_map]
  congr 1
  exact List.filter_congr fun c _ => by simp only [Function.comp, hf]
theorem key_map {f : Col → Col} (hf : ∀ c, (f c).target = c.target ∧ (f c).isLink = c.isLink ∧ (f c).lst = c.lst) (cs : List Col) : key (cs.map f) = key cs := by
  unfold key
  rw [List.filter_map, List.map_map]
  have e : (cs.filter (Col.isLink ∘ f)) = cs.filter Col.isLink := List.filter_congr fun c _ => by simp only [Function.comp, (hf c).2.1]
  rw [e]
  exact List.map_congr_left fun c _ => by simp only [Function.comp, (hf c).1, (hf c).2.2]
theorem good_map {f : Col → Col} {ts : Tabs} {cs : List Col} (hf : ∀ c, (f c).name = c.name ∧ (f c).target = c.target ∧ (f c).isLink = c.isLink ∧ (f c).lst = c.lst) (g : GoodCols ts cs) : GoodCols ts (cs.map f) := by
  have pre : PreCols ts (cs.filterMap fun c => some (f c)) := g.toPreCols.filterMap fun c c' e => by
    cases e
    obtain ⟨a, b, c, d⟩ := hf c
    exact ⟨a, b, c, .inl d⟩
  have e : (cs.filterMap fun c => some (f c)) = cs.map f := by
    have := List.filterMap_eq_map (f := f)
    exact congrFun this cs
  rw [e] at pre
  refine ⟨pre, by rw [List.length_map]; exact g.few, fun y hy h2 h3 h4 => ?_⟩
  obtain ⟨c, hc, rfl⟩ := List.mem_map.mp hy
  rw [listed_map fun c => (hf c).2.2.2] at h4 ⊢
  rw [(hf c).2.2.1] at h2
  rw [(hf c).2.1] at h3
  rw [g.r6 c hc h2 h3 fun z => h4 (by rw [z]; rfl)]
  rfl
def turnAt (n : Str) (c : Col) : Col := if c.name = n then c.turn else c
theorem turnAt_stays (n : Str) (c : Col) : (turnAt n c).name = c.name ∧ (turnAt n c).target = c.target ∧ (turnAt n c).isLink = c.isLink ∧ (turnAt n c).lst = c.lst := by
  unfold turnAt
  split
  · exact turn_stays c
  · exact ⟨rfl, rfl, rfl, rfl⟩
theorem turnAt_at {d r : List Col} {c : Col} (nd : ((d ++ c :: r).map Col.name).Nodup) : (d ++ c :: r).map (turnAt c.name) = d ++ c.turn :: r := by
  rw [List.map_append, List.map_cons, List.nodup_append, List.nodup_cons] at nd
  have hd : d.map (turnAt c.name) = d := (List.map_congr_left fun x hx => if_neg fun z => nd.2.2 _ (List.mem_map.mpr ⟨x, hx, rfl⟩) _ List.mem_cons_self z).trans (List.map_id d)
  have hr : r.map (turnAt c.name) = r := (List.map_congr_left fun x hx => if_neg fun z => nd.2.1.1 (List.mem_map.mpr ⟨x, hx, z⟩)).trans (List.map_id r)
  rw [List.map_append, List.map_cons, hd, hr]
  congr 2
  exact if_pos rfl
inductive Road (ts td : Tabs) (t : Str × List Col) (tr : Tabs) : Str × List Col → Prop where
  | add {x : Str} (hx : IsName x) (hn : x ∉ t.2.map Col.name) (hl : t.2.length < 6) : Road ts td t tr (t.1, t.2 ++ [.plain true x])
  | turn {d r : List Col} {c : Col} (e : t.2 = d ++ c :: r) : Road ts td t tr (t.1, d ++ c.turn :: r)
  | name {m : Str} (e : tr = []) (hm : IsName m) (hn : m ∉ ts.map (·.1)) : Road ts td t tr (m, t.2)
def Changed (ts ts' : Tabs) : Prop := ∃ td t tr t', ts = td ++ t :: tr ∧ ts' = td ++ t' :: tr ∧ Road ts td t tr t'
/-- no column bears the name of a list of its table -/
def FreeL (ts : Tabs) (n : Str) (cs : List Col) : Prop := ∀ c ∈ cs, c.name ∉ (listsOf ts n).map (·.1)
def FreeT (ts ts' : Tabs) : Prop := ∀ (i : Nat) t t', ts[i]? = some t → ts'[i]? = some t' → FreeL ts t.1 t'.2
theorem in_lists {ts : Tabs} {z : Str × List Col} {c : Col} {l : Str} (hz : z ∈ ts) (hc : c ∈ z.2) (e : c.lst = some l) : l ∈ (listsOf ts c.target).map (·.1) := by
  unfold listsOf
  refine List.mem_map.mpr ⟨(l, z.1, c.name), List.mem_flatMap.mpr ⟨z, hz, List.mem_filterMap.mpr ⟨c, hc, ?_⟩⟩, rfl⟩
  unfold lstEnt
  rw [e]
  exact if_pos rfl
theorem taken_eq {tg : Str} {t t' : Str × List Col} (hn : t'.1 = t.1) (hk : key t'.2 = key t.2) (l : Str) (h : some l ∉ takenStep tg t) (ho : t.1 = tg → l ∉ t'.2.map Col.name) : some l ∉ takenStep tg t' := by
  unfold takenStep at h ⊢
  rw [key_links, hk, ← key_links, hn]
  intro z
  rcases List.mem_append.1 z with z | z
  · exact h (List.mem_append_left _ z)
  · by_cases e : t.1 = tg
    · rw [if_pos e] at z
      obtain ⟨c, hc, e2⟩ := List.mem_map.mp z
      exact ho e (List.mem_map.mpr ⟨c, hc, Option.some.inj e2⟩)
    · rw [if_neg e] at z
      cases z
theorem good_add {td : Tabs} {cs : List Col} {x : Str} (g : GoodCols td cs) (hx : IsName x) (hn : x ∉ cs.map Col.name) (hl : cs.length < 6) : GoodCols td (cs ++ [.plain true x]) := by
  have one : ∀ {c : Col}, c ∈ [Col.plain true x] → c = .plain true x := fun h => List.mem_singleton.1 h
  have lo : listedOf (cs ++ [.plain true x]) = listedOf cs := by
    unfold listedOf
    rw [List.filter_append]
    exact List.append_nil _
  refine ⟨⟨fun c hc => ?_, ?_, fun c hc h => ?_, fun c hc l h => ?_, ?_, fun c hc l h => ?_⟩, by rw [List.length_append]; exact hl, fun c hc h1 h2 h3 => ?_⟩
  · rcases List.mem_append.1 hc with hc | hc
    · exact g.nm c hc
    · rw [one hc]; exact hx
  · rw [List.map_append]; rw [List.nodup_append]
    refine ⟨g.nd, by simp, fun a ha b hb => ?_⟩
    rw [List.mem_singleton.1 (show b ∈ [x] from hb)]
    rintro rfl
    exact hn ha
  · rcases List.mem_append.1 hc with hc | hc
    · exact g.tg c hc h
    · rw [one hc] at h; cases h
  · rcases List.mem_append.1 hc with hc | hc
    · exact g.ls c hc l h
    · rw [one hc] at h; cases h
  · rw [List.pairwise_append]
    refine ⟨g.fr, by simp, fun a ha b hb h1 h2 l h3 => ?_⟩
    rw [one hb] at h3
    cases h3
  · rcases List.mem_append.1 hc with hc | hc
    · exact g.old c hc l h
    · rw [one hc] at h; cases h
  · rw [lo] at h3 ⊢
    rcases List.mem_append.1 hc with hc | hc
    · exact g.r6 c hc h1 h2 h3
    · rw [one hc] at h1; cases h1
theorem at_mid (td : Tabs) (t : Str × List Col) (tr : Tabs) : (td ++ t :: tr)[td.length]? = some t := by simp
theorem changed_good {ts ts' : Tabs} (g : GoodTabs ts) (h : Changed ts ts') (hf : FreeT ts ts') : GoodTabs ts' := by
  obtain ⟨td, t, tr, t', rfl, rfl, road⟩ := h
  obtain ⟨g1, g2, g3, g4⟩ := g.split td t tr rfl
  have fr := hf td.length t t' (at_mid ..) (at_mid ..)
  have later : t'.1 = t.1 → key t'.2 = key t.2 → ∀ z ∈ tr, ∀ c ∈ z.2, ∀ l, c.lst = some l → some l ∉ takenStep c.target t' := fun hn hk z hz c hc l hl => by
    obtain ⟨zd, zr, rfl⟩ := List.append_of_mem hz
    obtain ⟨_, _, _, g5⟩ := g.split (td ++ t :: zd) z zr (by simp)
    refine taken_eq hn hk l (g5.old c hc l hl t (by simp)) fun e z2 => ?_
    obtain ⟨x, hx, ex⟩ := List.mem_map.mp z2
    refine fr x hx ?_
    rw [ex, e]
    exact in_lists (z := z) (by simp) hc hl
  cases road with
  | @add x hx hn hl =>
    have hk : key (t.2 ++ [.plain true x]) = key t.2 := by
      unfold key
      rw [List.filter_append]
      exact congrArg _ (List.append_nil _)
    exact good_other (t := t) (t' := (t.1, t.2 ++ [.plain true x])) rfl hk (good_add g4 hx hn hl) _ tr rfl g (later rfl hk)
  | turn e =>
    rename_i d r c
    have nd := g4.nd
    rw [e] at nd
    have em := turnAt_at nd
    have hk : key (d ++ c.turn :: r) = key t.2 := by rw [← em, key_map fun c => (turnAt_stays _ c).2, e]
    refine good_other (t := t) (t' := (t.1, d ++ c.turn :: r)) rfl hk ?_ _ tr rfl g (later rfl hk)
    show GoodCols td (d ++ c.turn :: r)
    rw [← em, ← e]
    exact good_map (turnAt_stays _) g4
  | name e hm hn =>
    subst e
    exact GoodTabs.snoc g1 hm (fun z => hn (by rw [List.map_append]; exact List.mem_append_left _ z)) g4
/-! ### the lines tell them apart -/
theorem cat_inj {a x y : Str} (h : a ++ x = a ++ y) : x = y := by
  have e : (a ++ x).cps.toList = (a ++ y).cps.toList := by rw [h]
  have ex : ∀ z : Str, (a ++ z).cps.toList = a.cps.toList ++ z.cps.toList := fun z => by
    show (a.cps ++ z.cps).toList = _
    rw [Array.toList_append]
  rw [ex, ex] at e
  have e2 := List.append_cancel_left e
  obtain ⟨x⟩ := x
  obtain ⟨y⟩ := y
  have e3 : x = y := Array.toList_inj.mp e2
  rw [e3]
theorem turn_line (c : Col) : colLine c.turn ≠ colLine c := by
  intro h
  have h := congrArg Str.length h
  have e0 : Str.empty.length = 0 := rfl
  have e1 : (sz " ").length = 1 := by decide
  have e2 : (sz "?").length = 1 := by decide
  have e3 : (sz "").length = 0 := by decide
  have e4 : (sz " to ").length = 4 := by decide
  have e5 : (sz " as ").length = 4 := by decide
  have k1 : (Str.ofString "flag").length = 4 := by decide
  have k2 : (Str.ofString "number").length = 6 := by decide
  unfold colLine at h
  cases c with
  | plain f n =>
    cases f <;> simp only [Col.turn, Col.isLink, Col.lst, Col.kind, Col.name, Col.opt, len_cat, e0, e1, e3, k1, k2, Bool.false_eq_true, if_false, Bool.not_true, Bool.not_false] at h <;> omega
  | word n o =>
    cases o <;> simp only [Col.turn, Col.isLink, Col.lst, Col.kind, Col.name, Col.opt, len_cat, e0, e1, e2, e3, Bool.false_eq_true, if_false, if_true, Bool.not_true, Bool.not_false] at h <;> omega
  | link n t o l =>
    cases o <;> cases l <;> simp only [Col.turn, Col.isLink, Col.lst, Col.kind, Col.name, Col.target, Col.opt, len_cat, e0, e1, e2, e3, e4, e5, Bool.false_eq_true, if_false, if_true, Bool.not_true, Bool.not_false] at h <;> omega
theorem changed_lines {ts ts' : Tabs} {u u' : Str} (h : Changed ts ts') : linesOf u ts ≠ linesOf u' ts' := by
  obtain ⟨td, t, tr, t', rfl, rfl, road⟩ := h
  intro e
  unfold linesOf at e
  injection e with _ e
  rw [List.flatMap_append, List.flatMap_append, List.flatMap_cons, List.flatMap_cons] at e
  have e := List.append_cancel_right (List.append_cancel_left e)
  unfold tabLines at e
  injection e with e1 e2
  cases road with
  | add hx hn hl =>
    have := congrArg List.length e2
    simp at this
  | turn et =>
    rename_i d r c
    rw [et] at e2
    rw [List.map_append, List.map_append, List.map_cons, List.map_cons] at e2
    have e2 := List.append_cancel_left e2
    injection e2 with e2 _
    exact turn_line c e2.symm
  | @name m et hm hn =>
    have em : t.1 = m := cat_inj e1
    exact hn (List.mem_map.mpr ⟨t, List.mem_append_right _ List.mem_cons_self, em⟩)
theorem user_lines {u u' : Str} {ts : Tabs} : linesOf u ts = linesOf u' ts ↔ u = u' := by
  refine ⟨fun e => ?_, fun e => by rw [e]⟩
  unfold linesOf at e
  injection e with e _
  exact cat_inj e
end LP
namespace LP
open PySem L2
open Evl (Ex)
/-! ### whether any value is None or a name that a list may get -/
def isListD (cs : List Col) (ls : Lists) : PyData → Bool
  | .none => true
  | .str x => isListB cs ls (some x)
  | _ => false
theorem strD_str {f : Str → Bool} {d : PyData} (h : strD f d = true) : ∃ x, d = .str x ∧ f x = true := by
  cases d with
  | str x => exact ⟨x, rfl, h⟩
  | _ => cases h
theorem isListD_no {cs : List Col} {ls : Lists} {d : PyData} (hn : d ≠ .none) (h : strD nameB d = false) : isListD cs ls d = false := by
  cases d with
  | none => exact absurd rfl hn
  | str x =>
    have h : nameB x = false := h
    show (nameB x && !decide (x ∈ cs.map Col.name) && !decide (x ∈ ls.map (·.1))) = false
    rw [h]
    rfl
  | _ => rfl
def spIsListG (K : PySem.W.Frag) (C : Addr) : Sp := fun vs H Q _ => ∃ (p : Addr) (t : Str) (v : V) (d : PyData) (dc dl : Addr) (cvs : List (Key × V)) (rs : Rows) (ts : Tabs) (cs : List Col) (ls : Lists), vs = [.ref p, .str t, v] ∧ Part C H p dc dl cvs rs ts ∧ Dp K H v d ∧
  ts.lookup t = some cs ∧ rs.mir.lookup t = some ls ∧ cs.length ≤ 1000 ∧ (∀ x, d = .str x → x.length ≤ 4000) ∧ ∀ H', Ex H H' → Q (.bl (isListD cs ls d)) H'
section
variable {base : Heap} {mg : Str → Option Value} {K : PySem.W.Frag} {w : World} {P : Program} {ra C : Addr}
theorem ok_is_listG {f : Addr} {fd : FuncData} {mc : Value} (S : SchC K C) (me : Meth K C "_is_list" f) (F : C8.Fun K "_is_list" "Schema._is_list" s_Schema__is_list f fd) (b : Binds K fd ["self", "table", "name"] []) (B : Blt mg) (T : Cns K mg ra C)
    (c_is_name : SCal P w K mg base 3 C mc "is_name" (spAsk K (strD nameB))) :
    C8.Met P w K mg base 4 C "_is_list" (spIsListG K C) [] := by
  have sc : FnScope ["self", "table", "name", "names", "column"] ["self", "table", "name"] (C8.fnScope s_Schema__is_list) := C8.fnScope_by (by decide +kernel)
  refine C8.met0 S.cls me F b sc (fun vs H Q E h => ?_) (fun cdv A outer s H vs Q E hr h => ?_)
  · obtain ⟨_, _, _, _, _, _, _, _, _, _, _, rfl, _⟩ := h
    rfl
  · obtain ⟨p, t, v, d, dc, dl, cvs, rs, ts, cs, ls, rfl, hP, hd, ht, hr', hlen, hsz, k⟩ := h
    obtain ⟨⟨dx, fs, h1, h2⟩, h3, h4, h5, h6, h7, _, _, _⟩ := id hP
    obtain ⟨ca, cvals, g1, g2, g3⟩ := hP.cget ht
    obtain ⟨la, l1, l2⟩ := rows_get hr'
    obtain ⟨kvs, m1, m2⟩ := h6 _ l2
    have ll := paired_len g3
    refine ⟨_, (pss_cons (ps_if (pt_cmpR op_isN' (pv 2) pe_non (nomark _))
        (pss_one (ps_ret pe_bl))
        pss_nil)
        (pss_cons (ps_setLc (i := 3) (own := [("column", 4)]) (g := (gName 4)) (by rfl) sc.nd rfl rfl (sw_true rfl rfl rfl (by decide +kernel)) (pi_tupK (K := K) rfl (pe_dget (hu_of hr) (pe_fldK (K := K) rfl (pv 0) rfl) (pv 1) (fun _ _ => rfl))) (blkOk_by (own := [("column", 4)]) (N := ["self", "table", "name", "names", "column"]) (sc := C8.fnScope s_Schema__is_list) (by decide +kernel)) (fun _ _ _ _ _ => (pg_name (i := 4) sc.nd rfl (Or.inl rfl))) (fun _ _ _ _ _ => pts_nil) (fun _ _ _ _ _ => (pe_ix (ix_tupK (K := K) rfl) (pv 4) pe_int (fun _ _ => rfl))))
        (pss_one (ps_ret (pe_and (pe_sm c_is_name hr (by decide) (C8.pe_gc rfl T.Schema_) (pa_cons (pv 2) pa_nil)) (pe_and (pe_cmpR (op_notIn_seqK (K := K) rfl) (pv 2) (pv 3) (by rfl)) (pe_one ((pe_cmp (pc_dnotin (hu_of hr) (pv 2) (pe_dget (hu_of hr) (pe_fldK (K := K) rfl (pv 0) rfl) (pv 1) (fun _ _ => rfl))) rfl))))))))), ?_⟩
    walk_at "w"
    refine iteD (fun hv => ?_) (fun hv => ?_)
    · subst hv
      cases hd
      walk_at "w"
      exact k _ (Ex.refl _)
    · have hdn : d ≠ .none := fun e => by subst e; cases hd; exact hv rfl
      walk_at "w"
      refine w_kFld h1 S.cls S.columns_ h2.c ?_
      walk_at "w"
      refine w_kG h3 g1 ?_
      walk_at "w"
      intro D hD
      refine compQT cs (ColAt H) (fun c => some c.name) (fun v x => v = V.str x) hD (SqT.of g2) (by omega) g3 (fun y c hy hm H3 e3 kk kn hk hn => ?_) (fun acc H3 e3 hacc hp => ?_)
      · obtain ⟨a, rfl, ha⟩ := hy
        have ha3 := e3 _ _ ha
        walk_at "w"
        refine w_ixT (SqT.of ha3) c.at1 ?_
        exact hk _ _ _ (Ex.refl _) rfl rfl
      · rw [filterMap_some] at hp
        have ev := vals_strs hp
        walk_at "w"
        refine ⟨_, d, rfl, dp_ext e3 hd, hsz, ?_⟩
        walk_at "w"
        refine iteB (fun b1 => ?_) (fun b1 => ?_)
        · obtain ⟨x, rfl, hx⟩ := strD_str b1
          cases hd
          have k : ∀ H', Ex H H' → Q (.bl (nameB x && !decide (x ∈ cs.map Col.name) && !decide (x ∈ ls.map (·.1)))) H' := k
          rw [hx] at k
          walk_at "w"
          refine w_notInStr (SqL.of (ev ▸ hacc)) ?_
          walk_at "w"
          refine iteND (fun b2 => ?_) (fun b2 => ?_)
          · rw [decide_eq_false b2] at k
            walk_at "w"
            refine w_kFld (e3 _ _ h1) S.cls S.lists_ h2.l ?_
            walk_at "w"
            refine w_kG (e3 _ _ h5) l1 ?_
            have m3 : H3 la = some (.dK kvs) := e3 _ _ m1
            refine w_kNin (k := x) (z := fun v => Q v H3) m3 ?_
            rw [ListRow.has (a := la) m2]
            exact k _ e3
          · rw [decide_eq_true b2] at k
            exact k _ e3
        · rw [isListD_no hdn b1] at k
          exact k _ e3
end
end LP
namespace LP
open PySem L2
open Evl (Ex)
/-! ### d.get(k, x) of a module's dict, whatever text k is -/
def kGetP (K : PySem.W.Frag) (d : Addr) (y z : V) (H3 : Hp) (Q : VK) : Prop := ∃ k, y = .str k ∧ ((∃ u0 v0, PySem.W.nsIn K d k = some (some u0) ∧ RelV v0 u0 ∧ Q v0 H3) ∨ (PySem.W.nsIn K d k = some none ∧ Q z H3))
def tKGetD (K : PySem.W.Frag) (d : Addr) (td ty tx : TE) : TE := fun σ H Q => td σ H fun x H1 => x = .ref d ∧ ty σ H1 fun y H2 => tx σ H2 fun z H3 => kGetP K d y z H3 Q
section
variable {X : Cx} {d : Addr} {es : Array DictEntry} {n : Nat} {o e f : Expr} {apos cpos : Pos} {td ty tx : TE}
theorem pe_kgetD (D : KDict X.K X.w d es n) (ho : PE X o td) (he : PE X e ty) (hf : PE X f tx) (m : M2 X o "get" apos e f cpos) : PE X (.Call (.Attribute o "get" apos) [e, f] [] cpos) (tKGetD X.K d td ty tx) := by
  refine ⟨fun pins s σ H Q I h => ?_⟩; refine wpAny_Call_method m.base m.few m.line PySem.F.plainAttrs_dict PySem.F.slot_dict_get PySem.F.type_dict_get (thn (ho.run pins s σ H _ I h) fun u s1 ⟨x, H1, I1, rx, ex, q1⟩ => ?_)
  subst ex
  cases (show u = Value.ref d from rx)
  have at1 := I1.kIn d _ D.at_
  refine ⟨kd_type D I1, fun b eb => ?_, ?_⟩
  · cases eb
    exact ⟨_, at1, rfl⟩
  · rw [m.trees]
    refine Calls.callWith_builtin rfl (Calls.evalArgs_plain (Calls.spliced_cons (thn (he.run pins s1 σ H1 _ I1 q1) fun iv s2 ⟨y, H2, I2, ry, q2⟩ => Calls.spliced_cons (thn (hf.run pins s2 σ H2 _ I2 q2) fun fv s3 ⟨z, H3, I3, rz, k, ey, q3⟩ => Calls.spliced_nil ?_))))
    subst ey
    obtain ⟨t, rfl⟩ := (show ∃ t, iv = Value.str k t from ry)
    have mp := PySem.W.mapOf_K (prog := X.prog) (w := X.w) I3.kIn D.at_ D.lit
    have mt := meets_dict_get_default (PySem.strKind X.prog X.w) d (PySem.strKind_is X.prog X.w k t) D.low fv
    rcases q3 with ⟨u0, v0, e0, r0, q3⟩ | ⟨e0, q3⟩
    · refine call_meetsIn PySem.F.slot_dict_get mp.typeIs PySem.F.entry_dict_get (PySem.F.args_dict_get_3 _ _ _) mt ⟨_, mp, ⟨v0, H3, I3.tok _, ?_, q3⟩⟩
      rw [PySem.W.find_K D.at_ e0]
      exact r0
    · refine call_meetsIn PySem.F.slot_dict_get mp.typeIs PySem.F.entry_dict_get (PySem.F.args_dict_get_3 _ _ _) mt ⟨_, mp, ⟨z, H3, I3.tok _, ?_, q3⟩⟩
      rw [PySem.W.find_K D.at_ e0]
      exact rz
end
section
variable {K : PySem.W.Frag} {H : Hp} {Q : VK} {v : V} {σ : L2.St}
theorem w_kgetD {d : Addr} {td ty tx : TE} (h : td σ H fun x H1 => x = .ref d ∧ ty σ H1 fun y H2 => tx σ H2 fun z H3 => kGetP K d y z H3 Q) : tKGetD K d td ty tx σ H Q := h
theorem w_kgetI {d : Addr} {kk : Str} {n : Nat} (e : (∃ u, PySem.W.nsIn K d kk = some (some u) ∧ RelV (.int (n : Nat)) u) ∨ (PySem.W.nsIn K d kk = some none ∧ n = 0)) (q : Q (.int (n : Nat)) H) :
    kGetP K d (.str kk) (.int 0) H Q := by
  refine ⟨kk, rfl, ?_⟩
  rcases e with ⟨u, e1, e2⟩ | ⟨e1, e2⟩
  · exact .inl ⟨u, _, e1, e2, q⟩
  · subst e2
    exact .inr ⟨e1, q⟩
def isTuQ : PyData → Bool
  | .tuple _ => true
  | _ => false
def isBoQ : PyData → Bool
  | .bool _ => true
  | _ => false
theorem w_isTuQ {d : PyData} (h : Dp K H v d) (q : Q (.bl (isTuQ d)) H) : rIsi K [v, .ty "tuple"] H Q := by
  refine w_isi (dp_ty h) ?_ q
  cases d with
  | none => show kitB "NoneType" "tuple" = some false; decide +kernel
  | bool b => show kitB "bool" "tuple" = some false; decide +kernel
  | int i => show kitB "int" "tuple" = some false; decide +kernel
  | str x => show kitB "str" "tuple" = some false; decide +kernel
  | list l => show kitB "list" "tuple" = some false; decide +kernel
  | tuple l => show kitB "tuple" "tuple" = some true; decide +kernel
  | dict l => show kitB "dict" "tuple" = some false; decide +kernel
theorem w_isBoQ {d : PyData} (h : Dp K H v d) (q : Q (.bl (isBoQ d)) H) : rIsi K [v, .ty "bool"] H Q := by
  refine w_isi (dp_ty h) ?_ q
  cases d with
  | none => show kitB "NoneType" "bool" = some false; decide +kernel
  | bool b => show kitB "bool" "bool" = some true; decide +kernel
  | int i => show kitB "int" "bool" = some false; decide +kernel
  | str x => show kitB "str" "bool" = some false; decide +kernel
  | list l => show kitB "list" "bool" = some false; decide +kernel
  | tuple l => show kitB "tuple" "bool" = some false; decide +kernel
  | dict l => show kitB "dict" "bool" = some false; decide +kernel
end
/-! ### whether any value may stand as the next column -/
def lenD (k : Str) : Nat := if k = "flag" ∨ k = "number" then 2 else if k = "word" then 3 else if k = "link" then 5 else 0
def tgtD (m : List (Str × Lists)) (ts : Tabs) (l : PyData) : PyData → Bool
  | .str x => match ts.lookup x, m.lookup x with
    | some cs, some ls => isListD cs ls l
    | _, _ => false
  | _ => false
def oneB : List PyData → Bool
  | [o] => isBoQ o
  | _ => false
theorem look_of {β : Type} {n : Str} : ∀ {m : List (Str × β)}, n ∈ m.map (·.1) → ∃ v, m.lookup n = some v
  | [], h => by cases h
  | (x, v) :: r, h => by
    rw [List.lookup_cons]
    by_cases e : n = x
    · subst e
      rw [show (n == n) = true from beq_self_eq_true n]
      exact ⟨v, rfl⟩
    · rw [show (n == x) = false from beq_eq_false_iff_ne.mpr e]
      rw [List.map_cons] at h
      rcases List.mem_cons.mp h with h | h
      · exact absurd h e
      · exact look_of h
def restB (m : List (Str × Lists)) (ts : Tabs) (k : Str) (r : List PyData) : Bool :=
  if k = "link" then (match r with
    | [tg, o, l] => strD (fun x => decide (x ∈ ts.map (·.1))) tg && (isBoQ o && tgtD m ts l tg)
    | _ => false)
  else (!decide (k = "word") || oneB r)
def colB (ns : List Str) (m : List (Str × Lists)) (ts : Tabs) : PyData → Bool
  | .tuple (.str k :: n :: r) => decide (lenD k = r.length + 2) && (strD nameB n && (!strD (fun x => decide (x ∈ ns)) n && restB m ts k r))
  | _ => false
structure LenG (K : PySem.W.Frag) (mg : Str → Option Value) (la : Addr) : Prop where
  LENGTHS_ : ∃ u, mg "LENGTHS" = some u ∧ RelV (.ref la) u
  at_ : ∀ k : Str, (∃ u, PySem.W.nsIn K la k = some (some u) ∧ RelV (.int (lenD k : Nat)) u) ∨ (PySem.W.nsIn K la k = some none ∧ lenD k = 0)
def SzD (d : PyData) : Prop := ∀ xs, d = .tuple xs → ∀ y ∈ xs, ∀ x, y = .str x → x.length ≤ 4000
def spIsLinkG (K : PySem.W.Frag) : Sp := fun vs H Q _ => ∃ (a : Addr) (xs : List V) (k : Str), vs = [.ref a] ∧ SqT K H a xs ∧ atI xs 0 = some (.str k) ∧ Q (.bl (decide (k = "link"))) H
def spIsColumnG (K : PySem.W.Frag) (C : Addr) : Sp := fun vs H Q _ => ∃ (p nl : Addr) (v : V) (d : PyData) (ns : List Str) (dc dl : Addr) (cvs : List (Key × V)) (rs : Rows) (ts : Tabs), vs = [.ref p, v, .ref nl] ∧ Part C H p dc dl cvs rs ts ∧ Dp K H v d ∧ SzD d ∧
  SqL K H nl (ns.map V.str) ∧ (∀ t ∈ ts, t.2.length ≤ 1000) ∧ rs.mir.map (·.1) = ts.map (·.1) ∧ ∀ H', Ex H H' → Q (.bl (colB ns rs.mir ts d)) H'
theorem dpAll_len {K : PySem.W.Frag} {H : Hp} : ∀ {vs : List V} {ds : List PyData}, DpAll K H vs ds → vs.length = ds.length
  | _, _, .nil => rfl
  | _, _, .cons _ r => by rw [List.length_cons, List.length_cons, dpAll_len r]
section
variable {base : Heap} {mg : Str → Option Value} {K : PySem.W.Frag} {w : World} {P : Program} {ra C la : Addr} {es : Array DictEntry} {ne : Nat}
theorem ok_is_linkG {f : Addr} {fd : FuncData} (D : C8.Def K mg "is_link" s_is_link f fd) (b : Binds K fd ["column"] []) : C8.Cal P w K mg base 1 "is_link" (spIsLinkG K) [] := by
  have sc : FnScope ["column"] ["column"] (C8.fnScope s_is_link) := C8.fnScope_by (by decide +kernel)
  refine C8.cal0 D b .nil sc (fun vs H Q E h => ?_) (fun cdv A outer s H vs Q E hr h => ?_)
  · obtain ⟨_, _, _, rfl, _⟩ := h
    rfl
  · obtain ⟨a, xs, kk, rfl, ha, h0, k⟩ := h
    refine ⟨_, (pss_one (ps_ret (pe_cmpR op_eq (pe_ix (ix_tupK (K := K) rfl) (pv 0) pe_int (fun _ _ => rfl)) pe_str (nomark _)))), ?_⟩
    walk_at "w"
    refine w_ixT ha h0 ?_
    walk_at "w"
    rw [show decide (V.str kk = V.str (Str.ofString "link")) = decide (kk = "link") from by rw [decide_eq_decide]; exact ⟨fun h => V.str.inj h, fun h => by rw [h]⟩]
    exact k
theorem ok_is_columnG {f : Addr} {fd : FuncData} {mc : Value} (S : SchC K C) (me : Meth K C "_is_column" f) (F : C8.Fun K "_is_column" "Schema._is_column" s_Schema__is_column f fd) (b : Binds K fd ["self", "column", "names"] []) (B : Blt mg) (T : Cns K mg ra C)
    (LD : KDict K w la es ne) (LN : LenG K mg la) (c_is_name : SCal P w K mg base 3 C mc "is_name" (spAsk K (strD nameB))) (c_is_link : C8.Cal P w K mg base 1 "is_link" (spIsLinkG K) []) (c___contains__ : C8.Met P w K mg base 1 C "__contains__" (spContains K C) [])
    (c__is_list : C8.Met P w K mg base 4 C "_is_list" (spIsListG K C) []) :
    C8.Met P w K mg base 5 C "_is_column" (spIsColumnG K C) [] := by
  have sc : FnScope ["self", "column", "names"] ["self", "column", "names"] (C8.fnScope s_Schema__is_column) := C8.fnScope_by (by decide +kernel)
  refine C8.met0 S.cls me F b sc (fun vs H Q E h => ?_) (fun cdv A outer s H vs Q E hr h => ?_)
  · obtain ⟨_, _, _, _, _, _, _, _, _, _, rfl, _⟩ := h
    rfl
  · obtain ⟨p, nl, v, d, ns, dc, dl, cvs, rs, ts, rfl, hP, hd, hz, hn, hts, hmk, k⟩ := h
    obtain ⟨⟨dx, fs, h1, h2⟩, h3, h4, h5, h6, h7, _, _, _⟩ := id hP
    refine ⟨_, (pss_cons (ps_if (PW.pt (pw_or (pt_not (pt_val (pe_callB (call_isiK1 (K := K) rfl) (by rfl) B.isinstance_ (by decide +kernel) (pa_cons (pv 1) (pa_cons (pe_bltn (v := .ty "tuple") (u := .type "tuple") (by rfl) B.tuple_ (by decide +kernel) rfl) pa_nil))))) (pw_or (pt_cmpR op_lt (pe_callB (call_len_seqK (K := K) rfl) (by rfl) B.len_ (by decide +kernel) (pa_cons (pv 1) pa_nil)) pe_int (nomark _)) (pw_or1 (pt_not (pt_val (pe_callB (call_isiK1 (K := K) rfl) (by rfl) B.isinstance_ (by decide +kernel) (pa_cons (pe_ix (ix_tupK (K := K) rfl) (pv 1) pe_int (fun _ _ => rfl)) (pa_cons (pe_bltn (v := .ty "str") (u := .type "str") (by rfl) B.str_ (by decide +kernel) rfl) pa_nil)))))))))
        (pss_one (ps_ret pe_bl))
        pss_nil)
        (pss_cons (ps_if (pt_cmpR op_ne ((pe_kgetD LD (C8.pe_gc rfl LN.LENGTHS_) (pe_ix (ix_tupK (K := K) rfl) (pv 1) pe_int (fun _ _ => rfl)) pe_int ⟨rfl, rfl, rfl, rfl⟩)) (pe_callB (call_len_seqK (K := K) rfl) (by rfl) B.len_ (by decide +kernel) (pa_cons (pv 1) pa_nil)) (nomark _))
        (pss_one (ps_ret pe_bl))
        pss_nil)
        (pss_cons (ps_if (PW.pt (pw_or (pt_not (pt_val (pe_sm c_is_name hr (by decide) (C8.pe_gc rfl T.Schema_) (pa_cons (pe_ix (ix_tupK (K := K) rfl) (pv 1) pe_int (fun _ _ => rfl)) pa_nil)))) (pw_or1 (pt_cmpR (op_in_seqK (K := K) rfl) (pe_ix (ix_tupK (K := K) rfl) (pv 1) pe_int (fun _ _ => rfl)) (pv 2) (by rfl)))))
        (pss_one (ps_ret pe_bl))
        pss_nil)
        (pss_cons (ps_if (pt_val (C8.pe_c c_is_link hr (by decide) rfl (pa_cons (pv 1) pa_nil)))
        (pss_one (ps_ret (pe_and (pe_cmpR (op_oin (dvs := []) c___contains__ hr (by decide)) (pe_ix (ix_tupK (K := K) rfl) (pv 1) pe_int (fun _ _ => rfl)) (pv 0) (by rfl)) (pe_and (pe_callB (call_isiK1 (K := K) rfl) (by rfl) B.isinstance_ (by decide +kernel) (pa_cons (pe_ix (ix_tupK (K := K) rfl) (pv 1) pe_int (fun _ _ => rfl)) (pa_cons (pe_bltn (v := .ty "bool") (u := .type "bool") (by rfl) B.bool_ (by decide +kernel) rfl) pa_nil))) (pe_one (C8.pe_mt c__is_list hr (by decide) (pv 0) (pa_cons (pe_ix (ix_tupK (K := K) rfl) (pv 1) pe_int (fun _ _ => rfl)) (pa_cons (pe_ix (ix_tupK (K := K) rfl) (pv 1) pe_int (fun _ _ => rfl)) pa_nil))))))))
        pss_nil)
        (pss_one (ps_ret (pe_or (pe_cmpR op_ne (pe_ix (ix_tupK (K := K) rfl) (pv 1) pe_int (fun _ _ => rfl)) pe_str (nomark _)) (pe_one (pe_callB (call_isiK1 (K := K) rfl) (by rfl) B.isinstance_ (by decide +kernel) (pa_cons (pe_ix (ix_tupK (K := K) rfl) (pv 1) pe_int (fun _ _ => rfl)) (pa_cons (pe_bltn (v := .ty "bool") (u := .type "bool") (by rfl) B.bool_ (by decide +kernel) rfl) pa_nil))))))))))), ?_⟩
    walk_at "w"
    refine w_isTuQ hd ?_
    cases hd with
    | @tup a xs ds tt hds =>
      have lx := dpAll_len hds
      unfold isTuQ
      walk_at "w"
      refine iteD (fun h => ?_) (fun h => ?_)
      · have k0 : colB ns rs.mir ts (.tuple ds) = false := by
          match ds, lx with
          | [], _ => rfl
          | [d0], _ => cases d0 <;> rfl
          | _ :: _ :: _, lx => rw [List.length_cons, List.length_cons] at lx; omega
        rw [k0] at k
        walk_at "w"
        exact k _ (Ex.refl _)
      cases hds with
      | nil => exact absurd (by decide) h
      | @cons x0 xr0 d0 dr0 hd0 hr0 =>
      cases hr0 with
      | nil => exact absurd (by simp) h
      | @cons x1 xr d1 dr hd1 hr1 =>
      have z0 := hz _ rfl d0 (by simp)
      have z1 := hz _ rfl d1 (by simp)
      have lr := dpAll_len hr1
      walk_at "w"
      refine w_ixT (i := 0) (v := x0) tt (atI_nat (j := 0) (xs := x0 :: x1 :: xr) rfl) ?_
      walk_at "w"
      refine w_isStr hd0 ?_
      walk_at "w"
      cases hs : isStrD d0 with
      | false =>
        have k0 : colB ns rs.mir ts (.tuple (d0 :: d1 :: dr)) = false := by cases d0 <;> first | rfl | cases hs
        rw [k0] at k
        walk_at "w"
        exact k _ (Ex.refl _)
      | true =>
      obtain ⟨kk, rfl⟩ : ∃ kk, d0 = .str kk := by cases d0 <;> first | exact ⟨_, rfl⟩ | cases hs
      cases hd0
      walk_at "w"
      refine w_kgetD ?_
      walk_at "w"
      refine w_ixT (i := 0) (v := .str kk) tt (atI_nat (j := 0) (xs := .str kk :: x1 :: xr) rfl) ?_
      walk_at "w"
      refine w_kgetI (LN.at_ kk) ?_
      walk_at "w"
      have k : ∀ H', Ex H H' → Q (.bl (decide (lenD kk = dr.length + 2) && (strD nameB d1 && (!strD (fun x => decide (x ∈ ns)) d1 && restB rs.mir ts kk dr)))) H' := k
      refine iteND (fun hl => ?_) (fun hl => ?_)
      · have hl' : ¬ lenD kk = dr.length + 2 := fun e => hl (by rw [e, ← lr]; simp only [List.length_cons])
        rw [decide_eq_false hl'] at k
        walk_at "w"
        exact k _ (Ex.refl _)
      have hl' : lenD kk = dr.length + 2 := by
        have hl := V.int.inj hl
        simp only [List.length_cons] at hl
        omega
      rw [decide_eq_true hl'] at k
      have k : ∀ H', Ex H H' → Q (.bl (strD nameB d1 && (!strD (fun x => decide (x ∈ ns)) d1 && restB rs.mir ts kk dr))) H' := k
      walk_at "w"
      refine w_ixT (i := 1) (v := x1) tt (atI_nat (j := 1) (xs := .str kk :: x1 :: xr) rfl) ?_
      walk_at "w"
      refine ⟨x1, d1, rfl, hd1, z1, ?_⟩
      walk_at "w"
      cases hb : strD nameB d1 with
      | false =>
        rw [hb] at k
        walk_at "w"
        exact k _ (Ex.refl _)
      | true =>
      rw [hb] at k
      obtain ⟨nm, rfl, hnm⟩ := strD_str hb
      cases hd1
      have k : ∀ H', Ex H H' → Q (.bl (!decide (nm ∈ ns) && restB rs.mir ts kk dr)) H' := k
      walk_at "w"
      refine w_ixT (i := 1) (v := .str nm) tt (atI_nat (j := 1) (xs := .str kk :: .str nm :: xr) rfl) ?_
      walk_at "w"
      refine w_inStr hn ?_
      walk_at "w"
      refine iteD (fun hin => ?_) (fun hin => ?_)
      · rw [decide_eq_true hin] at k
        walk_at "w"
        exact k _ (Ex.refl _)
      rw [decide_eq_false hin] at k
      have k : ∀ H', Ex H H' → Q (.bl (restB rs.mir ts kk dr)) H' := k
      walk_at "w"
      refine ⟨a, _, kk, rfl, tt, atI_nat (j := 0) (xs := .str kk :: .str nm :: xr) rfl, ?_⟩
      walk_at "w"
      refine iteD (fun hk => ?_) (fun hk => ?_)
      · subst hk
        have ldr : dr.length = 3 := by
          have e : lenD "link" = 5 := by decide +kernel
          omega
        match dr, hr1, lr, ldr, k with
        | [d2, d3, d4], hr1, lr, _, k =>
        have k : ∀ H', Ex H H' → Q (.bl (strD (fun x => decide (x ∈ ts.map (·.1))) d2 && (isBoQ d3 && tgtD rs.mir ts d4 d2))) H' := k
        cases hr1 with
        | @cons x2 _ _ _ hd2 hr2 =>
        cases hr2 with
        | @cons x3 _ _ _ hd3 hr3 =>
        cases hr3 with
        | @cons x4 _ _ _ hd4 hr4 =>
        cases hr4
        have z4 := hz _ rfl d4 (by simp)
        walk_at "w"
        refine w_ownIn h1 ?_
        refine ⟨p, x2, d2, dc, dl, cvs, rs, ts, rfl, hP, hd2, ?_⟩
        cases hb2 : strD (fun x => decide (x ∈ ts.map (·.1))) d2 with
        | false =>
          rw [hb2] at k
          refine ⟨_, rfl, ⟨_, rfl, iteF ?_⟩⟩
          walk_at "w"
          exact k _ (Ex.refl _)
        | true =>
        rw [hb2] at k
        obtain ⟨tg, rfl, htg⟩ := strD_str hb2
        have htg := of_decide_eq_true htg
        cases hd2
        obtain ⟨cs, g1⟩ := look_of htg
        obtain ⟨ls, g2⟩ := look_of (show tg ∈ rs.mir.map (·.1) by rw [hmk]; exact htg)
        have k : ∀ H', Ex H H' → Q (.bl (isBoQ d3 && tgtD rs.mir ts d4 (.str tg))) H' := k
        have et : tgtD rs.mir ts d4 (.str tg) = isListD cs ls d4 := by
          unfold tgtD
          simp only [g1, g2]
        rw [et] at k
        refine ⟨_, rfl, ⟨_, rfl, iteT ?_⟩⟩
        walk_at "w"
        refine w_isBoQ hd3 ?_
        cases hb3 : isBoQ d3 with
        | false =>
          rw [hb3] at k
          refine ⟨_, rfl, iteF ?_⟩
          walk_at "w"
          exact k _ (Ex.refl _)
        | true =>
        rw [hb3] at k
        refine ⟨_, rfl, iteT ?_⟩
        walk_at "w"
        refine w_kMeth h1 (h2.no _ (by decide)) ?_
        walk_at "w"
        refine ⟨p, tg, x4, d4, dc, dl, cvs, rs, ts, cs, ls, rfl, hP, hd4, g1, g2, hts _ (PySem.mem_of_lookup g1), z4, fun H' ex => ?_⟩
        exact k _ ex
      · have er : restB rs.mir ts kk dr = (!decide (kk = "word") || oneB dr) := by
          unfold restB
          rw [if_neg hk]
        rw [er] at k
        walk_at "w"
        refine w_ixT (i := 0) (v := .str kk) tt (atI_nat (j := 0) (xs := .str kk :: .str nm :: xr) rfl) ?_
        walk_at "w"
        refine iteND (fun hw => ?_) (fun hw => ?_)
        · rw [decide_eq_false (show ¬ kk = "word" from fun e => hw (by rw [e]))] at k
          exact k _ (Ex.refl _)
        · have hw := V.str.inj hw
          subst hw
          have ldr : dr.length = 1 := by
            have e : lenD "word" = 3 := by decide +kernel
            have hl' : lenD "word" = dr.length + 2 := hl'
            omega
          obtain ⟨d2, rfl⟩ : ∃ d2, dr = [d2] := by
            match dr, ldr with
            | [d2], _ => exact ⟨d2, rfl⟩
          have k : ∀ H', Ex H H' → Q (.bl (isBoQ d2)) H' := k
          cases hr1 with
          | @cons x2 _ _ _ hd2 hr2 =>
          cases hr2
          walk_at "w"
          refine w_isBoQ hd2 ?_
          exact k _ (Ex.refl _)
    | _ =>
      unfold isTuQ
      walk_at "w"
      exact k _ (Ex.refl _)
end
end LP
namespace LP
open PySem L2
open Evl (Ex)
/-! ### the columns of any values -/
def colOf : PyData → Option Col
  | .tuple [.str k, .str n] => if k = "flag" then some (.plain true n) else if k = "number" then some (.plain false n) else none
  | .tuple [.str k, .str n, .bool o] => if k = "word" then some (.word n o) else none
  | .tuple [.str k, .str n, .str t, .bool o, .none] => if k = "link" then some (.link n t o none) else none
  | .tuple [.str k, .str n, .str t, .bool o, .str l] => if k = "link" then some (.link n t o (some l)) else none
  | _ => none
theorem lenD_in {k : Str} {r : Nat} (h : lenD k = r + 2) : (k = "flag" ∧ r = 0) ∨ (k = "number" ∧ r = 0) ∨ (k = "word" ∧ r = 1) ∨ (k = "link" ∧ r = 3) := by
  unfold lenD at h
  by_cases h1 : k = "flag" ∨ k = "number"
  · rw [if_pos h1] at h
    rcases h1 with h1 | h1
    · exact .inl ⟨h1, by omega⟩
    · exact .inr (.inl ⟨h1, by omega⟩)
  · rw [if_neg h1] at h
    by_cases h2 : k = "word"
    · rw [if_pos h2] at h
      exact .inr (.inr (.inl ⟨h2, by omega⟩))
    · rw [if_neg h2] at h
      by_cases h3 : k = "link"
      · rw [if_pos h3] at h
        exact .inr (.inr (.inr ⟨h3, by omega⟩))
      · rw [if_neg h3] at h
        omega
theorem colB_col {ns : List Str} {m : List (Str × Lists)} {ts : Tabs} {d : PyData} (hts : ∀ t ∈ ts, t.2.length ≤ 1000) (h : colB ns m ts d = true) : ∃ c, colOf d = some c ∧ d = c.data ∧ ColIn c ns m ts := by
  unfold colB at h
  split at h
  · rename_i k n r
    simp only [Bool.and_eq_true, decide_eq_true_eq, Bool.not_eq_true'] at h
    obtain ⟨hl, hn, hi, hr⟩ := h
    obtain ⟨nm, rfl, hnm⟩ := strD_str hn
    have hi : nm ∉ ns := of_decide_eq_false hi
    have hnm := (nameB_iff _).mp hnm
    rcases lenD_in hl with ⟨rfl, l0⟩ | ⟨rfl, l0⟩ | ⟨rfl, l0⟩ | ⟨rfl, l0⟩
    · obtain rfl := List.eq_nil_of_length_eq_zero l0
      exact ⟨.plain true nm, rfl, rfl, hnm, hi, fun z => nomatch z⟩
    · obtain rfl := List.eq_nil_of_length_eq_zero l0
      exact ⟨.plain false nm, rfl, rfl, hnm, hi, fun z => nomatch z⟩
    · match r, l0 with
      | [o], _ =>
        unfold restB at hr
        rw [if_neg (show ¬ (("word" : Str) = "link") by decide +kernel), decide_eq_true (rfl : ("word" : Str) = "word")] at hr
        have hr : isBoQ o = true := hr
        cases o with
        | bool b => exact ⟨.word nm b, rfl, rfl, hnm, hi, fun z => nomatch z⟩
        | _ => cases hr
    · match r, l0 with
      | [tg, o, l], _ =>
        unfold restB at hr
        rw [if_pos rfl] at hr
        simp only [Bool.and_eq_true] at hr; obtain ⟨h1, h2, h3⟩ := hr
        obtain ⟨x, rfl, hx⟩ := strD_str h1
        cases o with
        | bool b =>
          cases g1 : ts.lookup x with
          | none =>
            simp only [tgtD, g1] at h3
            cases h3
          | some cs =>
          cases g2 : m.lookup x with
          | none =>
            simp only [tgtD, g1, g2] at h3
            cases h3
          | some ls =>
          simp only [tgtD, g1, g2] at h3
          have hc := hts _ (PySem.mem_of_lookup g1)
          cases l with
          | none => exact ⟨.link nm x b none, rfl, rfl, hnm, hi, fun _ => ⟨cs, ls, g1, g2, hc, fun y e => (nomatch e), rfl⟩⟩
          | str y =>
            have h3 : isListB cs ls (some y) = true := h3
            refine ⟨.link nm x b (some y), rfl, rfl, hnm, hi, fun _ => ⟨cs, ls, g1, g2, hc, fun z e => ?_, h3⟩⟩
            cases e
            have h4 := h3
            unfold isListB at h4
            simp only [Bool.and_eq_true] at h4
            exact Nat.le_trans ((nameB_iff _).mp h4.1.1).1.2.1 (by decide)
          | _ => cases h3
        | _ => cases h2
  · cases h
/-- what a table's values tell: the first that may not stand, or the columns -/
def takeF (t : Str) (m : List (Str × Lists)) (ts : Tabs) : List Col → List PyData → Sum Nat (List Col)
  | md, [] => .inr md
  | md, d :: r => if colB (md.map Col.name) (md.foldl (addCol t) m) ts d = true then (match colOf d with
      | some c => takeF t m ts (md ++ [c]) r
      | none => .inl md.length) else .inl md.length
theorem takeF_cons {t : Str} {m : List (Str × Lists)} {ts : Tabs} {md : List Col} {d : PyData} {r : List PyData} {c : Col} (h : colB (md.map Col.name) (md.foldl (addCol t) m) ts d = true) (hc : colOf d = some c) : takeF t m ts md (d :: r) = takeF t m ts (md ++ [c]) r := by
  rw [takeF, if_pos h, hc]
theorem takeF_no {t : Str} {m : List (Str × Lists)} {ts : Tabs} {md : List Col} {d : PyData} {r : List PyData} (h : colB (md.map Col.name) (md.foldl (addCol t) m) ts d = false) : takeF t m ts md (d :: r) = .inl md.length := by
  rw [takeF, if_neg (by rw [h]; exact Bool.false_ne_true)]
/-! ### values that stay while dicts change -/
def DictsAt (own : List Addr) (H : Hp) : Prop := ∀ a ∈ own, ∀ o, H a = some o → (∀ xs, o ≠ .lst xs) ∧ (∀ xs, o ≠ .tup xs) ∧ ∀ b u, o ≠ .frz b u
theorem sqL_exO {K : PySem.W.Frag} {own : List Addr} {H H' : Hp} {a : Addr} {xs : List V} (o : DictsAt own H) (e : ExO own H H') (h : SqL K H a xs) : SqL K H' a xs := by
  rcases h with (h | ⟨u, h⟩) | h
  · exact .inl (.inl (e _ _ h fun z => (o _ z _ h).1 _ rfl))
  · exact .inl (.inr ⟨u, e _ _ h fun z => (o _ z _ h).2.2 _ _ rfl⟩)
  · exact .inr h
theorem sqT_exO {K : PySem.W.Frag} {own : List Addr} {H H' : Hp} {a : Addr} {xs : List V} (o : DictsAt own H) (e : ExO own H H') (h : SqT K H a xs) : SqT K H' a xs := by
  rcases h with (h | ⟨u, h⟩) | h
  · exact .inl (.inl (e _ _ h fun z => (o _ z _ h).2.1 _ rfl))
  · exact .inl (.inr ⟨u, e _ _ h fun z => (o _ z _ h).2.2 _ _ rfl⟩)
  · exact .inr h
theorem dictsAt_of {own : List Addr} {H : Hp} (h : ∀ a ∈ own, ∃ kv, H a = some (.dK kv)) : DictsAt own H := fun a ha o ho => by
  obtain ⟨kv, e⟩ := h a ha
  rw [ho] at e
  cases e
  exact ⟨fun _ z => (nomatch z), fun _ z => (nomatch z), fun _ _ z => (nomatch z)⟩
theorem insAt_of {H : Hp} {p C dx : Addr} {fs : List (Str × V)} (h : H p = some (.ins C dx fs)) : DictsAt [p] H := fun a ha o ho => by
  rw [List.mem_singleton.1 ha, h] at ho
  cases ho
  exact ⟨fun _ z => (nomatch z), fun _ z => (nomatch z), fun _ _ z => (nomatch z)⟩
mutual
theorem dp_exO {K : PySem.W.Frag} {own : List Addr} {H H' : Hp} (o : DictsAt own H) (e : ExO own H H') : ∀ {v : V} {d : PyData}, Dp K H v d → Dp K H' v d
  | _, _, .non => .non
  | _, _, .bl b => .bl b
  | _, _, .int i => .int i
  | _, _, .str x => .str x
  | _, _, .lst h r => .lst (sqL_exO o e h) (dpAll_exO o e r)
  | _, _, .tup h r => .tup (sqT_exO o e h) (dpAll_exO o e r)
theorem dpAll_exO {K : PySem.W.Frag} {own : List Addr} {H H' : Hp} (o : DictsAt own H) (e : ExO own H H') : ∀ {vs : List V} {ds : List PyData}, DpAll K H vs ds → DpAll K H' vs ds
  | _, _, .nil => .nil
  | _, _, .cons h r => .cons (dp_exO o e h) (dpAll_exO o e r)
end
/-- a value that may be a column -/
structure ColD (K : PySem.W.Frag) (H : Hp) (v : V) (d : PyData) : Prop where
  dp : Dp K H v d
  sz : SzD d
  at_ : ∀ c : Col, d = c.data → ColAt H v c
theorem ColD.exO {K : PySem.W.Frag} {own : List Addr} {H H' : Hp} {v : V} {d : PyData} (o : DictsAt own H) (e : ExO own H H') (h : ColD K H v d) : ColD K H' v d :=
  ⟨dp_exO o e h.dp, h.sz, fun c hc => by
    obtain ⟨a, ev, ha⟩ := h.at_ c hc
    exact ⟨a, ev, e _ _ ha fun z => (o _ z _ ha).2.1 _ rfl⟩⟩
theorem ColD.ext {K : PySem.W.Frag} {H H' : Hp} {v : V} {d : PyData} (e : Ex H H') (h : ColD K H v d) : ColD K H' v d := ⟨dp_ext e h.dp, h.sz, fun c hc => (h.at_ c hc).ext e⟩
theorem Part.dicts {C : Addr} {H : Hp} {p dc dl : Addr} {cvs : List (Key × V)} {rs : Rows} {ts : Tabs} (h : Part C H p dc dl cvs rs ts) : DictsAt (rs.own dc dl) H := dictsAt_of fun a ha => by
  rcases List.mem_cons.1 ha with rfl | ha
  · exact ⟨_, h.hdc⟩
  · rcases List.mem_cons.1 ha with rfl | ha
    · exact ⟨_, h.hdl⟩
    · obtain ⟨r0, hr0, rfl⟩ := List.mem_map.mp ha
      obtain ⟨kv, g, _⟩ := h.lst r0 hr0
      exact ⟨kv, g⟩
def spTakeColsG (K : PySem.W.Frag) (C CB : Addr) : Sp := fun vs H Q E => ∃ (p q : Addr) (i : V) (t : Str) (xs : List V) (ds : List PyData) (dc dl : Addr) (cvs : List (Key × V)) (rs : Rows) (ts : Tabs), vs = [.ref p, i, .str t, .ref q] ∧ Part C H p dc dl cvs rs ts ∧
  SqL K H q xs ∧ Paired (ColD K H) xs ds ∧ ds.length ≤ 20 ∧ ts.length ≤ 100 ∧ (∀ t ∈ ts, t.2.length ≤ 1000) ∧ t ∉ ts.map (·.1) ∧ rs.mir.map (·.1) = ts.map (·.1) ∧ (∀ r ∈ rs, r.2.2.length ≤ 500) ∧
  (∀ cs, takeF t rs.mir ts [] ds = .inr cs → ∀ (T D : Addr) (H' : Hp), H D = none → ExO (rs.own dc dl) H H' → Part C H' p dc dl (cvs ++ [(.inr t, .ref T)]) (cs.foldl (rsAdd t) rs ++ [(t, D, [])]) (ts ++ [(t, cs)]) → Q .non H') ∧
  ∀ j, takeF t rs.mir ts [] ds = .inl j → ∀ (dd : Addr) (H' : Hp), ExO (rs.own dc dl) H H' → H' dd = some (.xd [("column", .int (j : Nat)), ("table", i)]) → E (.ref CB) (some dd) H'
end LP
namespace LP
open PySem L2
open Evl (Ex)
def lnames (ts : Tabs) (n : Str) : List Str := (listsOf ts n).map (·.1)
def spNamesOf (K : PySem.W.Frag) : Sp := fun vs H Q _ => ∃ (p : Addr) (ts : Tabs) (n : Str), vs = [.ref p, .str n] ∧ TabsR K H p ts ∧ Few ts ∧ ∀ (q : Addr) (H' : Hp), H q = none → Ex H H' → H' q = some (.lst ((lnames ts n).map V.str)) → Q (.ref q) H'
theorem lnames_app (ts : Tabs) (t : Str × List Col) (n : Str) : lnames (ts ++ [t]) n = lnames ts n ++ (t.2.filterMap (lstEnt t.1 n)).map (·.1) := by
  unfold lnames
  rw [listsOf_app, List.map_append]
def onTo (n : Str) (c : Col) : Option Col := if c.target = n then some c else none
theorem ent_names (t n : Str) (cs : List Col) : (((cs.filter Col.isLink).filterMap (onTo n)).filterMap Col.lst) = (cs.filterMap (lstEnt t n)).map (·.1) := by
  induction cs with
  | nil => rfl
  | cons c r ih =>
    cases c with
    | plain f x => exact ih
    | word x o => exact ih
    | link x tg o l =>
      rw [List.filter_cons_of_pos (by rfl)]
      by_cases h : tg = n
      · have e : onTo n (.link x tg o l) = some (.link x tg o l) := if_pos h
        rw [List.filterMap_cons_some e]
        cases l with
        | none =>
          rw [List.filterMap_cons_none (by rfl), ih, List.filterMap_cons_none (by rfl)]
        | some l =>
          have e2 : lstEnt t n (.link x tg o (some l)) = some (l, t, x) := if_pos h
          rw [List.filterMap_cons_some (b := l) (by rfl), ih, List.filterMap_cons_some e2, List.map_cons]
      · have e : onTo n (.link x tg o l) = none := if_neg h
        have e2 : lstEnt t n (.link x tg o l) = none := by
          unfold lstEnt
          cases l with
          | none => rfl
          | some l => exact if_neg h
        rw [List.filterMap_cons_none e, ih, List.filterMap_cons_none e2]
theorem lnames_len {ts : Tabs} {n : Str} (h : Few ts) : (lnames ts n).length ≤ 20 * ts.length := by
  unfold lnames listsOf
  rw [List.length_map]
  have key : ∀ l : Tabs, (∀ t ∈ l, t.2.length ≤ 20) → (l.flatMap fun t => t.2.filterMap (lstEnt t.1 n)).length ≤ 20 * l.length := fun l => by
    induction l with
    | nil => exact fun _ => Nat.le_refl _
    | cons t r ih =>
      intro h
      have a := h t List.mem_cons_self
      have b := ih fun y hy => h y (List.mem_cons_of_mem _ hy)
      have c := List.length_filterMap_le (lstEnt t.1 n) t.2
      rw [List.flatMap_cons, List.length_append, List.length_cons, Nat.mul_succ]
      omega
  exact key ts h.2
section
variable {base : Heap} {mg : Str → Option Value} {K : PySem.W.Frag} {w : World} {P : Program}
end
end LP
namespace LP
open PySem L2
open Evl (Ex)
/-! ### whole numbers and indexes -/
def isInQ : PyData → Bool
  | .int _ => true
  | .bool _ => true
  | _ => false
def intD : PyData → Bool
  | .int _ => true
  | _ => false
def idxD (n : Nat) : PyData → Bool
  | .int i => decide (0 ≤ i) && decide (i < (n : Int))
  | _ => false
section
variable {K : PySem.W.Frag} {H : Hp} {Q : VK} {v : V}
theorem w_isInQ {d : PyData} (h : Dp K H v d) (q : Q (.bl (isInQ d)) H) : rIsi K [v, .ty "int"] H Q := by
  refine w_isi (dp_ty h) ?_ q
  cases d with
  | none => show kitB "NoneType" "int" = some false; decide +kernel
  | bool b => show kitB "bool" "int" = some true; decide +kernel
  | int i => show kitB "int" "int" = some true; decide +kernel
  | str x => show kitB "str" "int" = some false; decide +kernel
  | list l => show kitB "list" "int" = some false; decide +kernel
  | tuple l => show kitB "tuple" "int" = some false; decide +kernel
  | dict l => show kitB "dict" "int" = some false; decide +kernel
end
section
variable {base : Heap} {mg : Str → Option Value} {K : PySem.W.Frag} {w : World} {P : Program}
theorem ok_is_integer {f : Addr} {fd : FuncData} (D : C8.Def K mg "is_integer" s_is_integer f fd) (b : Binds K fd ["value"] []) (B : Blt mg) : C8.Cal P w K mg base 1 "is_integer" (spAsk K intD) [] := by
  have sc : FnScope ["value"] ["value"] (C8.fnScope s_is_integer) := C8.fnScope_by (by decide +kernel)
  refine C8.cal0 D b .nil sc (fun vs H Q E h => ?_) (fun cdv A outer s H vs Q E hr h => ?_)
  · obtain ⟨_, _, rfl, _⟩ := h
    rfl
  · obtain ⟨v, d, rfl, hd, hl, k⟩ := h
    refine ⟨_, (pss_one (ps_ret (pe_and (pe_callB (call_isiK1 (K := K) rfl) (by rfl) B.isinstance_ (by decide +kernel) (pa_cons (pv 0) (pa_cons (pe_bltn (v := .ty "int") (u := .type "int") (by rfl) B.int_ (by decide +kernel) rfl) pa_nil))) (pe_one (pe_not (pe_callB (call_isiK1 (K := K) rfl) (by rfl) B.isinstance_ (by decide +kernel) (pa_cons (pv 0) (pa_cons (pe_bltn (v := .ty "bool") (u := .type "bool") (by rfl) B.bool_ (by decide +kernel) rfl) pa_nil)))))))), ?_⟩
    walk_at "w"
    refine w_isInQ hd ?_
    cases hi : isInQ d with
    | false =>
      walk_at "w"
      have : intD d = false := by cases d <;> first | rfl | cases hi
      rw [this] at k
      exact k
    | true =>
      walk_at "w"
      refine w_isBoQ hd ?_
      have : intD d = !isBoQ d := by cases d <;> first | rfl | cases hi
      rw [this] at k
      walk_at "w"
      exact k
def spIndex (K : PySem.W.Frag) : Sp := fun vs H Q _ => ∃ (v : V) (d : PyData) (n : Nat), vs = [v, .int n] ∧ Dp K H v d ∧ (∀ x, d = .str x → x.length ≤ 4000) ∧ Q (.bl (idxD n d)) H
theorem ok_is_index {f : Addr} {fd : FuncData} (D : C8.Def K mg "is_index" s_is_index f fd) (b : Binds K fd ["value", "count"] []) (c_is_integer : C8.Cal P w K mg base 1 "is_integer" (spAsk K intD) []) : C8.Cal P w K mg base 2 "is_index" (spIndex K) [] := by
  have sc : FnScope ["value", "count"] ["value", "count"] (C8.fnScope s_is_index) := C8.fnScope_by (by decide +kernel)
  refine C8.cal0 D b .nil sc (fun vs H Q E h => ?_) (fun cdv A outer s H vs Q E hr h => ?_)
  · obtain ⟨_, _, _, rfl, _⟩ := h
    rfl
  · obtain ⟨v, d, n, rfl, hd, hl, k⟩ := h
    refine ⟨_, (pss_one (ps_ret (pe_and (C8.pe_c c_is_integer hr (by decide) rfl (pa_cons (pv 0) pa_nil)) (pe_one (pe_chain op_le op_lt pe_int (pv 0) (pv 1)))))), ?_⟩
    walk_at "w"
    refine ⟨v, d, rfl, hd, hl, ?_⟩
    cases hi : intD d with
    | false =>
      walk_at "w"
      have : idxD n d = false := by cases d <;> first | rfl | cases hi
      rw [this] at k
      exact k
    | true =>
      obtain ⟨i, rfl⟩ : ∃ i, d = .int i := by cases d <;> first | exact ⟨_, rfl⟩ | cases hi
      cases hd
      walk_at "w"
      have k : Q (.bl (decide (0 ≤ i) && decide (i < (n : Int)))) H := k
      refine iteD (fun h1 => ?_) (fun h1 => ?_)
      · rw [decide_eq_true h1, Bool.true_and] at k
        walk_at "w"
        exact k
      · rw [decide_eq_false h1, Bool.false_and] at k
        walk_at "w"
        exact k
end
end LP
namespace LP
open PySem L2
open Evl (Ex)
/-! ### rows of cells -/
def flatD : PyData → Bool
  | .none => true
  | .bool _ => true
  | .int _ => true
  | .str _ => true
  | _ => false
def cellV : PyData → V
  | .bool b => .bl b
  | .int i => .int i
  | .str x => .str x
  | _ => .non
abbrev RowsD := List (Str × List (List PyData))
def RowAt (K : PySem.W.Frag) (H : Hp) (v : V) (r : List PyData) : Prop := ∃ a, v = .ref a ∧ SqT K H a (r.map cellV)
theorem RowAt.ext {K : PySem.W.Frag} {H H' : Hp} (e : Ex H H') {v : V} {r : List PyData} (h : RowAt K H v r) : RowAt K H' v r := by
  obtain ⟨a, ev, ha⟩ := h
  exact ⟨a, ev, Evl.ex_t e ha⟩
theorem cell_dp {K : PySem.W.Frag} {H : Hp} {d : PyData} (h : flatD d = true) : Dp K H (cellV d) d := by
  cases d with
  | none => exact .non
  | bool b => exact .bl b
  | int i => exact .int i
  | str x => exact .str x
  | _ => cases h
theorem dp_cell {K : PySem.W.Frag} {H : Hp} {v : V} {d : PyData} (h : Dp K H v d) (f : flatD d = true) : v = cellV d := by
  cases h with
  | non => rfl
  | bl b => rfl
  | int i => rfl
  | str x => rfl
  | _ => cases f
def cnt (rs : RowsD) (n : Str) : Nat := ((rs.lookup n).getD []).length
def tooLarge : Int := 1000000000000000000000000000000
def numD : PyData → Bool
  | .int i => decide (-tooLarge < i) && decide (i < tooLarge)
  | _ => false
/-- whether a value may stand in a column -/
def fitD (rs : RowsD) (c : Col) : PyData → Bool
  | .none => c.opt
  | d => match c with
    | .plain true _ => isBoQ d
    | .plain false _ => numD d
    | .word _ _ => strD wordB d
    | .link _ t _ _ => idxD (cnt rs t) d
/-- a row that may not stand: None for its form, or the first column whose value does not fit -/
def rowF (rs : RowsD) (cs : List Col) : PyData → Option (Option Str)
  | .tuple r => if r.length = cs.length then ((cs.zip r).find? fun p => !fitD rs p.1 p.2).map fun p => some p.1.name else some none
  | _ => some none
def cellsD : PyData → List PyData
  | .tuple r => r
  | _ => []
def rowsF (rs : RowsD) (cs : List Col) : Nat → List PyData → Sum (Nat × Option Str) (List (List PyData))
  | _, [] => .inr []
  | k, d :: r => match rowF rs cs d with
    | some o => .inl (k, o)
    | none => match rowsF rs cs (k + 1) r with
      | .inl e => .inl e
      | .inr l => .inr (cellsD d :: l)
def storeF (given : List (Str × List PyData)) : RowsD → Tabs → Sum (Str × Nat × Option Str) RowsD
  | rs, [] => .inr rs
  | rs, t :: r => match rowsF rs t.2 0 ((given.lookup t.1).getD []) with
    | .inl (k, o) => .inl (t.1, k, o)
    | .inr l => storeF given (rs ++ [(t.1, l)]) r
theorem fit_flat {rs : RowsD} {c : Col} {d : PyData} (h : fitD rs c d = true) : flatD d = true := by
  cases d with
  | none => rfl
  | bool b => rfl
  | int i => rfl
  | str x => rfl
  | _ =>
    cases c with
    | plain f n => cases f <;> cases h
    | word n o => cases h
    | link n t o l => cases h
theorem row_fits {rs : RowsD} {cs : List Col} {d : PyData} (h : rowF rs cs d = none) : ∃ r, d = .tuple r ∧ r.length = cs.length ∧ ∀ p ∈ cs.zip r, fitD rs p.1 p.2 = true := by
  cases d with
  | tuple r =>
    have h : (if r.length = cs.length then ((cs.zip r).find? fun p => !fitD rs p.1 p.2).map (fun p => some p.1.name) else some none) = none := h
    by_cases l : r.length = cs.length
    · rw [if_pos l, Option.map_eq_none_iff, List.find?_eq_none] at h
      refine ⟨r, rfl, l, fun p hp => ?_⟩
      have := h p hp
      simpa using this
    · rw [if_neg l] at h
      cases h
  | _ => cases h
theorem row_flat {rs : RowsD} {cs : List Col} {d : PyData} (h : rowF rs cs d = none) : ∀ x ∈ cellsD d, flatD x = true := by
  obtain ⟨r, rfl, l, hf⟩ := row_fits h
  intro x hx
  obtain ⟨i, hi, rfl⟩ := List.mem_iff_getElem.mp hx
  have hi : i < r.length := hi
  exact fit_flat (hf (cs[i]'(by omega), r[i]) (List.mem_iff_getElem.mpr ⟨i, by rw [List.length_zip]; omega, by rw [List.getElem_zip]⟩))
/-! ### a store in the heap -/
def RowsEnt (K : PySem.W.Frag) (H : Hp) (kv : Key × V) (r : Str × List (List PyData)) : Prop := kv.1 = .inr r.1 ∧ ∃ l vs, kv.2 = .ref l ∧ H l = some (.lst vs) ∧ Paired (RowAt K H) vs r.2
theorem RowsEnt.ext {K : PySem.W.Frag} {H H' : Hp} (e : Ex H H') {kv : Key × V} {r : Str × List (List PyData)} (h : RowsEnt K H kv r) : RowsEnt K H' kv r := by
  obtain ⟨e1, l, vs, e2, hl, hv⟩ := h
  exact ⟨e1, l, vs, e2, e _ _ hl, paired_imp (fun _ _ h => h.ext e) hv⟩
structure StP (K : PySem.W.Frag) (CS : Addr) (H : Hp) (p sch dr : Addr) (kvs : List (Key × V)) (rs : RowsD) : Prop where
  ins : ∃ dx fs, H p = some (.ins CS dx fs) ∧ fs.lookup ("schema" : Str) = some (.ref sch) ∧ fs.lookup ("_rows" : Str) = some (.ref dr) ∧ ∀ m : Str, m ≠ "schema" → m ≠ "_rows" → fs.lookup m = none
  dict : H dr = some (.dK kvs)
  rows : Paired (RowsEnt K H) kvs rs
theorem StP.ext {K : PySem.W.Frag} {CS : Addr} {H H' : Hp} {p sch dr : Addr} {kvs : List (Key × V)} {rs : RowsD} (e : Ex H H') (h : StP K CS H p sch dr kvs rs) : StP K CS H' p sch dr kvs rs := by
  obtain ⟨⟨dx, fs, h1, h2⟩, h3, h4⟩ := h
  exact ⟨⟨dx, fs, e _ _ h1, h2⟩, e _ _ h3, paired_imp (fun _ _ h => h.ext e) h4⟩
theorem ent_get {K : PySem.W.Frag} {H : Hp} : ∀ {kvs : List (Key × V)} {rs : RowsD} {n : Str} {rows : List (List PyData)}, Paired (RowsEnt K H) kvs rs → rs.lookup n = some rows → ∃ l vs, valV kvs (Sum.inr n : Key) = some (.ref l) ∧ H l = some (.lst vs) ∧ Paired (RowAt K H) vs rows
  | _, _, _, _, .nil, h => by cases h
  | kv :: kvs, r :: rs, n, rows, .cons h q, e => by
    obtain ⟨e1, l, vs, e2, hl, hv⟩ := h
    rw [List.lookup_cons] at e
    by_cases z : n = r.1
    · rw [show (n == r.1) = true by rw [z]; exact beq_self_eq_true _] at e
      cases e
      exact ⟨l, vs, by rw [← e2]; exact valV_pos (p := kv) (by rw [e1, z]), hl, hv⟩
    · rw [show (n == r.1) = false from beq_eq_false_iff_ne.mpr z] at e
      obtain ⟨l', vs', q1, q2, q3⟩ := ent_get q e
      exact ⟨l', vs', (valV_neg (p := kv) (fun y => z (by rw [e1] at y; exact (Sum.inr.inj y).symm))).trans q1, q2, q3⟩
end LP
namespace LP
open PySem L2
open Evl (Ex)
/-! ### an own exception over ValueError with three fields -/
def spEx3 (C : Addr) (f g e : Str) : Sp := fun vs H Q _ => ∃ (a : Addr) (v u z : V), vs = [.ref a, v, u, z] ∧ H a = some (exo a C none) ∧
  ∀ dx, H dx = none → dx ≠ a → Q .non (upd (upd (upd (upd H dx (exd dx [(f, v)])) a (exo a C (some dx))) dx (exd dx [(g, u), (f, v)])) dx (exd dx [(e, z), (g, u), (f, v)]))
def Bad3 (C : Addr) (f g e : Str) (v u z : V) (H : Hp) (E : XK) : Prop := ∀ (dd : Addr) (H' : Hp), Ex H H' → H' dd = some (.xd [(e, z), (g, u), (f, v)]) → E (.ref C) (some dd) H'
theorem raised3 {H : Hp} {C : Addr} {f g e : Str} {v u z : V} {E : XK} (k : Bad3 C f g e v u z H E) (a : Addr) (ha : H a = none) : spEx3 C f g e [.ref a, v, u, z] (upd H a (exo a C none))
    (fun x H2 => x = .non ∧ ∃ (d : Addr) (fs : List (Str × V)), H2 a = some (exo a C (some d)) ∧ H2 d = some (exd d fs) ∧ H d = none ∧ E (.ref C) (some d) (upd (L2.del H2 a) d (.xd fs))) (fun _ _ _ => False) := by
  refine ⟨a, v, u, z, rfl, upd_same, fun dx hdx ne => ⟨rfl, dx, _, by rw [upd_ne ne.symm, upd_ne ne.symm]; exact upd_same, upd_same, ?_, ?_⟩⟩
  · rw [upd_ne ne] at hdx
    exact hdx
  · rw [upd_ne ne] at hdx
    refine k dx _ (fun b o hb => ?_) upd_same
    have b1 : b ≠ dx := ne_of_none hb hdx
    have b2 : b ≠ a := ne_of_none hb ha
    rw [upd_ne b1, L2.del_ne b2, upd_ne b1, upd_ne b1, upd_ne b2, upd_ne b1, upd_ne b2]
    exact hb
section
variable {base : Heap} {mg : Str → Option Value} {K : PySem.W.Frag} {w : World} {P : Program} {CS : Addr}
theorem ok_badstore {f : Addr} {fd : FuncData} (T : OexC K CS) (n1 : PySem.W.findIn K (.ref CS) "table" = some none) (n2 : PySem.W.findIn K (.ref CS) "at" = some none) (n3 : PySem.W.findIn K (.ref CS) "column" = some none) (F : C8.Fun K "__init__" "BadStore.__init__" s_BadStore___init__ f fd) :
    FnOk P w K mg base C8.CX0 1 f fd ["self", "table", "at", "column"] (spEx3 CS "table" "at" "column") := by
  have sc : FnScope ["self", "table", "at", "column"] ["self", "table", "at", "column"] (C8.fnScope s_BadStore___init__) := C8.fnScope_by (by decide +kernel)
  refine C8.fn0 F sc (fun vs H Q E h => ?_) (fun cdv A outer s H vs Q E hr h => ?_)
  · obtain ⟨_, _, _, _, rfl, _⟩ := h
    rfl
  · obtain ⟨a, v, u, z, rfl, ha, k⟩ := h
    refine ⟨_, (pss_cons (ps_os2 (K := K) rfl (pv 0) (pv 1) rfl)
        (pss_cons (ps_os2 (K := K) rfl (pv 0) (pv 2) rfl)
        (pss_one (ps_os2 (K := K) rfl (pv 0) (pv 3) rfl)))), ?_⟩
    walk_at "w"
    refine ⟨a, CS, rfl, T, n1, .inl ⟨ha, fun dx hdx ne => ?_⟩⟩
    walk_at "w"
    refine ⟨a, CS, rfl, T, n2, .inr ⟨dx, _, upd_same, by rw [upd_ne ne]; exact upd_same, by show 1 ≤ 900; omega, ?_⟩⟩
    walk_at "w"
    exact ⟨a, CS, rfl, T, n3, .inr ⟨dx, _, by rw [upd_ne ne.symm]; exact upd_same, upd_same, by show 2 ≤ 900; omega, k dx hdx ne⟩⟩
end
end LP
namespace LP
open PySem L2
open Evl (Ex)
/-- what the class Store's own names hold -/
structure StoC (K : PySem.W.Frag) (CS : Addr) : Prop where
  cls : Cls K CS
  schema_ : NoAttr K CS "schema"
  _rows_ : NoAttr K CS "_rows"
structure CnsS (K : PySem.W.Frag) (mg : Str → Option Value) (CS : Addr) : Prop where
  TOO_LARGE_ : ∃ u, mg "TOO_LARGE" = some u ∧ RelV (.int tooLarge) u
  Store_ : ∃ u, mg "Store" = some u ∧ RelV (.ref CS) u
def spFits7 (K : PySem.W.Frag) (CS : Addr) : Sp := fun vs H Q _ => ∃ (p sch dr : Addr) (kvs : List (Key × V)) (rs : RowsD) (cv v : V) (c : Col) (d : PyData), vs = [.ref p, cv, v] ∧ StP K CS H p sch dr kvs rs ∧ ColAt H cv c ∧ Dp K H v d ∧ (∀ x, d = .str x → x.length ≤ 4000) ∧
  (c.isLink = true → ∃ rows, rs.lookup c.target = some rows ∧ rows.length ≤ 100000) ∧ ∀ H', Ex H H' → Q (.bl (fitD rs c d)) H'
theorem dp_non {K : PySem.W.Frag} {H : Hp} {v : V} {d : PyData} (h : Dp K H v d) : v = .non ↔ d = .none := by
  cases h <;> simp
theorem fit_some {rs : RowsD} {c : Col} {d : PyData} (h : d ≠ .none) : fitD rs c d = (match c with
    | .plain true _ => isBoQ d
    | .plain false _ => numD d
    | .word _ _ => strD wordB d
    | .link _ t _ _ => idxD (cnt rs t) d) := by
  cases d <;> first | rfl | exact absurd rfl h
section
variable {base : Heap} {mg : Str → Option Value} {K : PySem.W.Frag} {w : World} {P : Program} {CS ra C : Addr}
theorem ok_fits7 {f : Addr} {fd : FuncData} (S : StoC K CS) (me : Meth K CS "_fits" f) (F : C8.Fun K "_fits" "Store._fits" s_Store__fits f fd) (b : Binds K fd ["self", "column", "value"] []) (B : Blt mg) (T : CnsS K mg CS)
    (c_may_lack : C8.Cal P w K mg base 2 "may_lack" spMayLack []) (c_is_integer : C8.Cal P w K mg base 1 "is_integer" (spAsk K intD) []) (c_is_word : C8.Cal P w K mg base 2 "is_word" (spAsk K (strD wordB)) []) (c_is_index : C8.Cal P w K mg base 2 "is_index" (spIndex K) []) :
    C8.Met P w K mg base 3 CS "_fits" (spFits7 K CS) [] := by
  have sc : FnScope ["self", "column", "value"] ["self", "column", "value"] (C8.fnScope s_Store__fits) := C8.fnScope_by (by decide +kernel)
  refine C8.met0 S.cls me F b sc (fun vs H Q E h => ?_) (fun cdv A outer s H vs Q E hr h => ?_)
  · obtain ⟨_, _, _, _, _, _, _, _, _, rfl, _⟩ := h
    rfl
  · obtain ⟨p, sch, dr, kvs, rs, cv, v, c, d, rfl, hP, hc, hd, hs, hl, k⟩ := h
    have k := k H (Ex.refl _)
    refine ⟨_, (pss_cons (ps_if (pt_cmpR op_isN' (pv 2) pe_non (nomark _))
        (pss_one (ps_ret (C8.pe_c c_may_lack hr (by decide) rfl (pa_cons (pv 1) pa_nil))))
        pss_nil)
        (pss_cons (ps_if (pt_cmpR op_eq (pe_ix (ix_tupK (K := K) rfl) (pv 1) pe_int (fun _ _ => rfl)) pe_str (nomark _))
        (pss_one (ps_ret (pe_callB (call_isiK1 (K := K) rfl) (by rfl) B.isinstance_ (by decide +kernel) (pa_cons (pv 2) (pa_cons (pe_bltn (v := .ty "bool") (u := .type "bool") (by rfl) B.bool_ (by decide +kernel) rfl) pa_nil)))))
        pss_nil)
        (pss_cons (ps_if (pt_cmpR op_eq (pe_ix (ix_tupK (K := K) rfl) (pv 1) pe_int (fun _ _ => rfl)) pe_str (nomark _))
        (pss_one (ps_ret (pe_and (C8.pe_c c_is_integer hr (by decide) rfl (pa_cons (pv 2) pa_nil)) (pe_one (pe_chain op_lt op_lt (pe_un un_neg (C8.pe_gc rfl T.TOO_LARGE_)) (pv 2) (C8.pe_gc rfl T.TOO_LARGE_))))))
        pss_nil)
        (pss_cons (ps_if (pt_cmpR op_eq (pe_ix (ix_tupK (K := K) rfl) (pv 1) pe_int (fun _ _ => rfl)) pe_str (nomark _))
        (pss_one (ps_ret (C8.pe_c c_is_word hr (by decide) rfl (pa_cons (pv 2) pa_nil))))
        pss_nil)
        (pss_one (ps_ret (C8.pe_c c_is_index hr (by decide) rfl (pa_cons (pv 2) (pa_cons (pe_callB (call_len_seqK (K := K) rfl) (by rfl) B.len_ (by decide +kernel) (pa_cons (pe_dget (hu_of hr) (pe_fldK (K := K) rfl (pv 0) rfl) (pe_ix (ix_tupK (K := K) rfl) (pv 1) pe_int (fun _ _ => rfl)) (fun _ _ => rfl)) pa_nil)) pa_nil))))))))), ?_⟩
    obtain ⟨ca, rfl, hca⟩ := id hc
    obtain ⟨⟨dx, fs, hp, h1, h2, h3⟩, hdr, hrows⟩ := hP
    walk_at "w"
    by_cases hn : d = .none
    · subst hn
      have ev : v = .non := (dp_non hd).mpr rfl
      subst ev
      refine iteD (fun _ => ?_) (fun h => absurd rfl h)
      walk_at "w"
      exact ⟨.ref ca, c, rfl, hc, k⟩
    have nv : ¬ v = .non := fun z => hn ((dp_non hd).mp z)
    rw [fit_some hn] at k
    refine iteD (fun h => absurd h nv) (fun _ => ?_)
    walk_at "w"
    cases c with
    | plain fl nm =>
      cases fl with
      | true =>
        have hca : H ca = some (.tup [.str "flag", .str nm]) := hca
        walk_at "w"
        refine iteD (fun _ => ?_) (fun h => absurd rfl h)
        walk_at "w"
        exact w_isBoQ hd k
      | false =>
        have hca : H ca = some (.tup [.str "number", .str nm]) := hca
        walk_at "w"
        refine iteD (fun h => absurd (V.str.inj h) (by show ¬ (("number" : Str) = "flag"); decide +kernel)) (fun _ => ?_)
        walk_at "w"
        refine iteD (fun _ => ?_) (fun h => absurd rfl h)
        walk_at "w"
        refine ⟨v, d, rfl, hd, hs, ?_⟩
        have k : Q (.bl (numD d)) H := k
        cases hi : intD d with
        | false =>
          have : numD d = false := by cases d <;> first | rfl | cases hi
          rw [this] at k
          walk_at "w"
          exact k
        | true =>
          obtain ⟨i, rfl⟩ : ∃ i, d = .int i := by cases d <;> first | exact ⟨_, rfl⟩ | cases hi
          cases hd
          have k : Q (.bl (decide (-tooLarge < i) && decide (i < tooLarge))) H := k
          walk_at "w"
          refine iteD (fun h1 => ?_) (fun h1 => ?_)
          · rw [decide_eq_true h1, Bool.true_and] at k
            walk_at "w"
            exact k
          · rw [decide_eq_false h1, Bool.false_and] at k
            walk_at "w"
            exact k
    | word nm o =>
      have hca : H ca = some (.tup [.str "word", .str nm, .bl o]) := hca
      walk_at "w"
      refine iteD (fun h => absurd (V.str.inj h) (by show ¬ (("word" : Str) = "flag"); decide +kernel)) (fun _ => ?_)
      walk_at "w"
      refine iteD (fun h => absurd (V.str.inj h) (by show ¬ (("word" : Str) = "number"); decide +kernel)) (fun _ => ?_)
      walk_at "w"
      refine iteD (fun _ => ?_) (fun h => absurd rfl h)
      walk_at "w"
      exact ⟨v, d, rfl, hd, hs, k⟩
    | link nm tg o l =>
      have hca : H ca = some (.tup [.str "link", .str nm, .str tg, .bl o, vOpt l]) := hca
      obtain ⟨rows, hr', lr⟩ := hl rfl
      have hr' : rs.lookup tg = some rows := hr'
      obtain ⟨la, lvs, q1, q2, q3⟩ := ent_get hrows hr'
      have ll := paired_len q3
      have ec : cnt rs tg = lvs.length := by unfold cnt; rw [hr', ll]; rfl
      have k : Q (.bl (idxD (cnt rs tg) d)) H := k
      rw [ec] at k
      walk_at "w"
      refine iteD (fun h => absurd (V.str.inj h) (by show ¬ (("link" : Str) = "flag"); decide +kernel)) (fun _ => ?_)
      walk_at "w"
      refine iteD (fun h => absurd (V.str.inj h) (by show ¬ (("link" : Str) = "number"); decide +kernel)) (fun _ => ?_)
      walk_at "w"
      refine iteD (fun h => absurd (V.str.inj h) (by show ¬ (("link" : Str) = "word"); decide +kernel)) (fun _ => ?_)
      walk_at "w"
      refine w_kFld hp S.cls S._rows_ h2 ?_
      walk_at "w"
      refine ⟨dr, .ref la, rfl, q1 ▸ DGet.k (k := Sum.inr tg) hdr, ?_⟩
      walk_at "w"
      exact ⟨v, d, _, rfl, hd, hs, k⟩
end
end LP
namespace LP
open PySem L2
open Evl (Ex)
def spCheck (K : PySem.W.Frag) (CS CB C : Addr) : Sp := fun vs H Q E => ∃ (p sch dr : Addr) (kvs : List (Key × V)) (rs : RowsD) (t : Str) (at_ v : V) (d : PyData) (u : Str) (ts : Tabs) (cs : List Col), vs = [.ref p, .str t, at_, v] ∧ StP K CS H p sch dr kvs rs ∧ SchAt C H sch u ts ∧ ts.lookup t = some cs ∧ cs.length ≤ 1000 ∧
  (∀ c ∈ cs, c.isLink = true → ∃ rows, rs.lookup c.target = some rows ∧ rows.length ≤ 100000) ∧ Dp K H v d ∧ SzD d ∧ (rowF rs cs d = none → ∀ H', Ex H H' → Q .non H') ∧ ∀ o, rowF rs cs d = some o → Bad3 CB "table" "at" "column" (.str t) at_ (vOpt o) H E
theorem paired_ix {α β : Type} {R : α → β → Prop} : ∀ {xs : List α} {zs : List β} {i : Nat} {x : α}, Paired R xs zs → xs[i]? = some x → ∃ z, zs[i]? = some z ∧ R x z
  | _, _, _, _, .nil, h => by cases h
  | _ :: _, z :: _, 0, x, .cons h _, e => ⟨z, rfl, by cases e; exact h⟩
  | _ :: _, _ :: _, i + 1, x, .cons _ q, e => paired_ix (i := i) q e
theorem dpAll_ix {K : PySem.W.Frag} {H : Hp} : ∀ {vs : List V} {ds : List PyData} {i : Nat} {v : V}, DpAll K H vs ds → vs[i]? = some v → ∃ d, ds[i]? = some d ∧ Dp K H v d
  | _, _, _, _, .nil, h => by cases h
  | _ :: _, d :: _, 0, v, .cons h _, e => ⟨d, rfl, by cases e; exact h⟩
  | _ :: _, _ :: _, i + 1, v, .cons _ q, e => dpAll_ix (i := i) q e
section
variable {base : Heap} {mg : Str → Option Value} {K : PySem.W.Frag} {w : World} {P : Program} {CS CB CN C fI : Addr} {fdI : FuncData}
theorem ok_check_row {f : Addr} {fd : FuncData} (S : StoC K CS) (me : Meth K CS "_check_row" f) (F : C8.Fun K "_check_row" "Store._check_row" s_Store__check_row f fd) (b : Binds K fd ["self", "table", "at", "row"] []) (B : Blt mg)
    (NX : ExV P w K mg base "BadStore" CB fI fdI ["self", "table", "at", "column"] 1 (spEx3 CB "table" "at" "column")) (m_columns : MetX P w K mg base 3 C "columns" (spColumns K C CN)) (c__fits : C8.Met P w K mg base 3 CS "_fits" (spFits7 K CS) []) :
    MetX P w K mg base 4 CS "_check_row" (spCheck K CS CB C) := by
  have sc : FnScope ["self", "table", "at", "row", "columns", "column", "value"] ["self", "table", "at", "row"] (C8.fnScope s_Store__check_row) := C8.fnScope_by (by decide +kernel)
  refine ⟨f, fd, _, S.cls, me, fnX F sc (fun vs H Q E h => ?_) (fun cdv A outer s H vs Q E hr h => ?_), b⟩
  · obtain ⟨_, _, _, _, _, _, _, _, _, _, _, _, rfl, _⟩ := h
    rfl
  · obtain ⟨p, sch, dr, kvs, rs, t, at_, v, d, u, ts, cs, rfl, hP, hS, hcs, lc, lk, hd, sz, kN, kB⟩ := h
    refine ⟨_, (pss_cons (ps_set (i := 4) sc.nd rfl (Or.inl rfl) ((pe_mx m_columns hr (by decide) passF (pe_fldK (K := K) rfl (pv 0) rfl) (pa_cons (pv 1) pa_nil))))
        (pss_cons (ps_if (PW.pt (pw_or (pt_not (pt_val (pe_callB (call_isiK1 (K := K) rfl) (by rfl) B.isinstance_ (by decide +kernel) (pa_cons (pv 3) (pa_cons (pe_bltn (v := .ty "tuple") (u := .type "tuple") (by rfl) B.tuple_ (by decide +kernel) rfl) pa_nil))))) (pw_or1 (pt_cmpR op_ne (pe_callB (call_len_seqK (K := K) rfl) (by rfl) B.len_ (by decide +kernel) (pa_cons (pv 3) pa_nil)) (pe_callB (call_len_seqK (K := K) rfl) (by rfl) B.len_ (by decide +kernel) (pa_cons (pv 4) pa_nil)) (nomark _)))))
        (pss_one (ps_raiseV rfl (takes_of rfl rfl rfl rfl) (pmk_V NX hr (by decide) rfl (pa_cons (pv 1) (pa_cons (pv 2) (pa_cons pe_non pa_nil))))))
        pss_nil)
        (pss_one (ps_for (passes_of rfl) rfl ((pi_zipTK (K := K) rfl (by rfl) B.zip_ (pa_cons (pv 4) (pa_cons (pv 3) pa_nil)))) (pg_tupK (K := K) (n := 2) rfl rfl (pgs_cons (pg_name (i := 5) sc.nd rfl (Or.inl rfl)) (pgs_cons (pg_name (i := 6) sc.nd rfl (Or.inl rfl)) pgs_nil)))
        (pss_one (ps_if (pt_not (pt_val (C8.pe_mt c__fits hr (by decide) (pv 0) (pa_cons (pv 5) (pa_cons (pv 6) pa_nil)))))
        (pss_one (ps_raiseV rfl (takes_of rfl rfl rfl rfl) (pmk_V NX hr (by decide) rfl (pa_cons (pv 1) (pa_cons (pv 2) (pa_cons (pe_ix (ix_tupK (K := K) rfl) (pv 5) pe_int (fun _ _ => rfl)) pa_nil))))))
        pss_nil)))))), ?_⟩
    obtain ⟨dx, fs, hp, h1, h2, h3⟩ := hP.ins
    obtain ⟨_, _, _, _, dx2, fs2, _, _, _, _, hp2, hf2, _⟩ := hS.ex
    walk_at "w"
    refine w_kFld hp S.cls S.schema_ h1 ?_
    refine w_kMeth hp2 (hf2.no _ (by decide +kernel)) ?_
    walk_at "w"
    refine ⟨sch, .str t, .str t, u, ts, rfl, hS, .str t, .inl ⟨t, cs, rfl, hcs, fun ca cvs hca hcv => ?_⟩⟩
    have lcv := paired_len hcv
    walk_at "w"
    refine w_isTuQ hd ?_
    cases hb : isTuQ d with
    | false =>
      have e0 : rowF rs cs d = some none := by cases d <;> first | rfl | cases hb
      walk_at "w"
      exact ⟨by show 3 ≤ 1000; omega, fun a ha => raised3 (kB none e0) a ha⟩
    | true =>
    obtain ⟨r, rfl⟩ : ∃ r, d = .tuple r := by cases d <;> first | exact ⟨_, rfl⟩ | cases hb
    cases hd with
    | @tup ra ys _ hra hys =>
    have lys := dpAll_len hys
    have er : rowF rs cs (.tuple r) = if r.length = cs.length then ((cs.zip r).find? fun p => !fitD rs p.1 p.2).map (fun p => some p.1.name) else some none := rfl
    walk_at "w"
    refine iteND (fun h => ?_) (fun h => ?_)
    · have ne : ¬ r.length = cs.length := fun z => h (by rw [lcv, ← z, lys])
      walk_at "w"
      exact ⟨by show 3 ≤ 1000; omega, fun a ha => raised3 (kB none (by rw [er, if_neg ne])) a ha⟩
    have lrc : r.length = cs.length := by
      injection h with h
      omega
    rw [er, if_pos lrc] at kN kB
    walk_at "w"
    refine w_iZipA ?_
    walk_at "w"
    refine ⟨ca, ra, cvs, ys, rfl, .inr ⟨SqT.of hca, hra, ?_⟩⟩
    refine loopZT (cs.zip r) (R := fun x y z => ColAt H x z.1 ∧ Dp K H y z.2) (by rw [List.length_zip]; omega) (by rw [List.length_zip]; omega) (fun i x y hx hy => ?_)
      (fun rem σ' H' => Ex H H' ∧ ((cs.zip r).find? fun p => !fitD rs p.1 p.2) = (rem.find? fun p => !fitD rs p.1 p.2) ∧ ∃ x5 x6, σ' = [some (.ref p), some (.str t), some at_, some (.ref ra), some (.ref ca), x5, x6]) ⟨Ex.refl _, rfl, _, _, rfl⟩ (fun rem σ' H' h => ⟨Evl.ex_t h.1 (SqT.of hca), Evl.ex_t h.1 hra⟩) (fun x y z rem σ' H' T hR hin hT h => ?_) (fun σ' H' h => ?_)
    · obtain ⟨c, e1, q1⟩ := paired_ix hcv hx
      obtain ⟨d, e2, q2⟩ := dpAll_ix hys hy
      exact ⟨(c, d), by rw [List.getElem?_zip_eq_some]; exact ⟨e1, e2⟩, q1, q2⟩
    · obtain ⟨e1, ef, x5, x6, rfl⟩ := h
      obtain ⟨c, d⟩ := z
      obtain ⟨q1, q2⟩ := hR
      have q1 : ColAt H x c := q1
      have q2 : Dp K H y d := q2
      have inz : (c, d) ∈ cs.zip r := by
        obtain ⟨dd, e⟩ := hin
        rw [e]
        simp
      have inc : c ∈ cs := (List.of_mem_zip inz).1
      have ind : d ∈ r := (List.of_mem_zip inz).2
      have eT : Ex H' (upd H' T (.tup [x, y])) := Ex.new hT
      have fT : (upd H' T (.tup [x, y])) T = some (.tup [x, y]) := upd_same
      generalize (upd H' T (.tup [x, y])) = H1 at eT fT ⊢
      have e01 := e1.trans eT
      have hP1 := hP.ext e01
      obtain ⟨dx1, fs1, hp1, g1, g2, g3⟩ := hP1.ins
      walk_at "w"
      refine w_kMeth hp1 (g3 _ (by decide +kernel) (by decide +kernel)) ?_
      walk_at "w"
      refine ⟨p, sch, dr, kvs, rs, x, y, c, d, rfl, hP1, ColAt.ext e01 q1, dp_ext e01 q2, fun s e => sz r rfl d ind s e, fun hL => lk c inc hL, fun H2 e2 => ?_⟩
      have e02 := e01.trans e2
      cases hf : fitD rs c d with
      | true =>
        walk_at "w"
        refine ⟨e02, ?_, _, _, rfl⟩
        rw [ef, List.find?_cons, hf]
        rfl
      | false =>
        walk_at "w"
        obtain ⟨xa, rfl, hxa⟩ := ColAt.ext e02 q1
        refine w_ixT (SqT.of hxa) c.at1 ?_
        walk_at "w"
        have eo : (((cs.zip r).find? fun p => !fitD rs p.1 p.2).map fun p => some p.1.name) = some (some c.name) := by
          rw [ef, List.find?_cons, hf]
          rfl
        exact ⟨by show 3 ≤ 1000; omega, fun a ha => raised3 (fun dd H' e hdd => kB _ eo dd H' (e02.trans e) hdd) a ha⟩
    · obtain ⟨e1, ef, x5, x6, rfl⟩ := h
      exact kN (by rw [ef]; rfl) _ e1
end
end LP
namespace LP
open PySem L2
open Evl (Ex)
/-! ### what a store is made of -/
def GivEnt (K : PySem.W.Frag) (H : Hp) (kv : Key × V) (r : Str × List PyData) : Prop := kv.1 = .inr r.1 ∧ ∃ l vs, kv.2 = .ref l ∧ SqL K H l vs ∧ Paired (fun v d => Dp K H v d ∧ SzD d) vs r.2
theorem GivEnt.ext {K : PySem.W.Frag} {H H' : Hp} (e : Ex H H') {kv : Key × V} {r : Str × List PyData} (h : GivEnt K H kv r) : GivEnt K H' kv r := by
  obtain ⟨e1, l, vs, e2, hl, hv⟩ := h
  exact ⟨e1, l, vs, e2, Evl.ex_l e hl, paired_imp (fun _ _ h => ⟨dp_ext e h.1, h.2⟩) hv⟩
def GivenAt (K : PySem.W.Frag) (H : Hp) (v : V) (given : List (Str × List PyData)) : Prop := (v = .non ∧ given = []) ∨ ∃ g gkvs, v = .ref g ∧ H g = some (.dK gkvs) ∧ Paired (GivEnt K H) gkvs given
theorem giv_get {K : PySem.W.Frag} {H : Hp} : ∀ {kvs : List (Key × V)} {gs : List (Str × List PyData)} (n : Str), Paired (GivEnt K H) kvs gs →
    (valV kvs (Sum.inr n : Key) = none ∧ gs.lookup n = none) ∨ ∃ l vs ds, valV kvs (Sum.inr n : Key) = some (.ref l) ∧ gs.lookup n = some ds ∧ SqL K H l vs ∧ Paired (fun v d => Dp K H v d ∧ SzD d) vs ds
  | _, _, n, .nil => .inl ⟨rfl, rfl⟩
  | kv :: kvs, r :: gs, n, .cons h q => by
    obtain ⟨e1, l, vs, e2, hl, hv⟩ := h
    by_cases z : n = r.1
    · refine .inr ⟨l, vs, r.2, by rw [← e2]; exact valV_pos (p := kv) (by rw [e1, z]), ?_, hl, hv⟩
      rw [List.lookup_cons, show (n == r.1) = true by rw [z]; exact beq_self_eq_true _]
    · have e0 : valV (kv :: kvs) (Sum.inr n : Key) = valV kvs (Sum.inr n : Key) := valV_neg (p := kv) (fun y => z (by rw [e1] at y; exact (Sum.inr.inj y).symm))
      rw [e0, List.lookup_cons, show (n == r.1) = false from beq_eq_false_iff_ne.mpr z]
      exact giv_get n q
theorem rowsF_all {rs : RowsD} {cs : List Col} : ∀ {l : List PyData} {k : Nat}, (∀ d ∈ l, rowF rs cs d = none) → rowsF rs cs k l = .inr (l.map cellsD)
  | [], _, _ => rfl
  | d :: r, k, h => by
    rw [rowsF, h d List.mem_cons_self]
    show (match rowsF rs cs (k + 1) r with | .inl e => (Sum.inl e : Sum (Nat × Option Str) (List (List PyData))) | .inr l => .inr (cellsD d :: l)) = _
    rw [rowsF_all (l := r) fun x hx => h x (List.mem_cons_of_mem _ hx)]
    rfl
theorem rowsF_bad {rs : RowsD} {cs : List Col} {d : PyData} {o : Option Str} {r : List PyData} (hd : rowF rs cs d = some o) : ∀ {l : List PyData} {k : Nat}, (∀ x ∈ l, rowF rs cs x = none) → rowsF rs cs k (l ++ d :: r) = .inl (k + l.length, o)
  | [], k, _ => by
    show rowsF rs cs k (d :: r) = _
    rw [rowsF, hd]
    rfl
  | x :: l, k, h => by
    rw [List.cons_append, rowsF, h x List.mem_cons_self]
    show (match rowsF rs cs (k + 1) (l ++ d :: r) with | .inl e => (Sum.inl e : Sum (Nat × Option Str) (List (List PyData))) | .inr l => .inr (cellsD x :: l)) = _
    rw [rowsF_bad hd (l := l) fun y hy => h y (List.mem_cons_of_mem _ hy)]
    show Sum.inl (k + 1 + l.length, o) = Sum.inl (k + (l.length + 1), o)
    rw [show k + 1 + l.length = k + (l.length + 1) by omega]
theorem storeF_cons (given : List (Str × List PyData)) (rs : RowsD) (t : Str × List Col) (r : Tabs) : storeF given rs (t :: r) = (match rowsF rs t.2 0 ((given.lookup t.1).getD []) with
    | .inl (k, o) => .inl (t.1, k, o)
    | .inr l => storeF given (rs ++ [(t.1, l)]) r) := rfl
theorem dpAll_cells {K : PySem.W.Frag} {H : Hp} : ∀ {vs : List V} {ds : List PyData}, DpAll K H vs ds → (∀ d ∈ ds, flatD d = true) → vs = ds.map cellV
  | _, _, .nil, _ => rfl
  | _, _, .cons h q, f => by rw [List.map_cons, dp_cell h (f _ List.mem_cons_self), dpAll_cells q fun d hd => f d (List.mem_cons_of_mem _ hd)]
theorem row_at {K : PySem.W.Frag} {H : Hp} {v : V} {d : PyData} {rs : RowsD} {cs : List Col} (h : Dp K H v d) (f : rowF rs cs d = none) : RowAt K H v (cellsD d) := by
  have fl := row_flat f
  obtain ⟨r, rfl, _⟩ := row_fits f
  cases h with
  | @tup a ys _ ha hys =>
    refine ⟨a, rfl, ?_⟩
    have e : ys = r.map cellV := dpAll_cells hys fl
    show SqT K H a (r.map cellV)
    rw [← e]
    exact ha
def spStore (K : PySem.W.Frag) (CS CB C : Addr) : Sp := fun vs H Q E => ∃ (p sch dx : Addr) (gv : V) (given : List (Str × List PyData)) (u : Str) (ts : Tabs), vs = [.ref p, .ref sch, gv] ∧ H p = some (.ins CS dx []) ∧ SchAt C (del p H) sch u ts ∧ GoodTabs ts ∧ ts.length ≤ 100 ∧ GivenAt K (del p H) gv given ∧ (∀ g ∈ given, g.2.length ≤ 10000) ∧
  (∀ rs, storeF given [] ts = .inr rs → ∀ (dr : Addr) (kvs : List (Key × V)) (H' : Hp), Ex (del p H) H' → StP K CS H' p sch dr kvs rs → del p H dr = none → (∀ kv ∈ kvs, ∀ l, kv.2 = V.ref l → del p H l = none) → Q .non H') ∧
  ∀ t k o, storeF given [] ts = .inl (t, k, o) → Bad3 CB "table" "at" "column" (.str t) (.int (k : Nat)) (vOpt o) (del p H) E
theorem w_dget7 {σ : L2.St} {H : Hp} {Q : VK} {td ty tx : TE} (h : td σ H fun x H1 => ∃ a, x = .ref a ∧ IsD H1 a ∧ ty σ H1 fun y H2 => tx σ H2 fun z H3 => ∃ o, DGet H3 a y o ∧ Q (o.getD z) H3) : tDGet2 td ty tx σ H Q := h
theorem rent_none {K : PySem.W.Frag} {H : Hp} {n : Str} : ∀ {kvs : List (Key × V)} {rs : RowsD}, Paired (RowsEnt K H) kvs rs → n ∉ rs.map (·.1) → valV kvs (Sum.inr n : Key) = none
  | _, _, .nil, _ => rfl
  | kv :: kvs, r :: rs, .cons h q, hn => by
    rw [List.map_cons] at hn
    have z : ¬ n = r.1 := fun z => hn (by rw [z]; exact List.mem_cons_self)
    exact (valV_neg (p := kv) (fun y => z (by rw [h.1] at y; exact (Sum.inr.inj y).symm))).trans (rent_none q fun y => hn (List.mem_cons_of_mem _ y))
theorem RowAt.putD {K : PySem.W.Frag} {H : Hp} {dr : Addr} {kvs : List (Key × V)} {o : HO} (hd : H dr = some (.dK kvs)) {v : V} {r : List PyData} (h : RowAt K H v r) : RowAt K (upd H dr o) v r := by
  obtain ⟨a, ev, ha⟩ := h
  exact ⟨a, ev, sqT_exO (own := [dr]) (dictsAt_of fun b hb => by rw [List.mem_singleton.1 hb]; exact ⟨_, hd⟩) (ExO.refl.put List.mem_cons_self) ha⟩
theorem RowsEnt.putD {K : PySem.W.Frag} {H : Hp} {dr : Addr} {kvs : List (Key × V)} {o : HO} (hd : H dr = some (.dK kvs)) {kv : Key × V} {r : Str × List (List PyData)} (h : RowsEnt K H kv r) : RowsEnt K (upd H dr o) kv r := by
  obtain ⟨e1, l, vs, e2, hl, hv⟩ := h
  exact ⟨e1, l, vs, e2, by rw [upd_ne (ne_of hl hd (by intro z; cases z))]; exact hl, paired_imp (fun _ _ h => h.putD hd) hv⟩
theorem joinP {p : Prop} {_ : Decidable p} {te tf : TE} {σ : L2.St} {H : Hp} {k : VK} {R : V → Hp → Prop} (h1 : p → ∀ k' : VK, (∀ v H', R v H' → k' v H') → te σ H k') (h2 : ¬ p → ∀ k' : VK, (∀ v H', R v H' → k' v H') → tf σ H k') (h : ∀ v H', R v H' → k v H') : if decide p = true then te σ H k else tf σ H k :=
  iteD (fun z => h1 z k h) (fun z => h2 z k h)
section
variable {base : Heap} {mg : Str → Option Value} {K : PySem.W.Frag} {w : World} {P : Program} {CS CB C : Addr}
theorem ok_store {f : Addr} {fd : FuncData} (S : StoC K CS) (SC : SchC K C) (M : Mk K CS f) (F : C8.Fun K "__init__" "Store.__init__" s_Store___init__ f fd) (B : Blt mg) (m__check_row : MetX P w K mg base 4 CS "_check_row" (spCheck K CS CB C)) :
    FnOk P w K mg base (L2.CX P w) 5 f fd ["self", "schema", "rows"] (spStore K CS CB C) := by
  have sc : FnScope ["self", "schema", "rows", "given", "table", "taken", "at", "row"] ["self", "schema", "rows"] (C8.fnScope s_Store___init__) := C8.fnScope_by (by decide +kernel)
  refine fnX F sc (fun vs H Q E h => ?_) (fun cdv A outer s H vs Q E hr h => ?_)
  · obtain ⟨_, _, _, _, _, _, _, rfl, _⟩ := h
    rfl
  · obtain ⟨p, sch, dx, gv, given, u, ts, rfl, hp, hS, hG, lt, hgv, lg, kR, kB⟩ := h
    refine ⟨_, (pss_cons (ps_fldK (K := K) rfl (pv 0) (pv 1) rfl)
        (pss_cons (ps_fldK (K := K) rfl (pv 0) pe_dnewK rfl)
        (pss_cons (ps_set (i := 3) sc.nd rfl (Or.inl rfl) (pe_ifExp (pt_cmpR op_isN' (pv 2) pe_non (nomark _)) pe_dnewK (pv 2)))
        (pss_one (ps_for (passes_of rfl) rfl (pi_tupK (K := K) rfl (pe_fldK (K := K) rfl (pv 1) rfl)) (pg_name (i := 4) sc.nd rfl (Or.inl rfl))
        (pss_cons (ps_set (i := 5) sc.nd rfl (Or.inl rfl) (pe_callTy (call_list_ofK (K := K) rfl) (by rfl) B.list_ (by decide +kernel) (pa_cons ((pe_dget2 (hu_of hr) (pv 3) (pv 4) (pe_lst pa_nil) ⟨rfl, rfl, rfl, rfl⟩)) pa_nil)))
        (pss_cons (ps_for (passes_of rfl) rfl (pi_enumK (K := K) rfl (by rfl) B.enumerate_ (pa_cons (pv 5) pa_nil)) (pg_tupK (K := K) (n := 2) rfl rfl (pgs_cons (pg_name (i := 6) sc.nd rfl (Or.inl rfl)) (pgs_cons (pg_name (i := 7) sc.nd rfl (Or.inl rfl)) pgs_nil)))
        (pss_one (ps_expr ((pe_mx m__check_row hr (by decide) (passE (takes_of rfl rfl rfl rfl)) (pv 0) (pa_cons (pv 4) (pa_cons (pv 6) (pa_cons (pv 7) pa_nil))))))))
        (pss_one (ps_dput (hu_of hr) (pe_fldK (K := K) rfl (pv 0) rfl) (pv 4) (pv 5) rfl))))))))), ?_⟩
    have e00 : Ex (del p H) H := ex_del
    walk_at "w"
    refine w_kSfld hp S.cls S.schema_ (by decide) ?_
    have hp1 : (upd H p (.ins CS dx (putF "schema" (.ref sch) []))) p = some (.ins CS dx (putF "schema" (.ref sch) [])) := upd_same
    have x1 : Ex (del p H) (upd H p (.ins CS dx (putF "schema" (.ref sch) []))) := fun a o h => by rw [upd_ne (del_some h).1]; exact e00 a o h
    generalize (upd H p (.ins CS dx (putF "schema" (.ref sch) []))) = H1 at hp1 x1 ⊢
    walk_at "w"
    intro dr hdr
    have hp2 : (upd H1 dr (.dK [])) p = some (.ins CS dx (putF "schema" (.ref sch) [])) := by rw [upd_ne (ne_of_none hp1 hdr)]; exact hp1
    have hd2 : (upd H1 dr (.dK [])) dr = some (.dK []) := upd_same
    have x2 : Ex (del p H) (upd H1 dr (.dK [])) := x1.trans (Ex.new hdr)
    have drH : del p H dr = none := by
      cases z : del p H dr with
      | none => rfl
      | some o => rw [x1 _ _ z] at hdr; cases hdr
    generalize (upd H1 dr (.dK [])) = H2 at hp2 hd2 x2 ⊢
    walk_at "w"
    refine w_kSfld hp2 S.cls S._rows_ (by show 1 < 1000; omega) ?_
    obtain ⟨fs, efs⟩ : ∃ fs, fs = putF "_rows" (.ref dr) (putF "schema" (.ref sch) []) := ⟨_, rfl⟩
    have l1 : fs.lookup ("schema" : Str) = some (.ref sch) := by rw [efs]; rfl
    have l2 : fs.lookup ("_rows" : Str) = some (.ref dr) := by rw [efs]; rfl
    have l3 : ∀ m : Str, m ≠ "schema" → m ≠ "_rows" → fs.lookup m = none := fun m h1 h2 => by
      rw [efs, lookup_putF, if_neg h2, lookup_putF, if_neg h1]
      rfl
    rw [← efs]
    have hp3 : (upd H2 p (.ins CS dx fs)) p = some (.ins CS dx fs) := upd_same
    have hd3 : (upd H2 p (.ins CS dx fs)) dr = some (.dK []) := by rw [upd_ne (ne_of hd2 hp2 (by intro z; cases z))]; exact hd2
    have x3 : Ex (del p H) (upd H2 p (.ins CS dx fs)) := fun a o h => by rw [upd_ne (del_some h).1]; exact x2 a o h
    generalize (upd H2 p (.ins CS dx fs)) = H3 at hp3 hd3 x3 ⊢
    walk_at "w"
    refine joinP (R := fun v H' => Ex H3 H' ∧ ∃ g gkvs, v = .ref g ∧ g ≠ dr ∧ H' g = some (.dK gkvs) ∧ Paired (GivEnt K (del p H)) gkvs given) (fun h k' hk' => ?_) (fun h k' hk' => ?_) fun v H4 hv => ?_
    · have eg : given = [] := by
        rcases hgv with ⟨_, h'⟩ | ⟨g, gk, h', _⟩
        · exact h'
        · rw [h'] at h; cases h
      walk_at "w"
      intro g hg
      exact hk' _ _ ⟨Ex.new hg, g, [], rfl, (ne_of_none hd3 hg).symm, upd_same, by rw [eg]; exact .nil⟩
    · walk_at "w"
      rcases hgv with ⟨h', _⟩ | ⟨g, gk, h', hg, hpg⟩
      · exact absurd h' h
      · subst h'
        exact hk' _ _ ⟨Ex.refl _, g, gk, rfl, ne_of_none hg drH, x3 _ _ hg, hpg⟩
    obtain ⟨e34, g, gkvs, rfl, ngr, hg4, hgp⟩ := hv
    have hp4 := e34 _ _ hp3
    have hd4 := e34 _ _ hd3
    have x4 := x3.trans e34
    have hS4 := hS.ext x4
    obtain ⟨dc, dl, cvs, rsS, dxS, fsS, tt, ll, hPS, hmS, hpS, hfS, huS, htS, httS, hlS, hllS⟩ := hS.ex
    walk_at "w"
    refine w_kFld (x4 _ _ hpS) SC.cls SC.tables_ htS ?_
    have gsz : ∀ n : Str, ((given.lookup n).getD []).length ≤ 10000 := fun n => by
      cases e : given.lookup n with
      | none => exact Nat.zero_le _
      | some ds => exact lg _ (PySem.mem_of_lookup e)
    walk_at "w"
    refine w_kTup (SqT.of (x4 _ _ httS)) ?_
    refine loopT (xs := ts.map fun t => V.str t.1) (fun d r σ' H' => ∃ td tr rs kvs x4 x5 x6 x7, ts = td ++ tr ∧ r = tr.map (fun t => V.str t.1) ∧ storeF given rs tr = storeF given [] ts ∧ rs.map (·.1) = td.map (·.1) ∧ (∀ q ∈ rs, q.2.length ≤ 10000) ∧ σ' = [some (.ref p), some (.ref sch), some gv, some (.ref g), x4, x5, x6, x7] ∧ Ex (del p H) H' ∧ H' g = some (.dK gkvs) ∧ StP K CS H' p sch dr kvs rs ∧ ∀ kv ∈ kvs, ∀ l, kv.2 = V.ref l → del p H l = none)
      ⟨[], ts, [], [], _, _, _, _, rfl, rfl, rfl, rfl, fun _ h => absurd h List.not_mem_nil, rfl, x4, hg4, ⟨⟨dx, fs, hp4, l1, l2, l3⟩, hd4, .nil⟩, fun _ h => absurd h List.not_mem_nil⟩ (fun d r σ' H' _ h => ?_) (fun d y r σ' H' e h => ?_) (fun σ' H' h => ?_)
    · obtain ⟨_, _, _, _, _, _, _, _, _, _, _, _, _, _, ex, _⟩ := h
      exact SqT.of (ex _ _ httS)
    · obtain ⟨td, tr, rs, kvs, y4, y5, y6, y7, ets, er, est, enm, lrs, rfl, ex, hg', hP, frK⟩ := h
      cases tr with
      | nil => cases er
      | cons t tr =>
      rw [List.map_cons] at er
      injection er with er1 er2
      subst er1
      subst er2
      obtain ⟨g1, g2, g3, g4⟩ := hG.split td t tr ets
      have hcs : ts.lookup t.1 = some t.2 := lookup_mem hG.nodup (by rw [ets]; simp)
      have lcs : t.2.length ≤ 1000 := Nat.le_trans g4.few (by decide)
      have lk : ∀ c ∈ t.2, c.isLink = true → ∃ rows, rs.lookup c.target = some rows ∧ rows.length ≤ 100000 := fun c hc hL => by
        have hm : c.target ∈ rs.map (·.1) := by rw [enm]; exact g4.tg c hc hL
        obtain ⟨rows, hr'⟩ := lookup_some hm
        exact ⟨rows, hr', Nat.le_trans (lrs _ (PySem.mem_of_lookup hr')) (by decide)⟩
      have nk : t.1 ∉ rs.map (·.1) := by rw [enm]; exact g3
      walk_at "w"
      refine w_dget7 ?_
      walk_at "w"
      refine ⟨g, rfl, .inl ⟨gkvs, .inl hg'⟩, ?_⟩
      walk_at "w"
      intro D0 hD0
      have e5 : Ex H' (upd H' D0 (.lst [])) := Ex.new hD0
      have f5 : (upd H' D0 (.lst [])) D0 = some (.lst []) := upd_same
      generalize (upd H' D0 (.lst [])) = H5 at e5 f5 ⊢
      refine ⟨_, DGet.k (k := Sum.inr t.1) (e5 _ _ hg'), ?_⟩
      have ex5 := ex.trans e5
      obtain ⟨la, vs, ds, ev, hsq, hpd, eds⟩ : ∃ la vs ds, (valV gkvs (Sum.inr t.1 : Key)).getD (.ref D0) = .ref la ∧ SqL K H5 la vs ∧ Paired (fun v d => Dp K H5 v d ∧ SzD d) vs ds ∧ ds = (given.lookup t.1).getD [] := by
        rcases giv_get t.1 hgp with ⟨q1, q2⟩ | ⟨l, vs, ds, q1, q2, q3, q4⟩
        · exact ⟨D0, [], [], by rw [q1]; rfl, SqL.of f5, .nil, by rw [q2]; rfl⟩
        · exact ⟨l, vs, ds, by rw [q1]; rfl, Evl.ex_l ex5 q3, paired_imp (fun _ _ h => ⟨dp_ext ex5 h.1, h.2⟩) q4, by rw [q2]; rfl⟩
      rw [ev]
      walk_at "w"
      refine w_listL hsq fun Lk hLk => ?_
      have e6 : Ex H5 (upd H5 Lk (.lst vs)) := Ex.new hLk
      have f6 : (upd H5 Lk (.lst vs)) Lk = some (.lst vs) := upd_same
      generalize (upd H5 Lk (.lst vs)) = H6 at e6 f6 ⊢
      have lds : ds.length ≤ 10000 := by rw [eds]; exact gsz t.1
      have lvs := paired_len hpd
      have ex6 := ex5.trans e6
      have e06 := e5.trans e6
      have hP6 := hP.ext e06
      have hS6 := hS.ext ex6
      rw [storeF_cons, ← eds] at est
      walk_at "w"
      refine loopE (xs := vs) (fun d r σ' H' => ∃ dn rm x6 x7, ds = dn ++ rm ∧ dn.length = d.length ∧ Paired (fun v d => Dp K H5 v d ∧ SzD d) r rm ∧ (∀ d ∈ dn, rowF rs t.2 d = none) ∧ σ' = [some (.ref p), some (.ref sch), some gv, some (.ref g), some (.str t.1), some (.ref Lk), x6, x7] ∧ Ex H6 H')
        ⟨[], ds, _, _, rfl, rfl, hpd, fun _ h => absurd h List.not_mem_nil, rfl, Ex.refl _⟩ (fun d r σ' H' _ h => ?_) (fun d y r σ' H' T hd hT h => ?_) (fun σ' H' h => ?_)
      · obtain ⟨_, _, _, _, _, _, _, _, _, e'⟩ := h
        exact SqL.of (e' _ _ f6)
      · obtain ⟨dn, rm, x6, x7, eds', ldn, hpr, ok, rfl, e'⟩ := h
        obtain ⟨d0, rm', erm, ⟨hd0, sz0⟩, hpr'⟩ := paired_cons hpr
        subst erm
        have eT : Ex H' (upd H' T (.tup [.int (d.length : Nat), y])) := Ex.new hT
        have fT : (upd H' T (.tup [.int (d.length : Nat), y])) T = some (.tup [.int (d.length : Nat), y]) := upd_same
        generalize (upd H' T (.tup [.int (d.length : Nat), y])) = H7 at eT fT ⊢
        have e67 := e'.trans eT
        have hP7 := hP6.ext e67
        obtain ⟨_, _, hpI, gg1, gg2, gg3⟩ := hP7.ins
        walk_at "w"
        refine w_kMeth hpI (gg3 _ (by decide +kernel) (by decide +kernel)) ?_
        walk_at "w"
        refine ⟨p, sch, dr, kvs, rs, t.1, _, y, d0, u, ts, t.2, rfl, hP7, hS6.ext e67, hcs, lcs, lk, dp_ext (e6.trans e67) hd0, sz0, fun h0 H8 e8 => ?_, fun o ho dd H8 e8 hdd => ?_⟩
        · walk_at "w"
          refine ⟨dn ++ [d0], rm', _, _, by rw [eds', List.append_assoc]; rfl, by rw [List.length_append, List.length_append, ldn]; rfl, hpr', fun x hx => ?_, rfl, e67.trans e8⟩
          rcases List.mem_append.1 hx with hx | hx
          · exact ok x hx
          · rw [List.mem_singleton.1 hx]
            exact h0
        · have bad := rowsF_bad (rs := rs) (cs := t.2) ho (l := dn) (k := 0) (r := rm') ok
          rw [← eds', Nat.zero_add, ldn] at bad
          rw [bad] at est
          exact kB t.1 d.length o est.symm dd H8 (ex6.trans (e67.trans e8)) hdd
      · obtain ⟨dn, rm, x6, x7, eds', ldn, hpr, ok, rfl, e'⟩ := h
        cases hpr
        rw [List.append_nil] at eds'
        subst eds'
        have good := rowsF_all (rs := rs) (cs := t.2) (l := ds) (k := 0) ok
        rw [good] at est
        have est : storeF given (rs ++ [(t.1, ds.map cellsD)]) tr = storeF given [] ts := est
        have hP' := hP6.ext e'
        obtain ⟨dxI, fsI, hpI, gg1, gg2, gg3⟩ := hP'.ins
        walk_at "w"
        refine w_kFld hpI S.cls S._rows_ gg2 ?_
        walk_at "w"
        have lkv : kvs.length = td.length := by
          have a1 := paired_len hP'.rows
          have a2 := congrArg List.length enm
          rw [List.length_map, List.length_map] at a2
          omega
        have ltd : td.length ≤ 100 := by
          have a3 := congrArg List.length ets
          rw [List.length_append] at a3
          omega
        refine ⟨dr, _, rfl, DPut.k (k := Sum.inr t.1) hP'.dict (Nat.lt_of_le_of_lt (m := 100) (by omega) (by decide)), ?_⟩
        rw [putK_new (rent_none hP'.rows nk)]
        have e86 := ex6.trans e'
        have fLk := e' _ _ f6
        have rows : Paired (RowAt K H') vs (ds.map cellsD) := by
          have key : ∀ {vs : List V} {ds : List PyData}, Paired (fun v d => Dp K H5 v d ∧ SzD d) vs ds → (∀ d ∈ ds, rowF rs t.2 d = none) → Paired (RowAt K H') vs (ds.map cellsD) := fun {vs ds} h => by
            induction h with
            | nil => exact fun _ => .nil
            | cons h _ ih => exact fun f => .cons ((row_at h.1 (f _ List.mem_cons_self)).ext (e6.trans e')) (ih fun d hd => f d (List.mem_cons_of_mem _ hd))
          exact key hpd ok
        refine ⟨td ++ [t], tr, rs ++ [(t.1, ds.map cellsD)], _, _, _, _, _, by rw [ets, List.append_assoc]; rfl, rfl, est, by rw [List.map_append, List.map_append, enm]; rfl, fun q hq => ?_, rfl, e86.mut drH, by rw [upd_ne ngr]; exact e' _ _ (e6 _ _ (e5 _ _ hg')), ⟨⟨dxI, fsI, by rw [upd_ne (ne_of hpI hP'.dict (by intro z; cases z))]; exact hpI, gg1, gg2, gg3⟩, upd_same, ?_⟩, fun kv hkv l el => ?_⟩
        · rcases List.mem_append.1 hq with hq | hq
          · exact lrs q hq
          · rw [List.mem_singleton.1 hq]
            show (ds.map cellsD).length ≤ 10000
            rw [List.length_map]
            exact lds
        · exact paired_app (paired_imp (fun _ _ h => h.putD hP'.dict) hP'.rows) (.cons ⟨rfl, Lk, vs, rfl, by rw [upd_ne (ne_of fLk hP'.dict (by intro z; cases z))]; exact fLk, paired_imp (fun _ _ h => h.putD hP'.dict) rows⟩ .nil)
        · rcases List.mem_append.1 hkv with hkv | hkv
          · exact frK kv hkv l el
          · rw [List.mem_singleton.1 hkv] at el
            cases el
            cases z : del p H Lk with
            | none => rfl
            | some o => rw [ex5 _ _ z] at hLk; cases hLk
    · obtain ⟨td, tr, rs, kvs, y4, y5, y6, y7, ets, er, est, enm, lrs, rfl, ex, hg', hP, frK⟩ := h
      have et : tr = [] := by cases tr; rfl; cases er
      subst et
      exact kR rs est.symm dr kvs _ ex hP drH frK
end
end LP
namespace LP
open PySem L2
/-! ### own exceptions over LookupError with two fields -/
section
variable {X : Cx} {pins : List (Addr × Obj)} {σ : L2.St} {H : Hp} {s : Shared} {a C dx : Addr} {f : Str} {fs : List (Str × V)} {y : V} {u : Value} {Q : Unit → Shared → Prop} {E : Value → Shared → Prop} {A : Around}
theorem ostL_old (T : OexL X.K C) (I : Inv X pins σ H s) (e : H a = some (exo a C (some dx))) (ed : H dx = some (exd dx fs)) (hl : fs.length ≤ 900) (hno : NoAttr X.K C f) (ry : RelV y u)
    (h : ∀ s',
            Inv X pins σ (upd H dx (exd dx ((f, y) :: fs))) s' → Q () s') : wpAny (model X.prog X.w) A (setAttr (.ref a) f u) Q E s := by
  obtain ⟨cd, hc, hd'⟩ := PySem.W.any_some T.hd
  obtain ⟨t1,
          ho⟩ := exo_at I.hok e
  obtain ⟨mA,
          hns, rel⟩ := exd_at I.hok ed
  have hw := within_of rel
  obtain ⟨hp, g, d, t, os⟩ := s
  obtain ⟨oD,
          _, _, hoD, _, _⟩ := hns.count hw
  have at_ : PySem.W.InstAt hp a { cls := .ref C, dict := some dx, data := .fields #[.ref t1, .none, .none, .none, .bool false, .none] } C (some oD) := ⟨ho, rfl, rfl, hoD⟩
  have hcls : PySem.W.Looks (model X.prog X.w) hp (classData C) cd := PySem.W.looks_clsIn I.kIn hc
  refine PySem.W.set_plain I.kIn (od := some oD) at_ T.sa ?_
  refine PySem.W.osa_openX (s := ⟨hp, g, d, t + 1, os⟩) (od := some oD) PySem.F.store_LookupError I.kIn at_ T.ov hno.taker fun b => ?_
  show wpAny _ _ (Builtin.ObjectAttr.storeInOwnDict (.ref a) (.ref C) (.str f t) f u b) _ _ _
  obtain ⟨nm,
          bs, mro, ns, qn, hd, sn, sb, ab, col, del⟩ := cd
  dsimp only at hd'
  subst hd'
  unfold Builtin.ObjectAttr.storeInOwnDict Builtin.ObjectAttr.ownDictForStores
  repeat (first | with_reducible refine PySem.OEX.store_in_old hns hw (by rw [List.length_map]; omega) ?_ | with_reducible refine wpAny_loadPart_at ho ?_ | with_reducible refine hcls.at ?_ | wp_step)
  intro h' tk' hn' hs
  have hd : ∃ o,
          h'.get? dx = some o := by
    obtain ⟨o, _, _, e', _⟩ := hn'
    exact ⟨o, e'⟩
  exact h _ (I.write (t' := tk') (x := dx) (e := dx) (o := exd dx ((f, y) :: fs)) (by rw [ed]; exact True.intro) (.inl rfl) (fun b o n q => (hs.2 b n).trans q) hd (exd_ok hn' (relO_put ry rel)))
end
/-- self.f = e, self an exception over LookupError that is being made -/
def kOsL2 (K : PySem.W.Frag) (f : Str) (y x : V) (H : Hp) (q : Hp → Prop) : Prop := ∃ a C : Addr, x = .ref a ∧ OexL K C ∧ NoAttr K C f ∧
  ((H a = some (exo a C none) ∧ ∀ dx, H dx = none → dx ≠ a → q (upd (upd H dx (exd dx [(f, y)])) a (exo a C (some dx)))) ∨
    ∃ (dx : Addr) (fs : List (Str × V)), H a = some (exo a C (some dx)) ∧ H dx = some (exd dx fs) ∧ fs.length ≤ 900 ∧ q (upd H dx (exd dx ((f, y) :: fs))))
def tOsL2 (K : PySem.W.Frag) (f : Str) (to te : TE) : TS := fun D σ H => te σ H fun y H1 => to σ H1 fun x H2 => kOsL2 K f y x H2 (D.nx σ)
theorem ps_osL2 {X : Cx} {K : PySem.W.Frag} {o e : Expr} {to te : TE} {f : Str} {p' pos : Pos} (hK : X.K = K) (ho : PE X o to) (he : PE X e te) (hs : swapsWith e (some (.Attribute o f p')) pos.line X.env = pure false := by rfl) : PS X (.Assign [.Attribute o f p'] e pos) (tOsL2 K f to te) := by
  subst hK
  refine ⟨fun pins s σ H D I h => plainObj_wpAny_Assign_Attribute (thn (he.run pins s σ H _ I h) fun v s1 hv => ?_) hs⟩
  obtain ⟨y, H1, I1, r1, q1⟩ := hv
  refine thn (ho.run pins s1 σ H1 _ I1 q1) fun u s2 hu => ?_
  obtain ⟨x, H2, I2, r2, a, C, ex, T, n, q⟩ := hu
  subst ex
  cases (show u = Value.ref a from r2)
  rcases q with ⟨ea,
          q⟩ | ⟨dx, fs, ea, ed, hl, q⟩
  · exact ostL_new T I2 ea n r1 fun dx s' n ne J => ⟨σ, _, J, q dx n ne⟩
  · exact ostL_old T I2 ea ed hl n r1 fun s' J => ⟨σ, _, J, q⟩
theorem w_osL2 {K : PySem.W.Frag} {f : Str} {to te : TE} {D : Ends} {σ : L2.St} {H : Hp} (h : te σ H fun y H1 => to σ H1 fun x H2 => kOsL2 K f y x H2 (D.nx σ)) : tOsL2 K f to te D σ H := h
section
variable {base : Heap} {mg : Str → Option Value} {K : PySem.W.Frag} {w : World} {P : Program} {CR : Addr}
theorem ok_norow {f : Addr} {fd : FuncData} (T : OexL K CR) (n1 : NoAttr K CR "table") (n2 : NoAttr K CR "at") (F : C8.Fun K "__init__" "NoRow.__init__" s_NoRow___init__ f fd) :
    FnOk P w K mg base C8.CX0 1 f fd ["self", "table", "at"] (spEx2 CR "table" "at") := by
  have sc : FnScope ["self", "table", "at"] ["self", "table", "at"] (C8.fnScope s_NoRow___init__) := C8.fnScope_by (by decide +kernel)
  refine C8.fn0 F sc (fun vs H Q E h => ?_) (fun cdv A outer s H vs Q E hr h => ?_)
  · obtain ⟨_, _, _, rfl, _⟩ := h
    rfl
  · obtain ⟨a, v, u, rfl, ha, k⟩ := h
    refine ⟨_, (pss_cons (ps_osL2 (K := K) rfl (pv 0) (pv 1) rfl)
        (pss_one (ps_osL2 (K := K) rfl (pv 0) (pv 2) rfl))), ?_⟩
    walk_at "w"
    with_reducible refine' w_osL2 ?_
    walk_at "w"
    refine ⟨a, CR, rfl, T, n1, .inl ⟨ha, fun dx hdx ne => ?_⟩⟩
    walk_at "w"
    with_reducible refine' w_osL2 ?_
    walk_at "w"
    exact ⟨a, CR, rfl, T, n2, .inr ⟨dx, _, upd_same, by rw [upd_ne ne]; exact upd_same, by show 1 ≤ 900; omega, k dx hdx ne⟩⟩
end
end LP
namespace LP
open PySem L2
open Evl (Ex)
/-! ### a store with its schema -/
structure StoreAt (K : PySem.W.Frag) (CS C : Addr) (H : Hp) (p : Addr) (u : Str) (ts : Tabs) (rs : RowsD) : Prop where
  ex : ∃ sch dr kvs, StP K CS H p sch dr kvs rs ∧ SchAt C H sch u ts
  nm : rs.map (·.1) = ts.map (·.1)
theorem StoreAt.ext {K : PySem.W.Frag} {CS C : Addr} {H H' : Hp} {p : Addr} {u : Str} {ts : Tabs} {rs : RowsD} (e : Ex H H') (h : StoreAt K CS C H p u ts rs) : StoreAt K CS C H' p u ts rs := by
  obtain ⟨⟨sch, dr, kvs, h1, h2⟩, h3⟩ := h
  exact ⟨⟨sch, dr, kvs, h1.ext e, h2.ext e⟩, h3⟩
/-- whether a value is the name of a table -/
def tabD (ts : Tabs) (d : PyData) : Bool := strD (fun n => decide (n ∈ ts.map (·.1))) d
def rowsD (rs : RowsD) : PyData → List (List PyData)
  | .str n => (rs.lookup n).getD []
  | _ => []
theorem tab_rows {ts : Tabs} {rs : RowsD} {d : PyData} (e : rs.map (·.1) = ts.map (·.1)) (h : tabD ts d = true) : ∃ n, d = .str n ∧ rs.lookup n = some (rowsD rs d) := by
  cases d with
  | str n =>
    have h : n ∈ ts.map (·.1) := of_decide_eq_true h
    rw [← e] at h
    obtain ⟨rows, hr⟩ := lookup_some h
    exact ⟨n, rfl, by show rs.lookup n = some ((rs.lookup n).getD []); rw [hr]; rfl⟩
  | _ => cases h
def spNeedT (K : PySem.W.Frag) (CS CN C : Addr) : Sp := fun vs H Q E => ∃ (p : Addr) (v : V) (d : PyData) (u : Str) (ts : Tabs) (rs : RowsD), vs = [.ref p, v] ∧ StoreAt K CS C H p u ts rs ∧ Dp K H v d ∧
  ((tabD ts d = true ∧ Q .non H) ∨ (tabD ts d = false ∧ NoN CN v H E))
def spNeedR (K : PySem.W.Frag) (CS CN CR C : Addr) : Sp := fun vs H Q E => ∃ (p : Addr) (v av : V) (d a : PyData) (u : Str) (ts : Tabs) (rs : RowsD), vs = [.ref p, v, av] ∧ StoreAt K CS C H p u ts rs ∧ Dp K H v d ∧ Dp K H av a ∧ (∀ x, a = .str x → x.length ≤ 4000) ∧ (rowsD rs d).length ≤ 100000 ∧
  ((tabD ts d = true ∧ idxD (rowsD rs d).length a = true ∧ Q .non H) ∨ (tabD ts d = false ∧ NoN CN v H E) ∨ (tabD ts d = true ∧ idxD (rowsD rs d).length a = false ∧ Bad2 CR "table" "at" v av H E))
section
variable {base : Heap} {mg : Str → Option Value} {K : PySem.W.Frag} {w : World} {P : Program} {CS CN CR C fI fJ : Addr} {fdI fdJ : FuncData}
theorem ok_need_table {f : Addr} {fd : FuncData} (S : StoC K CS) (me : Meth K CS "_need_table" f) (F : C8.Fun K "_need_table" "Store._need_table" s_Store__need_table f fd) (b : Binds K fd ["self", "table"] []) (B : Blt mg)
    (NX : ExC P w K mg base "NoName" CN fI fdI ["self", "name"] 1 (spExI CN "name")) (c___contains__ : C8.Met P w K mg base 1 C "__contains__" (spContains K C) []) :
    MetX P w K mg base 3 CS "_need_table" (spNeedT K CS CN C) := by
  have sc : FnScope ["self", "table"] ["self", "table"] (C8.fnScope s_Store__need_table) := C8.fnScope_by (by decide +kernel)
  refine ⟨f, fd, _, S.cls, me, fnX F sc (fun vs H Q E h => ?_) (fun cdv A outer s H vs Q E hr h => ?_), b⟩
  · obtain ⟨_, _, _, _, _, _, rfl, _⟩ := h
    rfl
  · obtain ⟨p, v, d, u, ts, rs, rfl, ⟨⟨sch, dr, kvs, hP, hS⟩, nm⟩, hd, k⟩ := h
    obtain ⟨dx, fs, hp, h1, h2, h3⟩ := hP.ins
    obtain ⟨dc, dl, cvs, rsS, _, _, _, _, hPS, _, hpS, _⟩ := hS.ex
    refine ⟨_, (pss_one (ps_if (pt_cmpR (op_onin (dvs := []) c___contains__ hr (by decide)) (pv 1) (pe_fldK (K := K) rfl (pv 0) rfl) (by rfl))
        (pss_one (ps_raiseL rfl (takes_of rfl rfl rfl rfl) (pmk_L NX.T NX.iC NX.tI NX.F (hr.mono (by decide)) NX.b (by rfl) NX.mgC (pa_cons (pv 1) pa_nil))))
        pss_nil)), ?_⟩
    walk_at "w"
    refine w_kFld hp S.cls S.schema_ h1 ?_
    refine w_ownIn hpS ?_
    refine ⟨sch, v, d, dc, dl, cvs, rsS, ts, rfl, hPS, hd, ?_⟩
    rcases k with ⟨e, k⟩ | ⟨e, k⟩
    · rw [show strD (fun n => decide (n ∈ ts.map (·.1))) d = true from e]
      refine ⟨true, rfl, false, rfl, iteF ?_⟩
      walk_at "w"
      exact k
    · rw [show strD (fun n => decide (n ∈ ts.map (·.1))) d = false from e]
      refine ⟨false, rfl, true, rfl, iteT ?_⟩
      walk_at "w"
      exact ⟨by simp, fun a ha => raised k a ha⟩
theorem ok_need_row {f : Addr} {fd : FuncData} (S : StoC K CS) (me : Meth K CS "_need_row" f) (F : C8.Fun K "_need_row" "Store._need_row" s_Store__need_row f fd) (b : Binds K fd ["self", "table", "at"] []) (B : Blt mg)
    (NX : ExC P w K mg base "NoRow" CR fJ fdJ ["self", "table", "at"] 1 (spEx2 CR "table" "at")) (c_is_index : C8.Cal P w K mg base 2 "is_index" (spIndex K) []) (m__need_table : MetX P w K mg base 3 CS "_need_table" (spNeedT K CS CN C)) :
    MetX P w K mg base 4 CS "_need_row" (spNeedR K CS CN CR C) := by
  have sc : FnScope ["self", "table", "at"] ["self", "table", "at"] (C8.fnScope s_Store__need_row) := C8.fnScope_by (by decide +kernel)
  refine ⟨f, fd, _, S.cls, me, fnX F sc (fun vs H Q E h => ?_) (fun cdv A outer s H vs Q E hr h => ?_), b⟩
  · obtain ⟨_, _, _, _, _, _, _, _, rfl, _⟩ := h
    rfl
  · obtain ⟨p, v, av, d, a, u, ts, rs, rfl, hA, hd, ha, la, lr, k⟩ := h
    have hA0 := hA
    obtain ⟨⟨sch, dr, kvs, hP, hS⟩, nm⟩ := hA
    obtain ⟨dx, fs, hp, h1, h2, h3⟩ := hP.ins
    refine ⟨_, (pss_cons (ps_expr ((pe_mx m__need_table hr (by decide) (passE (takes_of rfl rfl rfl rfl)) (pv 0) (pa_cons (pv 1) pa_nil))))
        (pss_one (ps_if (pt_not (pt_val (C8.pe_c c_is_index hr (by decide) rfl (pa_cons (pv 2) (pa_cons (pe_callB (call_len_seqK (K := K) rfl) (by rfl) B.len_ (by decide +kernel) (pa_cons (pe_dget (hu_of hr) (pe_fldK (K := K) rfl (pv 0) rfl) (pv 1) (fun _ _ => rfl)) pa_nil)) pa_nil)))))
        (pss_one (ps_raiseL rfl (takes_of rfl rfl rfl rfl) (pmk_L NX.T NX.iC NX.tI NX.F (hr.mono (by decide)) NX.b (by rfl) NX.mgC (pa_cons (pv 1) (pa_cons (pv 2) pa_nil)))))
        pss_nil))), ?_⟩
    walk_at "w"
    refine w_kMeth hp (h3 _ (by decide +kernel) (by decide +kernel)) ?_
    walk_at "w"
    refine ⟨p, v, d, u, ts, rs, rfl, hA0, hd, ?_⟩
    have go : tabD ts d = true → ∃ n, d = .str n ∧ rs.lookup n = some (rowsD rs d) := fun h => tab_rows nm h
    rcases k with ⟨e, i, k⟩ | ⟨e, k⟩ | ⟨e, i, k⟩
    · refine .inl ⟨e, ?_⟩
      obtain ⟨n, rfl, hl⟩ := go e
      cases hd
      obtain ⟨l, xs, q1, q2, q3⟩ := ent_get hP.rows hl
      have ll := paired_len q3
      walk_at "w"
      refine w_kFld hp S.cls S._rows_ h2 ?_
      walk_at "w"
      refine ⟨dr, .ref l, rfl, q1 ▸ DGet.k (k := Sum.inr n) hP.dict, ?_⟩
      walk_at "w"
      refine ⟨av, a, _, rfl, ha, la, ?_⟩
      rw [ll, i]
      walk_at "w"
      exact k
    · exact .inr ⟨e, k⟩
    · refine .inl ⟨e, ?_⟩
      obtain ⟨n, rfl, hl⟩ := go e
      cases hd
      obtain ⟨l, xs, q1, q2, q3⟩ := ent_get hP.rows hl
      have ll := paired_len q3
      walk_at "w"
      refine w_kFld hp S.cls S._rows_ h2 ?_
      walk_at "w"
      refine ⟨dr, .ref l, rfl, q1 ▸ DGet.k (k := Sum.inr n) hP.dict, ?_⟩
      walk_at "w"
      refine ⟨av, a, _, rfl, ha, la, ?_⟩
      rw [ll, i]
      walk_at "w"
      exact ⟨by simp, fun a ha => raised2 k a ha⟩
end
end LP
namespace LP
open PySem L2
open Evl (Ex)
/-- the place of a column among a table's, or none -/
def placeF (d : PyData) : Nat → List Col → Option Nat
  | _, [] => none
  | k, c :: r => if PyData.eqv (.str c.name) d = true then some k else placeF d (k + 1) r
theorem NoN.ext {CN : Addr} {v : V} {H H' : Hp} {E : XK} (e : Ex H H') (k : NoN CN v H E) : NoN CN v H' E := fun dd H2 e2 h => k dd H2 (e.trans e2) h
def spPlace (K : PySem.W.Frag) (CS CN C : Addr) : Sp := fun vs H Q E => ∃ (p : Addr) (n : Str) (cv : V) (cd : PyData) (u : Str) (ts : Tabs) (rs : RowsD) (cs : List Col), vs = [.ref p, .str n, cv] ∧ StoreAt K CS C H p u ts rs ∧ ts.lookup n = some cs ∧ cs.length ≤ 1000 ∧
  (∀ c ∈ cs, SeqAt.shaped (.str c.name) = true) ∧ Dp K H cv cd ∧ SeqAt.shaped cd = true ∧ ((∃ i : Nat, placeF cd 0 cs = some i ∧ ∀ H', Ex H H' → Q (.int i) H') ∨ (placeF cd 0 cs = none ∧ NoN CN cv H E))
def spRows (K : PySem.W.Frag) (CS CN C : Addr) : Sp := fun vs H Q E => ∃ (p : Addr) (v : V) (d : PyData) (u : Str) (ts : Tabs) (rs : RowsD), vs = [.ref p, v] ∧ StoreAt K CS C H p u ts rs ∧ Dp K H v d ∧ (rowsD rs d).length ≤ 100000 ∧
  ((tabD ts d = true ∧ ∀ L xs H', Ex H H' → H L = none → H' L = some (.lst xs) → Paired (RowAt K H') xs (rowsD rs d) → Q (.ref L) H') ∨ (tabD ts d = false ∧ NoN CN v H E))
section
variable {base : Heap} {mg : Str → Option Value} {K : PySem.W.Frag} {w : World} {P : Program} {CS CN CR C fI : Addr} {fdI : FuncData}
theorem ok_place {f : Addr} {fd : FuncData} (S : StoC K CS) (me : Meth K CS "_place" f) (F : C8.Fun K "_place" "Store._place" s_Store__place f fd) (b : Binds K fd ["self", "table", "column"] []) (B : Blt mg)
    (NX : ExC P w K mg base "NoName" CN fI fdI ["self", "name"] 1 (spExI CN "name")) (m_columns : MetX P w K mg base 3 C "columns" (spColumns K C CN)) :
    MetX P w K mg base 4 CS "_place" (spPlace K CS CN C) := by
  have sc : FnScope ["self", "table", "column", "place", "known"] ["self", "table", "column"] (C8.fnScope s_Store__place) := C8.fnScope_by (by decide +kernel)
  refine ⟨f, fd, _, S.cls, me, fnX F sc (fun vs H Q E h => ?_) (fun cdv A outer s H vs Q E hr h => ?_), b⟩
  · obtain ⟨_, _, _, _, _, _, _, _, rfl, _⟩ := h
    rfl
  · obtain ⟨p, n, cv, cd, u, ts, rs, cs, rfl, hA, hl, lc, sh, hd, sd, k⟩ := h
    obtain ⟨⟨sch, dr, kvs, hP, hS⟩, nm⟩ := hA
    obtain ⟨dx, fs, hp, h1, h2, h3⟩ := hP.ins
    obtain ⟨_, _, _, _, dx2, fs2, _, _, _, _, hp2, hf2, _⟩ := hS.ex
    refine ⟨_, (pss_cons (ps_for (passes_of rfl) rfl (pi_enumTK (K := K) rfl (by rfl) B.enumerate_ (pa_cons ((pe_mx m_columns hr (by decide) passF (pe_fldK (K := K) rfl (pv 0) rfl) (pa_cons (pv 1) pa_nil))) pa_nil)) (pg_tupK (K := K) (n := 2) rfl rfl (pgs_cons (pg_name (i := 3) sc.nd rfl (Or.inl rfl)) (pgs_cons (pg_name (i := 4) sc.nd rfl (Or.inl rfl)) pgs_nil)))
        (pss_one (ps_if (pt_cmpR (op_eqDK (K := K) rfl (hu64 hr)) (pe_ix (ix_tupK (K := K) rfl) (pv 4) pe_int (fun _ _ => rfl)) (pv 2) (nomark _))
        (pss_one (ps_ret (pv 3)))
        pss_nil)))
        (pss_one (ps_raiseL rfl (takes_of rfl rfl rfl rfl) (pmk_L NX.T NX.iC NX.tI NX.F (hr.mono (by decide)) NX.b (by rfl) NX.mgC (pa_cons (pv 2) pa_nil))))), ?_⟩
    walk_at "w"
    refine w_kFld hp S.cls S.schema_ h1 ?_
    refine w_kMeth hp2 (hf2.no _ (by decide +kernel)) ?_
    walk_at "w"
    refine ⟨sch, .str n, .str n, u, ts, rfl, hS, .str n, .inl ⟨n, cs, rfl, hl, fun ca cvs hca hcv => ?_⟩⟩
    have lcv := paired_len hcv
    walk_at "w"
    refine loopET (xs := cvs) (fun d' r σ' H' => ∃ md mr x3 x4, cs = md ++ mr ∧ md.length = d'.length ∧ placeF cd d'.length mr = placeF cd 0 cs ∧ Paired (ColAt H) r mr ∧ σ' = [some (.ref p), some (.str n), some cv, x3, x4] ∧ Ex H H')
      ⟨[], cs, _, _, rfl, rfl, rfl, hcv, rfl, Ex.refl _⟩ (fun d' r σ' H' e h => ?_) (fun d' y r σ' H' Tp e hTp h => ?_) (fun σ' H' h => ?_)
    · obtain ⟨_, _, _, _, _, _, _, _, _, ex⟩ := h
      exact SqT.of (ex _ _ hca)
    · obtain ⟨md, mr, x3, x4, ecs, lmd, epl, hpr, rfl, ex⟩ := h
      obtain ⟨c, mr', rfl, hy, hpr'⟩ := paired_cons hpr
      have exT : Ex H (L2.upd H' Tp (.tup [.int (d'.length : Nat), y])) := ex.trans (Ex.new hTp)
      have hTt : (L2.upd H' Tp (.tup [.int (d'.length : Nat), y])) Tp = some (.tup [.int (d'.length : Nat), y]) := upd_same
      generalize (L2.upd H' Tp (.tup [.int (d'.length : Nat), y])) = H3 at exT hTt ⊢
      obtain ⟨ya, rfl, hya⟩ := hy.ext exT
      walk_at "w"
      refine w_ixT (SqT.of hya) (Col.at1 c) ?_
      walk_at "w"
      refine ⟨.str c.name, cd, .str _, dp_ext exT hd, sh c (by rw [ecs]; simp), sd, ?_⟩
      rw [placeF] at epl
      cases hq : PyData.eqv (.str c.name) cd with
      | true =>
        rw [hq, if_pos rfl] at epl
        walk_at "w"
        rcases k with ⟨i, ei, k⟩ | ⟨en, k⟩
        · rw [ei] at epl
          cases epl
          exact k _ exT
        · rw [en] at epl
          cases epl
      | false =>
        rw [hq, if_neg (by decide)] at epl
        walk_at "w"
        exact ⟨md ++ [c], mr', _, _, by rw [ecs]; simp, by simp [lmd], by rw [List.length_append]; exact epl, hpr', rfl, exT⟩
    · obtain ⟨md, mr, x3, x4, ecs, lmd, epl, hpr, rfl, ex⟩ := h
      have emr : mr = [] := by cases hpr; rfl
      subst emr
      rcases k with ⟨i, ei, k⟩ | ⟨en, k⟩
      · rw [ei] at epl
        cases epl
      · walk_at "w"
        exact ⟨by simp, fun a ha => raised (k.ext ex) a ha⟩
end
end LP
namespace LP
open PySem L2
open Evl (Ex)
def Bad2.ext {C : Addr} {f g : Str} {v u : V} {H H' : Hp} {E : XK} (e : Ex H H') (k : Bad2 C f g v u H E) : Bad2 C f g v u H' E := fun dd H2 e2 h => k dd H2 (e.trans e2) h
/-- the cell at a row and a place -/
def cellD (rows : List (List PyData)) (a : PyData) (i : Nat) : PyData := match a with
  | .int k => ((rows[k.toNat]?).getD [])[i]?.getD .none
  | _ => .none
def spValue7 (K : PySem.W.Frag) (CS CN CR C : Addr) : Sp := fun vs H Q E => ∃ (p : Addr) (v av cv : V) (d a cd : PyData) (u : Str) (ts : Tabs) (rs : RowsD), vs = [.ref p, v, av, cv] ∧ StoreAt K CS C H p u ts rs ∧ Dp K H v d ∧ Dp K H av a ∧ Dp K H cv cd ∧ (∀ x, a = .str x → x.length ≤ 4000) ∧ SeqAt.shaped cd = true ∧ (rowsD rs d).length ≤ 100000 ∧
  ((tabD ts d = false ∧ NoN CN v H E) ∨ (tabD ts d = true ∧ idxD (rowsD rs d).length a = false ∧ Bad2 CR "table" "at" v av H E) ∨
    (tabD ts d = true ∧ idxD (rowsD rs d).length a = true ∧ ∃ n cs, d = .str n ∧ ts.lookup n = some cs ∧ cs.length ≤ 1000 ∧ (∀ c ∈ cs, SeqAt.shaped (.str c.name) = true) ∧ (∀ r ∈ rowsD rs d, r.length = cs.length) ∧
      ((placeF cd 0 cs = none ∧ NoN CN cv H E) ∨ ∃ i, placeF cd 0 cs = some i ∧ ∀ H', Ex H H' → Q (cellV (cellD (rowsD rs d) a i)) H')))
theorem paired_ix' {α β : Type} {R : α → β → Prop} : ∀ {xs : List α} {zs : List β} {i : Nat} {z : β}, Paired R xs zs → zs[i]? = some z → ∃ x, xs[i]? = some x ∧ R x z
  | _, _, _, _, .nil, h => by cases h
  | x :: _, _ :: _, 0, z, .cons h _, e => ⟨x, rfl, by cases e; exact h⟩
  | _ :: _, _ :: _, i + 1, z, .cons _ q, e => paired_ix' (i := i) q e
theorem place_lt {d : PyData} : ∀ {cs : List Col} {k i : Nat}, placeF d k cs = some i → k ≤ i ∧ i < k + cs.length
  | [], _, _, h => by cases h
  | c :: r, k, i, h => by
    rw [placeF] at h
    split at h
    · cases h
      exact ⟨Nat.le_refl _, by rw [List.length_cons]; omega⟩
    · obtain ⟨h1, h2⟩ := place_lt h
      exact ⟨by omega, by rw [List.length_cons]; omega⟩
theorem idx_int {n : Nat} {a : PyData} (h : idxD n a = true) : ∃ k : Nat, a = .int k ∧ k < n := by
  cases a with
  | int i =>
    have h : (decide (0 ≤ i) && decide (i < (n : Int))) = true := h
    rw [Bool.and_eq_true, decide_eq_true_eq, decide_eq_true_eq] at h
    exact ⟨i.toNat, by rw [Int.toNat_of_nonneg h.1], by omega⟩
  | _ => cases h
section
variable {base : Heap} {mg : Str → Option Value} {K : PySem.W.Frag} {w : World} {P : Program} {CS CN CR C fI : Addr} {fdI : FuncData}
theorem ok_rows {f : Addr} {fd : FuncData} (S : StoC K CS) (me : Meth K CS "rows" f) (F : C8.Fun K "rows" "Store.rows" s_Store_rows f fd) (b : Binds K fd ["self", "table"] []) (B : Blt mg)
    (m__need_table : MetX P w K mg base 3 CS "_need_table" (spNeedT K CS CN C)) : MetX P w K mg base 4 CS "rows" (spRows K CS CN C) := by
  have sc : FnScope ["self", "table"] ["self", "table"] (C8.fnScope s_Store_rows) := C8.fnScope_by (by decide +kernel)
  refine ⟨f, fd, _, S.cls, me, fnX F sc (fun vs H Q E h => ?_) (fun cdv A outer s H vs Q E hr h => ?_), b⟩
  · obtain ⟨_, _, _, _, _, _, rfl, _⟩ := h
    rfl
  · obtain ⟨p, v, d, u, ts, rs, rfl, hA, hd, lr, k⟩ := h
    have hA0 := hA
    obtain ⟨⟨sch, dr, kvs, hP, hS⟩, nm⟩ := hA
    obtain ⟨dx, fs, hp, h1, h2, h3⟩ := hP.ins
    refine ⟨_, (pss_cons (ps_expr ((pe_mx m__need_table hr (by decide) (passE (takes_of rfl rfl rfl rfl)) (pv 0) (pa_cons (pv 1) pa_nil))))
        (pss_one (ps_ret (pe_callTy (call_list_ofK (K := K) rfl) (by rfl) B.list_ (by decide +kernel) (pa_cons (pe_dget (hu_of hr) (pe_fldK (K := K) rfl (pv 0) rfl) (pv 1) (fun _ _ => rfl)) pa_nil))))), ?_⟩
    walk_at "w"
    refine w_kMeth hp (h3 _ (by decide +kernel) (by decide +kernel)) ?_
    walk_at "w"
    refine ⟨p, v, d, u, ts, rs, rfl, hA0, hd, ?_⟩
    rcases k with ⟨e, k⟩ | ⟨e, k⟩
    · refine .inl ⟨e, ?_⟩
      obtain ⟨n, rfl, hl⟩ := tab_rows nm e
      cases hd
      obtain ⟨l, xs, q1, q2, q3⟩ := ent_get hP.rows hl
      have ll := paired_len q3
      walk_at "w"
      refine w_kFld hp S.cls S._rows_ h2 ?_
      walk_at "w"
      refine ⟨dr, .ref l, rfl, q1 ▸ DGet.k (k := Sum.inr n) hP.dict, ?_⟩
      walk_at "w"
      refine w_listL (SqL.of q2) fun L hL => ?_
      exact k L xs _ (Ex.new hL) hL upd_same (paired_imp (fun _ _ h => h.ext (Ex.new hL)) q3)
    · exact .inr ⟨e, k⟩
theorem ok_value {f : Addr} {fd : FuncData} (S : StoC K CS) (me : Meth K CS "value" f) (F : C8.Fun K "value" "Store.value" s_Store_value f fd) (b : Binds K fd ["self", "table", "at", "column"] []) (B : Blt mg)
    (m__need_row : MetX P w K mg base 4 CS "_need_row" (spNeedR K CS CN CR C)) (m__place : MetX P w K mg base 4 CS "_place" (spPlace K CS CN C)) : MetX P w K mg base 5 CS "value" (spValue7 K CS CN CR C) := by
  have sc : FnScope ["self", "table", "at", "column"] ["self", "table", "at", "column"] (C8.fnScope s_Store_value) := C8.fnScope_by (by decide +kernel)
  refine ⟨f, fd, _, S.cls, me, fnX F sc (fun vs H Q E h => ?_) (fun cdv A outer s H vs Q E hr h => ?_), b⟩
  · obtain ⟨_, _, _, _, _, _, _, _, _, _, rfl, _⟩ := h
    rfl
  · obtain ⟨p, v, av, cv, d, a, cd, u, ts, rs, rfl, hA, hd, ha, hc, la, sd, lr, k⟩ := h
    have hA0 := hA
    obtain ⟨⟨sch, dr, kvs, hP, hS⟩, nm⟩ := hA
    obtain ⟨dx, fs, hp, h1, h2, h3⟩ := hP.ins
    refine ⟨_, (pss_cons (ps_expr ((pe_mx m__need_row hr (by decide) (passE (takes_of rfl rfl rfl rfl)) (pv 0) (pa_cons (pv 1) (pa_cons (pv 2) pa_nil)))))
        (pss_one (ps_ret (pe_ix (ix_tupK (K := K) rfl) (pe_ix (ix_listK (K := K) rfl) (pe_dget (hu_of hr) (pe_fldK (K := K) rfl (pv 0) rfl) (pv 1) (fun _ _ => rfl)) (pv 2) (fun _ _ => rfl)) ((pe_mx m__place hr (by decide) (passE (takes_of rfl rfl rfl rfl)) (pv 0) (pa_cons (pv 1) (pa_cons (pv 3) pa_nil)))) (fun _ _ => rfl))))), ?_⟩
    walk_at "w"
    refine w_kMeth hp (h3 _ (by decide +kernel) (by decide +kernel)) ?_
    walk_at "w"
    refine ⟨p, v, av, d, a, u, ts, rs, rfl, hA0, hd, ha, la, lr, ?_⟩
    rcases k with k | k | ⟨e, i, n, cs, rfl, hl, lc, sh, lrw, k⟩
    · exact .inr (.inl k)
    · exact .inr (.inr k)
    refine .inl ⟨e, i, ?_⟩
    cases hd
    obtain ⟨_, en, hlr⟩ := tab_rows nm e
    cases en
    obtain ⟨kk, rfl, lk⟩ := idx_int i
    cases ha
    obtain ⟨l, xs, q1, q2, q3⟩ := ent_get hP.rows hlr
    have ll := paired_len q3
    walk_at "w"
    refine w_kFld hp S.cls S._rows_ h2 ?_
    walk_at "w"
    refine ⟨dr, .ref l, rfl, q1 ▸ DGet.k (k := Sum.inr n) hP.dict, ?_⟩
    walk_at "w"
    have lk' : kk < (rowsD rs (.str n)).length := lk
    obtain ⟨xv, ex1, hrow⟩ : ∃ xv, xs[kk]? = some xv ∧ RowAt K H xv ((rowsD rs (.str n))[kk]'lk') := by
      obtain ⟨z, hz, hR⟩ := paired_ix' q3 (List.getElem?_eq_getElem lk')
      exact ⟨z, hz, hR⟩
    obtain ⟨ra, rfl, hra⟩ := hrow
    refine w_ixL (SqL.of q2) (atI_nat ex1) ?_
    walk_at "w"
    refine w_kMeth hp (h3 _ (by decide +kernel) (by decide +kernel)) ?_
    walk_at "w"
    have lrow := lrw _ (List.getElem_mem lk')
    refine ⟨p, n, cv, cd, u, ts, rs, cs, rfl, hA0, hl, lc, sh, hc, sd, ?_⟩
    rcases k with k | ⟨i, hi, k⟩
    · exact .inr k
    refine .inl ⟨i, hi, fun H' ex => ?_⟩
    have li := (place_lt hi).2
    rw [Nat.zero_add] at li
    have hcell : (((rowsD rs (.str n))[kk]'lk').map cellV)[i]? = some (cellV (cellD (rowsD rs (.str n)) (.int kk) i)) := by
      have e1 : cellD (rowsD rs (.str n)) (.int kk) i = ((((rowsD rs (.str n))[((kk : Nat) : Int).toNat]?).getD []))[i]?.getD .none := rfl
      rw [e1, Int.toNat_natCast, List.getElem?_eq_getElem lk', Option.getD_some, List.getElem?_map, List.getElem?_eq_getElem (by omega), Option.getD_some]
      rfl
    refine w_ixT (Evl.ex_t ex hra) (atI_nat hcell) ?_
    exact k _ ex
end
end LP
namespace LP
open PySem L2
open Evl (Ex)
/-! ### a comprehension over enumerate(list) -/
def fmI (val : Nat → V → Option V) : Nat → List V → List V
  | _, [] => []
  | k, y :: r => (val k y).toList ++ fmI val (k + 1) r
theorem fmI_app (val : Nat → V → Option V) : ∀ (d : List V) (k : Nat) (y : V), fmI val k (d ++ [y]) = fmI val k d ++ (val (k + d.length) y).toList
  | [], k, y => by show (val k y).toList ++ [] = [] ++ (val (k + 0) y).toList; rw [List.append_nil]; rfl
  | x :: d, k, y => by
    rw [List.cons_append, fmI, fmI_app val d (k + 1) y, fmI, List.append_assoc, List.length_cons, show k + 1 + d.length = k + (d.length + 1) by omega]
section
variable {K : PySem.W.Frag} {a : Addr} {xs : List V} {g : TG} {tt : TT} {te : TE} {vs : List Nat} {σ : L2.St} {H1 : Hp} {D : Addr} {Qd : Hp → Prop}
theorem compE (Pv : List V → List V → List V → Hp → Prop) (hlen : xs.length ≤ 90000) (h0 : Pv [] xs [] (upd H1 D (.lst []))) (hl : ∀ d r got H, d ++ r = xs → Pv d r got H → SqL K H a xs)
    (hs : ∀ d y r got H T, d ++ y :: r = xs → H T = none → H D = some (.lst got) → got.length ≤ d.length → Pv d (y :: r) got H → ∀ (k : V → Hp → Prop) (kn : Hp → Prop),
      (∀ y' H4, H4 D = some (.lst got) → Pv (d ++ [y]) r (got ++ [y']) (upd H4 D (.lst (got ++ [y']))) → k y' H4) → (∀ H3, H3 D = some (.lst got) → Pv (d ++ [y]) r got H3 → kn H3) →
      g (.ref T) (wipe σ vs) (upd H T (.tup [.int (d.length : Nat), y])) fun σ2 H2 => wipe σ2 vs = wipe σ vs ∧ tt σ2 H2 fun b H3 => if b = true then te σ2 H3 k else kn H3)
    (hd : ∀ got H, H D = some (.lst got) → got.length ≤ xs.length → Pv xs [] got H → Qd H) :
    ∃ W : Nat →
            Nat → Hp → Prop, (∃ m, W 0 m (upd H1 D (.lst []))) ∧ ∀ i m H, W i m H →
      ((Ite K a).stop i H ∧ Qd H) ∨ ((Ite K a).go i H ∧ ∃ Go : Hp → Prop, (∀ H', Go H' → ∃ m', m' < m ∧ W (i + 1) m' H') ∧ ∀ x H', (Ite K a).yld i H x H' → g x (wipe σ vs) H' fun σ2 H2 => wipe σ2 vs = wipe σ vs ∧ tt σ2 H2 fun b H3 =>
        if b = true then te σ2 H3 fun y H4 => ∃ got, H4 D = some (.lst got) ∧ got.length < sizeLine ∧ Go (upd H4 D (.lst (got ++ [y]))) else Go H3) := by
  have sz : ∀ n : Nat, n ≤ 90000 → n < sizeLine := fun n h => Nat.lt_of_le_of_lt h (by decide)
  refine ⟨fun i m H => m = xs.length - i ∧ i ≤ xs.length ∧ ∃ got, H D = some (.lst got) ∧ got.length ≤ i ∧ Pv (xs.take i) (xs.drop i) got H, ⟨xs.length, by simp, Nat.zero_le _, [], upd_same, Nat.le_refl _, by simpa using h0⟩, ?_⟩
  rintro i m H ⟨rfl, hi, got, ha, hacc, p⟩
  have q := hl _ _ got H (List.take_append_drop i xs) p
  by_cases hlt : i < xs.length
  · have hx : xs[i]? = some xs[i] := by simp [hlt]
    have e1 : xs.drop i = xs[i] :: xs.drop (i + 1) := List.drop_eq_getElem_cons hlt
    have e2 : xs.take (i + 1) = xs.take i ++ [xs[i]] := by
      rw [List.take_succ, hx]
      rfl
    refine .inr ⟨⟨xs, xs[i], q, hx⟩, fun H => ∃ got, H D = some (.lst got) ∧ got.length ≤ i + 1 ∧ Pv (xs.take (i + 1)) (xs.drop (i + 1)) got H, fun H' p' => ⟨xs.length - (i + 1), by omega, rfl, hlt, p'⟩, fun x H' y => ?_⟩
    obtain ⟨T, x, rfl, hT, rfl, y⟩ := y
    have ex : x = xs[i] := by
      have z := y xs q
      rw [hx] at z
      exact (Option.some.inj z).symm
    subst ex
    have z := hs (xs.take i) xs[i] (xs.drop (i + 1)) got H T (by rw [← e1]; exact List.take_append_drop i xs) hT ha (by rw [List.length_take]; omega) (by rw [← e1]; exact p)
      (fun y H4 => ∃ got, H4 D = some (.lst got) ∧ got.length < sizeLine ∧ ∃ got', (upd H4 D (.lst (got ++ [y]))) D = some (.lst got') ∧ got'.length ≤ i + 1 ∧ Pv (xs.take (i + 1)) (xs.drop (i + 1)) got' (upd H4 D (.lst (got ++ [y]))))
      (fun H => ∃ got, H D = some (.lst got) ∧ got.length ≤ i + 1 ∧ Pv (xs.take (i + 1)) (xs.drop (i + 1)) got H)
      (fun y' H4 h4 p => ⟨got, h4, sz _ (by omega), got ++ [y'], upd_same, by rw [List.length_append]; simp; omega, by rw [e2]; exact p⟩)
      (fun H3 h3 p => ⟨got, h3, by omega, by rw [e2]; exact p⟩)
    rw [List.length_take, Nat.min_eq_left (Nat.le_of_lt hlt)] at z
    exact z
  · have e : xs.length = i := by omega
    refine .inl ⟨⟨xs, q, by omega⟩, hd got H ha (by omega) ?_⟩
    have e1 : xs.take i = xs := by rw [← e]; exact List.take_length
    have e2 : xs.drop i = [] := by rw [← e]; exact List.drop_length
    rw [e1, e2] at p
    exact p
theorem compEP (val : Nat → V → Option V) (hD : H1 D = none) (hx : SqL K H1 a xs) (hlen : xs.length ≤ 90000)
    (hs : ∀ i y H T, xs[i]? = some y → Ex H1 H → H T = some (.tup [.int (i : Nat), y]) → ∀ (k : V → Hp → Prop) (kn : Hp → Prop), (∀ y' H4, Ex H H4 → val i y = some y' → k y' H4) → (∀ H3, Ex H H3 → val i y = none → kn H3) →
      g (.ref T) (wipe σ vs) H fun σ2 H2 => wipe σ2 vs = wipe σ vs ∧ tt σ2 H2 fun b H3 => if b = true then te σ2 H3 k else kn H3)
    (hd : ∀ H, Ex H1 H → H D = some (.lst (fmI val 0 xs)) → Qd H) :
    ∃ W : Nat →
            Nat → Hp → Prop, (∃ m, W 0 m (upd H1 D (.lst []))) ∧ ∀ i m H, W i m H →
      ((Ite K a).stop i H ∧ Qd H) ∨ ((Ite K a).go i H ∧ ∃ Go : Hp → Prop, (∀ H', Go H' → ∃ m', m' < m ∧ W (i + 1) m' H') ∧ ∀ x H', (Ite K a).yld i H x H' → g x (wipe σ vs) H' fun σ2 H2 => wipe σ2 vs = wipe σ vs ∧ tt σ2 H2 fun b H3 =>
        if b = true then te σ2 H3 fun y H4 => ∃ got, H4 D = some (.lst got) ∧ got.length < sizeLine ∧ Go (upd H4 D (.lst (got ++ [y]))) else Go H3) := by
  refine compE (xs := xs) (fun d _ got H => Ex H1 H ∧ got = fmI val 0 d) hlen ⟨Ex.new hD, rfl⟩ (fun _ _ _ H _ h => Evl.ex_l h.1 hx) (fun d y r got H T hd' hT ha _ h k kn hk hn => ?_) (fun got H ha _ h => hd H h.1 (h.2 ▸ ha))
  obtain ⟨e, rfl⟩ := h
  have ny : xs[d.length]? = some y := by rw [← hd']; simp
  have eT : Ex H (upd H T (.tup [.int (d.length : Nat), y])) := Ex.new hT
  refine hs d.length y (upd H T (.tup [.int (d.length : Nat), y])) T ny (e.trans eT) upd_same k kn (fun y' H4 e4 hv => ?_) (fun H3 e3 hv => ?_)
  · have e' := eT.trans e4
    refine hk y' H4 (e' _ _ ha) ⟨(e.trans e').mut hD, ?_⟩
    rw [fmI_app, Nat.zero_add, hv]
    rfl
  · have e' := eT.trans e3
    refine hn H3 (e' _ _ ha) ⟨e.trans e', ?_⟩
    rw [fmI_app, Nat.zero_add, hv]
    exact (List.append_nil _).symm
end
end LP
namespace LP
open PySem L2
open Evl (Ex)
/-- the rows whose cell at a place is equal to a value -/
def hitsF (d : PyData) (i : Nat) : Nat → List (List PyData) → List Nat
  | _, [] => []
  | k, r :: q => (if PyData.eqv (r[i]?.getD .none) d = true then [k] else []) ++ hitsF d i (k + 1) q
theorem list_get {H : Hp} : ∀ {kvs : List (Key × V)} {ls : Lists} {l mk cn : Str}, Paired (ListEnt H) kvs ls → ls.lookup l = some (mk, cn) → ∃ b, valV kvs (Sum.inr l : Key) = some (.ref b) ∧ H b = some (.tup [.str mk, .str cn])
  | _, _, _, _, _, .nil, h => by cases h
  | kv :: kvs, e :: ls, l, mk, cn, .cons h q, z => by
    obtain ⟨e1, b, e2, hb⟩ := h
    rw [List.lookup_cons] at z
    by_cases y : l = e.1
    · rw [show (l == e.1) = true by rw [y]; exact beq_self_eq_true _] at z
      have z : e.2 = (mk, cn) := Option.some.inj z
      rw [z] at hb
      exact ⟨b, by rw [← e2]; exact valV_pos (p := kv) (by rw [e1, y]), hb⟩
    · rw [show (l == e.1) = false from beq_eq_false_iff_ne.mpr y] at z
      obtain ⟨b', q1, q2⟩ := list_get q z
      exact ⟨b', (valV_neg (p := kv) (fun x => y (by rw [e1] at x; exact (Sum.inr.inj x).symm))).trans q1, q2⟩
theorem fmI_hits {K : PySem.W.Frag} {H : Hp} {val : Nat → V → Option V} {d : PyData} {i : Nat} : ∀ {xs : List V} {rows : List (List PyData)} {k : Nat}, Paired (RowAt K H) xs rows → (∀ j v r, xs[j]? = some v → rows[j]? = some r → val (k + j) v = if PyData.eqv (r[i]?.getD .none) d = true then some (.int (k + j : Nat)) else none) → fmI val k xs = (hitsF d i k rows).map fun j : Nat => V.int j
  | _, _, _, .nil, _ => rfl
  | x :: xs, r :: rows, k, .cons h q, hv => by
    have h0 := hv 0 x r rfl rfl
    rw [Nat.add_zero] at h0
    rw [fmI, hitsF, List.map_append, fmI_hits q (fun j v r' hj hr => by have := hv (j + 1) v r' hj hr; rw [show k + (j + 1) = k + 1 + j by omega] at this; exact this), h0]
    congr 1
    split <;> rfl
def spListed (K : PySem.W.Frag) (CS CN CR C : Addr) : Sp := fun vs H Q E => ∃ (p : Addr) (v av nv : V) (d a nd : PyData) (u : Str) (ts : Tabs) (rs : RowsD), vs = [.ref p, v, av, nv] ∧ StoreAt K CS C H p u ts rs ∧ Dp K H v d ∧ Dp K H av a ∧ Dp K H nv nd ∧ (∀ x, a = .str x → x.length ≤ 4000) ∧ (rowsD rs d).length ≤ 100000 ∧
  ((tabD ts d = false ∧ NoN CN v H E) ∨ (tabD ts d = true ∧ idxD (rowsD rs d).length a = false ∧ Bad2 CR "table" "at" v av H E) ∨
    (tabD ts d = true ∧ idxD (rowsD rs d).length a = true ∧ ∃ n ls, d = .str n ∧ (mirOf ts).lookup n = some ls ∧ ((strD (fun l => decide (l ∈ ls.map (·.1))) nd = false ∧ NoN CN nv H E) ∨
      ∃ l mk cn mcs i, nd = .str l ∧ ls.lookup l = some (mk, cn) ∧ ts.lookup mk = some mcs ∧ mcs.length ≤ 1000 ∧ (∀ c ∈ mcs, SeqAt.shaped (.str c.name) = true) ∧ SeqAt.shaped (.str cn) = true ∧ placeF (.str cn) 0 mcs = some i ∧
        (rowsD rs (.str mk)).length ≤ 90000 ∧ (∀ r ∈ rowsD rs (.str mk), r.length = mcs.length ∧ ∀ x ∈ r, flatD x = true ∧ SeqAt.shaped x = true) ∧ SeqAt.shaped a = true ∧
        ∀ L H', Ex H H' → H L = none → H' L = some (.lst ((hitsF a i 0 (rowsD rs (.str mk))).map fun j : Nat => V.int j)) → Q (.ref L) H')))
section
variable {base : Heap} {mg : Str → Option Value} {K : PySem.W.Frag} {w : World} {P : Program} {CS CN CR C fI : Addr} {fdI : FuncData}
theorem ok_listed {f : Addr} {fd : FuncData} (S : StoC K CS) (me : Meth K CS "listed" f) (F : C8.Fun K "listed" "Store.listed" s_Store_listed f fd) (b : Binds K fd ["self", "table", "at", "name"] []) (B : Blt mg)
    (NX : ExC P w K mg base "NoName" CN fI fdI ["self", "name"] 1 (spExI CN "name"))
    (m__need_row : MetX P w K mg base 4 CS "_need_row" (spNeedR K CS CN CR C)) (m__place : MetX P w K mg base 4 CS "_place" (spPlace K CS CN C)) (m_lists : MetX P w K mg base 3 C "lists" (spLists K C CN)) : MetX P w K mg base 5 CS "listed" (spListed K CS CN CR C) := by
  have sc : FnScope ["self", "table", "at", "name", "lists", "maker", "column", "place", "index", "row"] ["self", "table", "at", "name"] (C8.fnScope s_Store_listed) := C8.fnScope_by (by decide +kernel)
  refine ⟨f, fd, _, S.cls, me, fnX F sc (fun vs H Q E h => ?_) (fun cdv A outer s H vs Q E hr h => ?_), b⟩
  · obtain ⟨_, _, _, _, _, _, _, _, _, _, rfl, _⟩ := h
    rfl
  · obtain ⟨p, v, av, nv, d, a, nd, u, ts, rs, rfl, hA, hd, ha, hn, la, lr, k⟩ := h
    have hA0 := hA
    obtain ⟨⟨sch, dr, kvs, hP, hS⟩, nm⟩ := hA
    obtain ⟨dx, fs, hp, h1, h2, h3⟩ := hP.ins
    obtain ⟨_, _, _, _, dx2, fs2, _, _, _, _, hp2, hf2, _⟩ := hS.ex
    refine ⟨_, (pss_cons (ps_expr ((pe_mx m__need_row hr (by decide) (passE (takes_of rfl rfl rfl rfl)) (pv 0) (pa_cons (pv 1) (pa_cons (pv 2) pa_nil)))))
        (pss_cons (ps_set (i := 4) sc.nd rfl (Or.inl rfl) ((pe_mx m_lists hr (by decide) passF (pe_fldK (K := K) rfl (pv 0) rfl) (pa_cons (pv 1) pa_nil))))
        (pss_cons (ps_if (PW.pt (pw_or (pt_not (pt_val (pe_callB (call_isiK1 (K := K) rfl) (by rfl) B.isinstance_ (by decide +kernel) (pa_cons (pv 3) (pa_cons (pe_bltn (v := .ty "str") (u := .type "str") (by rfl) B.str_ (by decide +kernel) rfl) pa_nil))))) (pw_or1 (pt_cmp (pc_dnotin (hu_of hr) (pv 3) (pv 4))))))
        (pss_one (ps_raiseL rfl (takes_of rfl rfl rfl rfl) (pmk_L NX.T NX.iC NX.tI NX.F (hr.mono (by decide)) NX.b (by rfl) NX.mgC (pa_cons (pv 3) pa_nil))))
        pss_nil)
        (pss_cons (ps_asg (pe_dget (hu_of hr) (pv 4) (pv 3) (fun _ _ => rfl)) (pg_tupK (K := K) (n := 2) rfl rfl (pgs_cons (pg_name (i := 5) sc.nd rfl (Or.inl rfl)) (pgs_cons (pg_name (i := 6) sc.nd rfl (Or.inl rfl)) pgs_nil))))
        (pss_cons (ps_set (i := 7) sc.nd rfl (Or.inr rfl) ((pe_mx m__place hr (by decide) passF (pv 0) (pa_cons (pv 5) (pa_cons (pv 6) pa_nil)))))
        (pss_one (ps_ret (pe_lc (own := [("index", 8), ("row", 9)]) (by rfl) sc.nd (pi_enumK (K := K) rfl (by rfl) B.enumerate_ (pa_cons (pe_dget (hu_of hr) (pe_fldK (K := K) rfl (pv 0) rfl) (pv 5) (fun _ _ => rfl)) pa_nil)) (blkOk_by (own := [("index", 8), ("row", 9)]) (N := ["self", "table", "at", "name", "lists", "maker", "column", "place", "index", "row"]) (sc := C8.fnScope s_Store_listed) (by decide +kernel)) (fun _ _ _ _ _ => (pg_tupK (K := K) (n := 2) rfl rfl (pgs_cons (pg_name (i := 8) sc.nd rfl (Or.inl rfl)) (pgs_cons (pg_name (i := 9) sc.nd rfl (Or.inl rfl)) pgs_nil)))) (fun _ _ _ _ _ => pts_one (pt_cmpR (op_eqDK (K := K) rfl (hu64 hr)) (pe_ix (ix_tupK (K := K) rfl) (pv 9) (pv 7) (fun _ _ => rfl)) (pv 2) (nomark _))) (fun _ _ _ _ _ => (pv 8)))))))))), ?_⟩
    walk_at "w"
    refine w_kMeth hp (h3 _ (by decide +kernel) (by decide +kernel)) ?_
    walk_at "w"
    refine ⟨p, v, av, d, a, u, ts, rs, rfl, hA0, hd, ha, la, lr, ?_⟩
    rcases k with k | k | ⟨e, i, n, ls, rfl, hls, k⟩
    · exact .inr (.inl k)
    · exact .inr (.inr k)
    refine .inl ⟨e, i, ?_⟩
    cases hd
    walk_at "w"
    refine w_kFld hp S.cls S.schema_ h1 ?_
    refine w_kMeth hp2 (hf2.no _ (by decide +kernel)) ?_
    walk_at "w"
    refine ⟨sch, .str n, .str n, u, ts, rfl, hS, .str n, .inl ⟨n, ls, rfl, of_decide_eq_true e, hls, fun D H1 hD e1 hrow => ?_⟩⟩
    walk_at "w"
    have eD : Ex H H1 := e1
    have hn1 := dp_ext eD hn
    obtain ⟨lkv, hDk, hlp⟩ := hrow
    refine w_isStr hn1 ?_
    have refuse : strD (fun l => decide (l ∈ ls.map (·.1))) nd = false ∧ NoN CN nv H E ∨ strD (fun l => decide (l ∈ ls.map (·.1))) nd = true := by
      rcases k with k | ⟨l, mk, cn, mcs, i, rfl, hl, _⟩
      · exact .inl k
      · exact .inr (decide_eq_true (List.mem_map.mpr ⟨_, PySem.mem_of_lookup hl, rfl⟩))
    cases hs : isStrD nd with
    | false =>
      refine ⟨false, rfl, ?_⟩
      rcases refuse with ⟨_, kN⟩ | z
      · walk_at "w"
        exact ⟨by simp, fun a ha => raised (kN.ext eD) a ha⟩
      · exfalso
        cases nd <;> first | cases z | cases hs
    | true =>
    obtain ⟨l, rfl⟩ : ∃ l, nd = .str l := by cases nd <;> first | exact ⟨_, rfl⟩ | cases hs
    cases hn
    refine ⟨true, rfl, ?_⟩
    walk_at "w"
    refine ⟨D, _, rfl, DGet.k (k := Sum.inr l) hDk, ?_⟩
    rw [ListRow.has hlp l]
    rcases k with ⟨z, kN⟩ | ⟨_, mk, cn, mcs, i, el, hl, hmk, lmc, shm, shc, hpl, lrm, hrm, sha, k⟩
    · rw [show decide (l ∈ ls.map (·.1)) = false from z]
      walk_at "w"
      exact ⟨by simp, fun a ha => raised (kN.ext eD) a ha⟩
    cases el
    rw [decide_eq_true (List.mem_map.mpr ⟨_, PySem.mem_of_lookup hl, rfl⟩)]
    walk_at "w"
    obtain ⟨lb, g1, g2⟩ := list_get hlp hl
    refine ⟨D, .ref lb, rfl, g1 ▸ DGet.k (k := Sum.inr l) hDk, ?_⟩
    walk_at "w"
    refine w_kMeth (eD _ _ hp) (h3 _ (by decide +kernel) (by decide +kernel)) ?_
    walk_at "w"
    refine ⟨p, mk, .str cn, .str cn, u, ts, rs, mcs, rfl, hA0.ext eD, hmk, lmc, shm, .str cn, shc, .inl ⟨i, hpl, fun H2 e2 => ?_⟩⟩
    have hP2 := hP.ext (eD.trans e2)
    obtain ⟨_, en, hlr⟩ := tab_rows (d := .str mk) hA0.nm (decide_eq_true (List.mem_map.mpr ⟨_, PySem.mem_of_lookup hmk, rfl⟩))
    cases en
    obtain ⟨lm, xs, q1, q2, q3⟩ := ent_get hP2.rows hlr
    have ll := paired_len q3
    walk_at "w"
    refine w_kFld (eD.trans e2 _ _ hp) S.cls S._rows_ h2 ?_
    walk_at "w"
    refine ⟨dr, .ref lm, rfl, q1 ▸ DGet.k (k := Sum.inr mk) hP2.dict, ?_⟩
    walk_at "w"
    intro D2 hD2
    have eA : Ex H H2 := eD.trans e2
    refine compEP (xs := xs) (fun j _ => if PyData.eqv (((((rowsD rs (.str mk))[j]?).getD []))[i]?.getD .none) a = true then some (.int (j : Nat)) else none) hD2 (SqL.of q2) (by rw [ll]; exact lrm) (fun j y H3 T hy e3 hT kk kn hk hn' => ?_) (fun H3 e3 hL => ?_)
    · obtain ⟨r, hr', ra, rfl, hra⟩ := paired_ix q3 hy
      have hmr : r ∈ rowsD rs (.str mk) := List.mem_of_getElem? hr'
      obtain ⟨lr1, lr2⟩ := hrm r hmr
      have li := (place_lt hpl).2
      rw [Nat.zero_add] at li
      have lir : i < r.length := by omega
      have hcell : (r.map cellV)[i]? = some (cellV r[i]) := by rw [List.getElem?_map, List.getElem?_eq_getElem lir]; rfl
      obtain ⟨fl, shx⟩ := lr2 _ (List.getElem_mem lir)
      have ev : ((((rowsD rs (.str mk))[j]?).getD []))[i]?.getD .none = r[i] := by rw [hr', Option.getD_some, List.getElem?_eq_getElem lir]; rfl
      rw [ev] at hk hn'
      walk_at "w"
      refine w_ixT (Evl.ex_t e3 hra) (atI_nat hcell) ?_
      walk_at "w"
      refine ⟨r[i], a, cell_dp fl, dp_ext (eA.trans e3) ha, shx, sha, ?_⟩
      cases hq : PyData.eqv r[i] a with
      | true =>
        rw [hq, if_pos rfl] at hk
        walk_at "w"
        exact hk _ _ (Ex.refl _) rfl
      | false =>
        rw [hq, if_neg (by decide)] at hn'
        walk_at "w"
        exact hn' _ (Ex.refl _) rfl
    · rw [fmI_hits (d := a) (i := i) q3 (fun j v r hj hr => by rw [Nat.zero_add, hr]; rfl)] at hL
      refine k D2 H3 (eA.trans e3) ?_ hL
      cases z : H D2 with
      | none => rfl
      | some o => rw [eA _ _ z] at hD2; cases hD2
    exact p
end
end LP
namespace LP
open PySem L2
open Evl (Ex)
def lenS (rs : RowsD) : Nat := (rs.map fun r => r.2.length).sum
/-- the rows that a table's name leads to -/
def innV (H : Hp) (kvs : List (Key × V)) (n : Str) : List V := match valV kvs (Sum.inr n : Key) with
  | some (.ref l) => match H l with
    | some (.lst vs) => vs
    | _ => []
  | _ => []
theorem inn_at {K : PySem.W.Frag} {H : Hp} {kvs : List (Key × V)} {rs : RowsD} {n : Str} {rows : List (List PyData)} (h : Paired (RowsEnt K H) kvs rs) (e : rs.lookup n = some rows) : ∃ l, valV kvs (Sum.inr n : Key) = some (.ref l) ∧ H l = some (.lst (innV H kvs n)) ∧ Paired (RowAt K H) (innV H kvs n) rows := by
  obtain ⟨l, vs, q1, q2, q3⟩ := ent_get h e
  have : innV H kvs n = vs := by
    unfold innV
    rw [q1]
    show (match H l with | some (.lst vs) => vs | _ => []) = vs
    rw [q2]
  exact ⟨l, q1, by rw [this]; exact q2, by rw [this]; exact q3⟩
theorem look_own : ∀ {rs : RowsD}, (rs.map (·.1)).Nodup → ∀ r ∈ rs, rs.lookup r.1 = some r.2
  | [], _, _, h => absurd h List.not_mem_nil
  | q :: rs, hn, r, h => by
    rw [List.map_cons,
            List.nodup_cons] at hn
    rw [List.lookup_cons]
    rcases List.mem_cons.1 h with rfl | h
    · rw [show (r.1 == r.1) = true from beq_self_eq_true _]
    · have : ¬ r.1 = q.1 := fun e => hn.1 (by rw [← e]; exact List.mem_map.mpr ⟨r, h, rfl⟩)
      rw [show (r.1 == q.1) = false from beq_eq_false_iff_ne.mpr this]
      exact look_own hn.2 r h
def gotV (H : Hp) (kvs : List (Key × V)) (rs : RowsD) : List V := rs.flatMap fun r => innV H kvs r.1
theorem got_len {K : PySem.W.Frag} {H : Hp} {kvs : List (Key × V)} {rs : RowsD} (h : Paired (RowsEnt K H) kvs rs) (hn : (rs.map (·.1)).Nodup) : ∀ {q : RowsD}, (∀ r ∈ q, r ∈ rs) → (gotV H kvs q).length = lenS q
  | [], _ => rfl
  | r :: q, hq => by
    obtain ⟨l, _, _, g⟩ := inn_at h (look_own hn r (hq r List.mem_cons_self))
    show (innV H kvs r.1 ++ gotV H kvs q).length = (r.2.length :: q.map fun r => r.2.length).sum
    rw [List.length_append, List.sum_cons, got_len h hn (q := q) fun x hx => hq x (List.mem_cons_of_mem _ hx), paired_len g]
    rfl
def spLenS (K : PySem.W.Frag) (CS C : Addr) : Sp := fun vs H Q _ => ∃ (p : Addr) (u : Str) (ts : Tabs) (rs : RowsD), vs = [.ref p] ∧ StoreAt K CS C H p u ts rs ∧ (ts.map (·.1)).Nodup ∧ lenS rs ≤ 90000 ∧ ∀ H', Ex H H' → Q (.int (lenS rs : Nat)) H'
section
variable {base : Heap} {mg : Str → Option Value} {K : PySem.W.Frag} {w : World} {P : Program} {CS C : Addr}
theorem ok_len_store {f : Addr} {fd : FuncData} (S : StoC K CS) (SC : SchC K C) (me : Meth K CS "__len__" f) (F : C8.Fun K "__len__" "Store.__len__" s_Store___len__ f fd) (b : Binds K fd ["self"] []) (B : Blt mg) :
    C8.Met P w K mg base 1 CS "__len__" (spLenS K CS C) [] := by
  have sc : FnScope ["self", "table", "row"] ["self"] (C8.fnScope s_Store___len__) := C8.fnScope_by (by decide +kernel)
  refine C8.met0 S.cls me F b sc (fun vs H Q E h => ?_) (fun cdv A outer s H vs Q E hr h => ?_)
  · obtain ⟨_, _, _, _, rfl, _⟩ := h
    rfl
  · obtain ⟨p, u, ts, rs, rfl, hA, nd, lz, k⟩ := h
    refine ⟨_, (pss_one (ps_ret (pe_callB (call_len_seqK (K := K) rfl) (by rfl) B.len_ (by decide +kernel) (pa_cons (pe_lc2 (own := [("table", 1), ("row", 2)]) (vs1 := [2]) (by rfl) sc.nd (pi_tupK (K := K) rfl (pe_fldK (K := K) rfl (pe_fldK (K := K) rfl (pv 0) rfl) rfl)) (blkOk_by (own := [("table", 1), ("row", 2)]) (N := ["self", "table", "row"]) (sc := C8.fnScope s_Store___len__) (by decide +kernel)) (by decide) (fun _ _ _ _ _ => (pg_name (i := 1) sc.nd rfl (Or.inl rfl))) (fun _ _ _ _ _ => pts_nil) (fun _ _ _ _ _ => (pi_listK (K := K) rfl (pe_dget (hu_of hr) (pe_fldK (K := K) rfl (pv 0) rfl) (pv 1) (fun _ _ => rfl)))) (fun _ _ _ _ _ => (pg_name (i := 2) sc.nd rfl (Or.inl rfl))) (fun _ _ _ _ _ => pts_nil) (fun _ _ _ _ _ => (pv 2))) pa_nil)))), ?_⟩
    walk_at "w"
    obtain ⟨⟨sch, dr, kvs, hP, hS⟩, nm⟩ := hA
    obtain ⟨dx, fs, hp, h1, h2, h3⟩ := hP.ins
    obtain ⟨_, _, _, _, dx2, fs2, tt, _, _, _, hp2, hf2, _, htS, httS, _⟩ := hS.ex
    rw [← nm] at nd
    unfold tLc2
    refine w_iTup ?_
    walk_at "w"
    refine w_kFld hp S.cls S.schema_ h1 ?_
    walk_at "w"
    refine w_kFld hp2 SC.cls SC.tables_ htS ?_
    walk_at "w"
    have ext : (rs.map fun r => V.str r.1) = ts.map fun t => V.str t.1 := by
      have : (rs.map (·.1)).map V.str = (ts.map (·.1)).map V.str := by rw [nm]
      rw [List.map_map, List.map_map] at this
      exact this
    have hT : SqT K H tt (rs.map fun r => V.str r.1) := by rw [ext]; exact SqT.of httS
    intro D hD
    have ne : ∀ a o, H a = some o → a ≠ D := fun a o h => ne_of_none h hD
    have up : ∀ xs, Ex H (upd H D (.lst xs)) := fun xs a o h => by rw [upd_ne (ne a o h)]; exact h
    have upup : ∀ xs ys, upd (upd H D (.lst xs)) D (.lst ys) = upd H D (.lst ys) := fun xs ys => by
      funext b
      by_cases e : b = D
      · rw [e, upd_same, upd_same]
      · rw [upd_ne e, upd_ne e, upd_ne e]
    have tot : (gotV H kvs rs).length ≤ 90000 := by rw [got_len hP.rows nd fun _ h => h]; exact lz
    have sz : ∀ n : Nat, n ≤ 90000 → n < sizeLine := fun n h => Nat.lt_of_le_of_lt h (by decide)
    refine ⟨fun i m H' => m = rs.length - i ∧ i ≤ rs.length ∧ H' = upd H D (.lst (gotV H kvs (rs.take i))), ⟨_, rfl, Nat.zero_le _, rfl⟩, ?_⟩
    rintro i m H' ⟨rfl, hi, rfl⟩
    have hT' := Evl.ex_t (up (gotV H kvs (rs.take i))) hT
    by_cases hlt : i < rs.length
    · have hri : rs[i]? = some rs[i] := List.getElem?_eq_getElem hlt
      have hx : (rs.map fun r => V.str r.1)[i]? = some (V.str rs[i].1) := by rw [List.getElem?_map, hri]; rfl
      refine .inr ⟨⟨_, _, hT', hx⟩, fun H2 => H2 = upd H D (.lst (gotV H kvs (rs.take (i + 1)))), fun H2 e => ⟨rs.length - (i + 1), by omega, rfl, hlt, e⟩, fun x H2 y => ?_⟩
      obtain ⟨rfl, y⟩ := y
      have ex : x = V.str rs[i].1 := by
        have z := y _ hT'
        rw [hx] at z
        exact (Option.some.inj z).symm
      subst ex
      walk_at "w"
      have lr : rs.lookup rs[i].1 = some rs[i].2 := look_own nd _ (List.getElem_mem hlt)
      obtain ⟨l, g1, g2, g3⟩ := inn_at hP.rows lr
      have e2 : rs.take (i + 1) = rs.take i ++ [rs[i]] := by
        rw [List.take_succ, hri]
        rfl
      have etk : gotV H kvs (rs.take (i + 1)) = gotV H kvs (rs.take i) ++ innV H kvs rs[i].1 := by
        unfold gotV
        rw [e2, List.flatMap_append, List.flatMap_cons, List.flatMap_nil, List.append_nil]
      have lall : (gotV H kvs (rs.take i)).length + (innV H kvs rs[i].1).length ≤ 90000 := by
        have z : gotV H kvs rs = gotV H kvs (rs.take (i + 1)) ++ gotV H kvs (rs.drop (i + 1)) := by
          unfold gotV
          rw [← List.flatMap_append, List.take_append_drop]
        have z' := congrArg List.length z
        rw [etk, List.length_append, List.length_append] at z'
        omega
      generalize hG : gotV H kvs (rs.take i) = G at *
      generalize hI : innV H kvs rs[i].1 = I at *
      refine w_kFld (up G _ _ hp) S.cls S._rows_ h2 ?_
      walk_at "w"
      refine ⟨dr, .ref l, rfl, g1 ▸ DGet.k (k := Sum.inr rs[i].1) (up G _ _ hP.dict), ?_⟩
      have hl := fun xs => up xs _ _ g2
      refine w_kList (SqL.of (hl G)) ?_
      refine ⟨fun j m H' => m = I.length - j ∧ j ≤ I.length ∧ H' = upd H D (.lst (G ++ I.take j)), ⟨_, rfl, Nat.zero_le _, by rw [List.take_zero, List.append_nil]⟩, ?_⟩
      rintro j m H' ⟨rfl, hj, rfl⟩
      have hS' : SqL K (upd H D (.lst (G ++ I.take j))) l I := SqL.of (hl _)
      by_cases hlj : j < I.length
      · have hxj : I[j]? = some I[j] := List.getElem?_eq_getElem hlj
        refine .inr ⟨⟨_, _, hS', hxj⟩, fun H2 => H2 = upd H D (.lst (G ++ I.take (j + 1))), fun H2 e => ⟨I.length - (j + 1), by omega, rfl, hlj, e⟩, fun x H2 y => ?_⟩
        obtain ⟨rfl, y⟩ := y
        have ex : x = I[j] := by
          have z := y _ hS'
          rw [hxj] at z
          exact (Option.some.inj z).symm
        subst ex
        walk_at "w"
        refine ⟨G ++ I.take j, upd_same, sz _ (by rw [List.length_append, List.length_take]; omega), ?_⟩
        show upd _ D _ = upd H D _
        rw [upup, List.append_assoc]
        congr 3
        rw [List.take_succ, hxj]
        rfl
      · have e : I.length = j := by omega
        refine .inl ⟨⟨_, hS', by omega⟩, ?_⟩
        show upd H D _ = upd H D _
        rw [etk, ← e, List.take_length]
    · have e : rs.length = i := by omega
      refine .inl ⟨⟨_, hT', by rw [List.length_map]; omega⟩, ?_⟩
      have e1 : rs.take i = rs := by rw [← e]; exact List.take_length
      rw [e1]
      show tNil _ _ _
      walk_at "w"
      rw [got_len hP.rows nd fun _ h => h]
      exact k _ (up _)
end
end LP
namespace LP
open PySem L2
open Evl (Ex)
/-- what a pair tells: whether it is a table's name with a row's index -/
def hasS (ts : Tabs) (rs : RowsD) : PyData → Bool
  | .tuple [x, y] => tabD ts x && idxD (rowsD rs x).length y
  | _ => false
def spHasS (K : PySem.W.Frag) (CS C : Addr) : Sp := fun vs H Q _ => ∃ (p : Addr) (v : V) (d : PyData) (u : Str) (ts : Tabs) (rs : RowsD), vs = [.ref p, v] ∧ StoreAt K CS C H p u ts rs ∧ Dp K H v d ∧
  (∀ x y, d = .tuple [x, y] → (rowsD rs x).length ≤ 100000 ∧ ∀ z, y = .str z → z.length ≤ 4000) ∧ (∀ r, d = .tuple r → r.length ≤ 1000) ∧ Q (.bl (hasS ts rs d)) H
section
variable {base : Heap} {mg : Str → Option Value} {K : PySem.W.Frag} {w : World} {P : Program} {CS C : Addr}
theorem ok_has_store {f : Addr} {fd : FuncData} (S : StoC K CS) (SC : SchC K C) (me : Meth K CS "__contains__" f) (F : C8.Fun K "__contains__" "Store.__contains__" s_Store___contains__ f fd) (b : Binds K fd ["self", "pair"] []) (B : Blt mg)
    (c___contains__ : C8.Met P w K mg base 1 C "__contains__" (spContains K C) []) (c_is_index : C8.Cal P w K mg base 2 "is_index" (spIndex K) []) :
    C8.Met P w K mg base 3 CS "__contains__" (spHasS K CS C) [] := by
  have sc : FnScope ["self", "pair"] ["self", "pair"] (C8.fnScope s_Store___contains__) := C8.fnScope_by (by decide +kernel)
  refine C8.met0 S.cls me F b sc (fun vs H Q E h => ?_) (fun cdv A outer s H vs Q E hr h => ?_)
  · obtain ⟨_, _, _, _, _, _, rfl, _⟩ := h
    rfl
  · obtain ⟨p, v, d, u, ts, rs, rfl, hA, hd, hz, hl, k⟩ := h
    obtain ⟨⟨sch, dr, kvs, hP, hS⟩, nm⟩ := hA
    obtain ⟨dx, fs, hp, h1, h2, h3⟩ := hP.ins
    obtain ⟨dc, dl, cvs, rsS, _, _, _, _, hPS, _, hpS, _⟩ := hS.ex
    refine ⟨_, (pss_cons (ps_if (PW.pt (pw_or (pt_not (pt_val (pe_callB (call_isiK1 (K := K) rfl) (by rfl) B.isinstance_ (by decide +kernel) (pa_cons (pv 1) (pa_cons (pe_bltn (v := .ty "tuple") (u := .type "tuple") (by rfl) B.tuple_ (by decide +kernel) rfl) pa_nil))))) (pw_or (pt_cmpR op_ne (pe_callB (call_len_seqK (K := K) rfl) (by rfl) B.len_ (by decide +kernel) (pa_cons (pv 1) pa_nil)) pe_int (nomark _)) (pw_or1 (pt_cmpR (op_onin (dvs := []) c___contains__ hr (by decide)) (pe_ix (ix_tupK (K := K) rfl) (pv 1) pe_int (fun _ _ => rfl)) (pe_fldK (K := K) rfl (pv 0) rfl) (by rfl))))))
        (pss_one (ps_ret pe_bl))
        pss_nil)
        (pss_one (ps_ret (C8.pe_c c_is_index hr (by decide) rfl (pa_cons (pe_ix (ix_tupK (K := K) rfl) (pv 1) pe_int (fun _ _ => rfl)) (pa_cons (pe_callB (call_len_seqK (K := K) rfl) (by rfl) B.len_ (by decide +kernel) (pa_cons (pe_dget (hu_of hr) (pe_fldK (K := K) rfl (pv 0) rfl) (pe_ix (ix_tupK (K := K) rfl) (pv 1) pe_int (fun _ _ => rfl)) (fun _ _ => rfl)) pa_nil)) pa_nil)))))), ?_⟩
    walk_at "w"
    refine w_isTuQ hd ?_
    cases hb : isTuQ d with
    | false =>
      have e0 : hasS ts rs d = false := by cases d <;> first | rfl | cases hb
      rw [e0] at k
      walk_at "w"
      exact k
    | true =>
    obtain ⟨r, rfl⟩ : ∃ r, d = .tuple r := by cases d <;> first | exact ⟨_, rfl⟩ | cases hb
    cases hd with
    | @tup a xs _ ha hx =>
    have lx := dpAll_len hx
    walk_at "w"
    refine iteND (fun hne => ?_) (fun he => ?_)
    · have e0 : hasS ts rs (.tuple r) = false := by
        cases r with
        | nil => rfl
        | cons x r =>
          cases r with
          | nil => rfl
          | cons y r =>
            cases r with
            | nil => exact absurd (by rw [lx]; rfl) hne
            | cons _ _ => rfl
      rw [e0] at k
      walk_at "w"
      exact k
    have l2 : r.length = 2 := by
      injection he with he
      omega
    obtain ⟨x, y, rfl⟩ : ∃ x y, r = [x, y] := by
      match r, l2 with
      | [x, y], _ => exact ⟨x, y, rfl⟩
    cases hx with
    | @cons v0 _ _ _ hx hys =>
    cases hys with
    | @cons v1 _ _ _ hy hnil =>
    cases hnil
    obtain ⟨z1, z2⟩ := hz x y rfl
    walk_at "w"
    refine w_kFld hp S.cls S.schema_ h1 ?_
    refine w_ownIn hpS ?_
    refine ⟨sch, v0, x, dc, dl, cvs, rsS, ts, rfl, hPS, hx, ?_⟩
    have k : Q (.bl (tabD ts x && idxD (rowsD rs x).length y)) H := k
    cases ht : tabD ts x with
    | false =>
      rw [ht, Bool.false_and] at k
      rw [show strD (fun n => decide (n ∈ ts.map (·.1))) x = false from ht]
      refine ⟨false, rfl, true, rfl, iteT ?_⟩
      walk_at "w"
      exact k
    | true =>
      rw [ht, Bool.true_and] at k
      rw [show strD (fun n => decide (n ∈ ts.map (·.1))) x = true from ht]
      refine ⟨true, rfl, false, rfl, iteF ?_⟩
      obtain ⟨n, rfl, hlr⟩ := tab_rows nm ht
      cases hx
      obtain ⟨l, xs, q1, q2, q3⟩ := ent_get hP.rows hlr
      have ll := paired_len q3
      walk_at "w"
      refine w_kFld hp S.cls S._rows_ h2 ?_
      walk_at "w"
      refine ⟨dr, .ref l, rfl, q1 ▸ DGet.k (k := Sum.inr n) hP.dict, ?_⟩
      walk_at "w"
      rw [← ll] at k
      exact ⟨v1, y, _, rfl, hy, z2, k⟩
end
end LP
namespace LP
open PySem L2
/-! ### == of two dicts from texts to data -/
def EntD (K : PySem.W.Frag) (H : Hp) (p : Key × V) (q : Str × PyData) : Prop := p.1 = .inr q.1 ∧ Dp K H p.2 q.2 ∧ SeqAt.shaped q.2 = true
def eqEntD (db : List (Str × PyData)) (q : Str × PyData) : Bool := match db.lookup q.1 with
  | none => false
  | some e => PyData.eqv q.2 e
def eqMapD (da db : List (Str × PyData)) : Bool := da.length == db.length && da.all (eqEntD db)
theorem entD_get {K : PySem.W.Frag} {H : Hp} : ∀ {ls : List (Key × V)} {db : List (Str × PyData)} (n : Str), Paired (EntD K H) ls db → (valV ls (Sum.inr n : Key) = none ∧ db.lookup n = none) ∨ ∃ v e, valV ls (Sum.inr n : Key) = some v ∧ db.lookup n = some e ∧ Dp K H v e ∧ SeqAt.shaped e = true
  | _, _, _, .nil => .inl ⟨rfl, rfl⟩
  | kv :: kvs, q :: db, n, .cons h t => by
    obtain ⟨e1, hd, hs⟩ := h
    by_cases z : n = q.1
    · exact .inr ⟨kv.2, q.2, valV_pos (p := kv) (by rw [e1, z]), by rw [List.lookup_cons, show (n == q.1) = true by rw [z]; exact beq_self_eq_true _], hd, hs⟩
    · rw [valV_neg (p := kv) (fun y => z (by rw [e1] at y; exact (Sum.inr.inj y).symm)), List.lookup_cons, show (n == q.1) = false from beq_eq_false_iff_ne.mpr z]
      exact entD_get n t
section
variable {X : Cx}
        {pins : List (Addr × Obj)} {σ : L2.St} {H : Hp} {s : Shared}
theorem hitsD (I : Inv X pins σ H s) {A : Around} (hu : A.in1.units + 64 < cLine) {ls : List (Key × V)} {db : List (Str × PyData)} {vb : List (Key × Value)} (rb : KV ls vb) (hb : Paired (EntD X.K H) ls db) :
    ∀ {ks : List (Key × V)} {da : List (Str × PyData)} {va : List (Key × Value)}, Paired (EntD X.K H) ks da → KV ks va → PySem.W.KeqHitsP X.prog X.w A.in1 s vb va (da.all (eqEntD db)) := by
  intro ks da va h
  induction h generalizing va with
  | nil => intro ra; cases ra; exact .nil
  | @cons p q ks da h t ih =>
    intro ra
    cases ra with
    | @cons _ pv _ va h1 h2 =>
    obtain ⟨k1, r1⟩ := h1
    obtain ⟨e1, hd, hs⟩ := h
    obtain ⟨key, v⟩ := pv
    have k1 : p.1 = key := k1
    have r1 : RelV p.2 v := r1
    subst k1
    rw [List.all_cons]
    have rr : RelO (valV ls p.1) (valueAt vb p.1) := rb.val p.1
    rw [e1] at rr
    rcases entD_get q.1 hb with ⟨n1, n2⟩ | ⟨y, e, s1, s2, hy, sy⟩
    · rw [n1] at rr
      have : eqEntD db q = false := by unfold eqEntD; rw [n2]
      rw [this, Bool.false_and, e1]
      refine .miss ?_
      cases z : valueAt vb (Sum.inr q.1 : Key) with
      | none => rfl
      | some _ => rw [z] at rr; exact rr.elim
    · rw [s1] at rr
      obtain ⟨u, hu', ru⟩ := rr.some_of
      have : eqEntD db q = PyData.eqv q.2 e := by unfold eqEntD; rw [s2]
      rw [this, e1]
      obtain ⟨as, ra1⟩ := Dp.reads I q.2 _ _ hd r1
      obtain ⟨bs, rb1⟩ := Dp.reads I e _ _ hy ru
      exact .hit hu' (PySem.W.keq_at ra1 rb1 hs sy hu).eqP (ih h2)
end
section
variable {X : Cx} {K : PySem.W.Frag}
def rEqMD (K : PySem.W.Frag) : R2 := fun x y H Q => ∃ a b ks ls da db, x = .ref a ∧ y = .ref b ∧ H a = some (.dK ks) ∧ H b = some (.dK ls) ∧ Paired (EntD K H) ks da ∧ Paired (EntD K H) ls db ∧ Q (.bl (eqMapD da db)) H
theorem op_eqMD (hK : X.K = K) (hu : X.A.units + 65 < cLine) : OpR X (compareOp .Eq) (rEqMD K) := by
  subst hK
  intro pins s σ H x y v u Q I rx ry h; obtain ⟨a, b, ks, ls, da, db, rfl, rfl, ha, hb, pa, pb, q⟩ := h
  cases (show v =
          Value.ref a from rx)
  cases (show u =
          Value.ref b from ry)
  obtain ⟨_, ya, va, ra, dA⟩ := (show ObjOk X.prog X.w H s.heap a (.dK ks) from I.hok a _ ha)
  obtain ⟨_, yb, vb, rb, dB⟩ := (show ObjOk X.prog X.w H s.heap b (.dK ls) from I.hok b _ hb)
  refine PySem.W.rcP_dicts (knd := mixKind X.prog X.w) (r := da.all (eqEntD db)) ya yb dA dB (by omega) (fun _ => hitsD I (by show X.A.units + 1 + 64 < cLine; omega) rb pb pa ra) _ _ ?_
  have e1 : va.length = da.length := by rw [← ra.length, paired_len pa]
  have e2 : vb.length = db.length := by rw [← rb.length, paired_len pb]
  rw [e1, e2]
  exact ⟨.bl _, H, I, rfl, q⟩
end
end LP
namespace LP
open PySem L2
open Evl (Ex)
def dataS (rs : RowsD) : List (Str × PyData) := rs.map fun r => (r.1, PyData.list (r.2.map PyData.tuple))
def RowsOk (rs : RowsD) : Prop := ∀ r ∈ rs, (∀ row ∈ r.2, ∀ x ∈ row, flatD x = true) ∧ SeqAt.shaped (.list (r.2.map PyData.tuple)) = true
theorem dp_cells {K : PySem.W.Frag} {H : Hp} : ∀ {r : List PyData}, (∀ x ∈ r, flatD x = true) → DpAll K H (r.map cellV) r
  | [], _ => .nil
  | x :: r, h => .cons (cell_dp (h x List.mem_cons_self)) (dp_cells fun y hy => h y (List.mem_cons_of_mem _ hy))
theorem dp_rows {K : PySem.W.Frag} {H : Hp} : ∀ {vs : List V} {rows : List (List PyData)}, Paired (RowAt K H) vs rows → (∀ row ∈ rows, ∀ x ∈ row, flatD x = true) → DpAll K H vs (rows.map PyData.tuple)
  | _, _, .nil, _ => .nil
  | _, _, .cons h q, f => by
    obtain ⟨a, rfl, ha⟩ := h
    exact .cons (.tup ha (dp_cells (f _ List.mem_cons_self))) (dp_rows q fun r hr => f r (List.mem_cons_of_mem _ hr))
theorem ents_data {K : PySem.W.Frag} {H : Hp} : ∀ {kvs : List (Key × V)} {rs : RowsD}, Paired (RowsEnt K H) kvs rs → RowsOk rs → Paired (EntD K H) kvs (dataS rs)
  | _, _, .nil, _ => .nil
  | _, r :: _, .cons h q, f => by
    obtain ⟨e1, l, vs, e2, hl, hv⟩ := h
    obtain ⟨f1, f2⟩ := f _ List.mem_cons_self
    exact .cons ⟨e1, by rw [e2]; exact .lst (SqL.of hl) (dp_rows hv f1), f2⟩ (ents_data q fun r hr => f r (List.mem_cons_of_mem _ hr))
/-- what isinstance asks of the class Store -/
structure IsS (K : PySem.W.Frag) (CS C : Addr) : Prop where
  s : IsC K CS
  c : IsC K C
  dict : PySem.W.kitOne K (.type "dict") (.ref CS) = some false
  sch : PySem.W.kitOne K (.ref C) (.ref CS) = some false
/-- what stands beside a store -/
inductive OddS (K : PySem.W.Frag) (C : Addr) (H : Hp) : V → Prop where
  | non : OddS K C H .non
  | int (i : Int) : OddS K C H (.int i)
  | dict {a : Addr} {kvs : List (Key × V)} (h : H a = some (.dK kvs)) : OddS K C H (.ref a)
  | sch {a dx : Addr} {fs : List (Str × V)} (h : H a = some (.ins C dx fs)) (c : Cls K C) : OddS K C H (.ref a)
def eqSt (u u' : Str) (ts ts' : Tabs) (rs rs' : RowsD) : Bool := decide (linesOf u ts = linesOf u' ts') && eqMapD (dataS rs) (dataS rs')
def spEqSt (K : PySem.W.Frag) (CS C : Addr) : Sp := fun vs H Q _ => ∃ (p : Addr) (v : V) (u : Str) (ts : Tabs) (rs : RowsD), vs = [.ref p, v] ∧ StoreAt K CS C H p u ts rs ∧ GoodTabs ts ∧ SOk u ∧ RowsOk rs ∧
  ((∃ q u' ts' rs', v = .ref q ∧ StoreAt K CS C H q u' ts' rs' ∧ GoodTabs ts' ∧ SOk u' ∧ RowsOk rs' ∧ Q (.bl (eqSt u u' ts ts' rs rs')) H) ∨ (OddS K C H v ∧ Q (.bl false) H))
section
variable {base : Heap} {mg : Str → Option Value} {K : PySem.W.Frag} {w : World} {P : Program} {CS C : Addr}
theorem ok_eq_store {f : Addr} {fd : FuncData} (S : StoC K CS) (I : IsS K CS C) (me : Meth K CS "__eq__" f) (F : C8.Fun K "__eq__" "Store.__eq__" s_Store___eq__ f fd) (b : Binds K fd ["self", "other"] []) (B : Blt mg) (T : CnsS K mg CS)
    (m___eq__ : C8.Met P w K mg base 2 C "__eq__" (spEqS K C) []) : C8.Met P w K mg base 3 CS "__eq__" (spEqSt K CS C) [] := by
  have sc : FnScope ["self", "other"] ["self", "other"] (C8.fnScope s_Store___eq__) := C8.fnScope_by (by decide +kernel)
  refine C8.met0 S.cls me F b sc (fun vs H Q E h => ?_) (fun cdv A outer s H vs Q E hr h => ?_)
  · obtain ⟨_, _, _, _, _, rfl, _⟩ := h
    rfl
  · obtain ⟨p, v, u, ts, rs, rfl, ⟨⟨sch, dr, kvs, hP, hS⟩, nm⟩, hG, su, ok, k⟩ := h
    obtain ⟨dx, fs, hp, h1, h2, h3⟩ := hP.ins
    refine ⟨_, (pss_one (ps_ret (pe_and (pe_callB (call_isiK1 (K := K) rfl) (by rfl) B.isinstance_ (by decide +kernel) (pa_cons (pv 1) (pa_cons (C8.pe_gc rfl T.Store_) pa_nil))) (pe_and (pe_cmpR (op_eqM (K := K) rfl m___eq__ hr (by decide)) (pe_fldK (K := K) rfl (pv 0) rfl) (pe_fldK (K := K) rfl (pv 1) rfl) (nomark _)) (pe_one (pe_cmpR (op_eqMD (K := K) rfl (hu65 hr)) (pe_fldK (K := K) rfl (pv 0) rfl) (pe_fldK (K := K) rfl (pv 1) rfl) (nomark _))))))), ?_⟩
    walk_at "w"
    rcases k with ⟨q, u', ts', rs', rfl, ⟨⟨sch', dr', kvs', hP', hS'⟩, nm'⟩, hG', su', ok', k⟩ | ⟨od, k⟩
    · obtain ⟨dx', fs', hp', h1', h2', h3'⟩ := hP'.ins
      obtain ⟨_, _, _, _, dx3, fs3, _, _, _, _, hp3, _⟩ := hS.ex
      obtain ⟨_, _, _, _, dx4, fs4, _, _, _, _, hp4, _⟩ := hS'.ex
      refine ⟨.ref q, .ref CS, .ref CS, .ref CS, true, rfl, .own CS, .base (.ins hp' S.cls I.s.ca I.s.cg I.s.ct I.s.cm), ?_, ⟨true, rfl, iteT ?_⟩⟩
      · exact if_pos (beq_self_eq_true _)
      walk_at "w"
      refine w_kFld hp S.cls S.schema_ h1 ?_
      walk_at "w"
      refine w_kFld hp' S.cls S.schema_ h1' ?_
      refine ⟨sch, dx3, fs3, .ref C, rfl, hp3, .inl ⟨sch', dx4, fs4, rfl, hp4, rfl⟩, sch, .ref sch', u, ts, rfl, hS, hG, su, .inl ⟨sch', u', ts', rfl, hS', hG', su', ?_⟩⟩
      refine ⟨_, rfl, _, rfl, ?_⟩
      have k : Q (.bl (decide (linesOf u ts = linesOf u' ts') && eqMapD (dataS rs) (dataS rs'))) H := k
      refine iteB (fun e => ?_) (fun e => ?_)
      · rw [show decide (linesOf u ts = linesOf u' ts') = true from e, Bool.true_and] at k
        walk_at "w"
        refine w_kFld hp S.cls S._rows_ h2 ?_
        walk_at "w"
        refine w_kFld hp' S.cls S._rows_ h2' ?_
        exact ⟨dr, dr', kvs, kvs', _, _, rfl, rfl, hP.dict, hP'.dict, ents_data hP.rows ok, ents_data hP'.rows ok', k⟩
      · have e : decide (linesOf u ts = linesOf u' ts') = false := e
        rw [e, Bool.false_and] at k
        exact k
    · cases od with
      | non => exact ⟨_, .ref CS, .type "NoneType", .ref CS, false, rfl, .own CS, .base .non, I.s.no _ (by decide), false, rfl, iteF k⟩
      | int i => exact ⟨_, .ref CS, .type "int", .ref CS, false, rfl, .own CS, .base (.int i), I.s.no _ (by decide), false, rfl, iteF k⟩
      | dict h => exact ⟨_, .ref CS, .type "dict", .ref CS, false, rfl, .own CS, .base (.dK h), I.dict, false, rfl, iteF k⟩
      | sch h c => exact ⟨_, .ref CS, .ref C, .ref CS, false, rfl, .own CS, .base (.ins h c I.c.ca I.c.cg I.c.ct I.c.cm), I.sch, false, rfl, iteF k⟩
end
end LP
namespace LP
open PySem L2
open Evl (Ex)
/-- // by a large divisor -/
def CDivB (i j : Int) : Prop := j ≠ 0 ∧ j.natAbs < 2 ^ 128
theorem op_fdivB {X : Cx} : OpR X (binaryOp .FloorDiv) (rI CDivB fun i j => .int (i.fdiv j)) := opI fun i j _ _ _ _ _ hc q => by
  refine PyProof.Rows.floordiv_int hc.1 q (.inl (PyProof.noPylong_of_log2 ?_))
  have h0 : j.natAbs ≠ 0 := fun e => hc.1 (Int.natAbs_eq_zero.mp e)
  have := (Nat.log2_lt h0).mpr hc.2
  omega
theorem w_fdivB {i j : Int} {H : Hp} {Q : VK} (h1 : 1 ≤ j) (h2 : j ≤ 1000000000000000000000000000000) (q : Q (.int (i.fdiv j)) H) : rI CDivB (fun i j => V.int (i.fdiv j)) (.int i) (.int j) H Q := by
  refine ⟨i, j, rfl, rfl, ⟨by omega, ?_⟩, q⟩
  have : (1000000000000000000000000000000 : Nat) < 2 ^ 128 := by decide
  omega
/-- a digit of any size -/
def spTakeB : Sp := fun vs H Q _ => ∃ (b : Addr) (many : Int) (n : Nat), vs = [.ref b, .int many] ∧ BagAt H b n ∧ n < 100000000 ∧ 1 ≤ many ∧ many ≤ 1000000000000000000000000000000 ∧
  ∀ (z : Int) (H' : Hp), 0 ≤ z → z < many → BagAt H' b (n + 1) → Ex (del b H) H' → Q (.int z) H'
section
variable {base : Heap} {mg : Str → Option Value} {K : PySem.W.Frag} {w : World} {P : Program}
theorem ok_takeB {f : Addr} {fd : FuncData} (D : C8.Def K mg "_law_take" s__law_take f fd) (b : Binds K fd ["bag", "many"] []) (B : Blt mg) : C8.Cal P w K mg base 1 "_law_take" spTakeB [] := by
  have sc : FnScope ["bag", "many", "digit", "turn", "mixed"] ["bag", "many"] (C8.fnScope s__law_take) := C8.fnScope_by (by decide +kernel)
  refine C8.cal0 D b .nil sc (fun vs H Q E h => ?_) (fun cdv A outer s H vs Q E hr h => ?_)
  · obtain ⟨_, _, _, rfl, _⟩ := h
    rfl
  · obtain ⟨b, many, n, rfl, hB, hn, hm1, hm2, k⟩ := h
    obtain ⟨d, m, t, hb, h1, h2, h3, h4, h5⟩ := hB.ex
    refine ⟨_, (pss_cons (ps_if (pt_cmpR op_gt (pe_ix (ix_listK (K := K) rfl) (pv 0) pe_int (fun _ _ => rfl)) pe_int (nomark _))
        (pss_cons (ps_set (i := 2) sc.nd rfl (Or.inl rfl) (pe_op op_modN (pe_callTy call_int1' (by rfl) B.int_ (by decide +kernel) (pa_cons (pe_ix (ix_listK (K := K) rfl) (pv 0) pe_int (fun _ _ => rfl)) pa_nil)) (pv 1)))
        (pss_cons (ps_asg (pe_op op_fdivB (pe_ix (ix_listK (K := K) rfl) (pv 0) pe_int (fun _ _ => rfl)) (pv 1)) (pg_sub (pv 0) pe_int set_list))
        (pss_one (ps_ret (pv 2)))))
        pss_nil)
        (pss_cons (ps_asg (pe_op op_add (pe_ix (ix_listK (K := K) rfl) (pv 0) pe_int (fun _ _ => rfl)) pe_int) (pg_sub (pv 0) pe_int set_list))
        (pss_cons (ps_set (i := 3) sc.nd rfl (Or.inl rfl) (pe_ix (ix_listK (K := K) rfl) (pv 0) pe_int (fun _ _ => rfl)))
        (pss_cons (ps_set (i := 4) sc.nd rfl (Or.inl rfl) (pe_op op_modN (pe_callTy call_int1' (by rfl) B.int_ (by decide +kernel) (pa_cons (pe_op op_add (pe_op op_pow (pe_op op_add (pe_ix (ix_listK (K := K) rfl) (pv 0) pe_int (fun _ _ => rfl)) (pe_op op_mul pe_int (pv 3))) pe_int) (pe_op op_mul pe_int (pv 3))) pa_nil)) pe_int))
        (pss_cons (ps_set (i := 4) sc.nd rfl (Or.inl rfl) (pe_op op_modN (pe_callTy call_int1' (by rfl) B.int_ (by decide +kernel) (pa_cons (pe_op op_add (pe_op op_pow (pv 4) pe_int) (pe_op op_mul pe_int (pv 3))) pa_nil)) pe_int))
        (pss_one (ps_ret (pe_op op_modN (pe_callTy call_int1' (by rfl) B.int_ (by decide +kernel) (pa_cons (pe_op op_fdivN (pv 4) pe_int) pa_nil)) (pv 1))))))))), ?_⟩
    try dsimp only [cxOf, Cx.wish, Cx.nox]
    walk_at "w"
    refine iteD (fun hd => ?_) (fun hd => ?_)
    · walk_at "w"
      exact k _ _ (fmod_lo (by omega)) (fmod_hi (by omega)) ⟨d.fdiv many, m, t, upd_same, fdiv_lo h1 (by omega), h2, h3, h4, by omega⟩ ex_upd_bag
    · walk_at "w"
      have hx : 0 ≤ ((m + 15485863 * (t + 1)) ^ Int.toNat 2 + 32452867 * (t + 1)).fmod 2305843009213693951 ∧ ((m + 15485863 * (t + 1)) ^ Int.toNat 2 + 32452867 * (t + 1)).fmod 2305843009213693951 < 2305843009213693951 := ⟨fmod_lo (by decide), fmod_hi (by decide)⟩
      generalize ((m + 15485863 * (t + 1)) ^ Int.toNat 2 + 32452867 * (t + 1)).fmod 2305843009213693951 = M at hx ⊢
      walk_at "w"
      exact k _ _ (fmod_lo (by omega)) (fmod_hi (by omega)) ⟨d, m, t + 1, upd_same, h1, h2, h3, by omega, by omega⟩ ex_upd_bag
end
end LP
namespace LP
open PySem L2
open Evl (Ex)
/-! ### a cell that fits, drawn -/
/-- how many rows each table has, as a dict -/
def ManyAt (H : Hp) (a : Addr) (ms : List (Str × Nat)) : Prop := ∃ kvs, H a = some (.dK kvs) ∧ Paired (fun (p : Key × V) (q : Str × Nat) => p.1 = Sum.inr q.1 ∧ p.2 = V.int q.2) kvs ms
theorem many_get : ∀ {kvs : List (Key × V)} {ms : List (Str × Nat)} {n : Str} {k : Nat}, Paired (fun (p : Key × V) (q : Str × Nat) => p.1 = Sum.inr q.1 ∧ p.2 = V.int q.2) kvs ms → ms.lookup n = some k → valV kvs (Sum.inr n : Key) = some (.int k)
  | _, _, _, _, .nil, h => by cases h
  | kv :: kvs, q :: ms, n, k, .cons h t, z => by
    rw [List.lookup_cons] at z
    by_cases y : n = q.1
    · rw [show (n == q.1) = true by rw [y]; exact beq_self_eq_true _] at z
      cases z
      exact (valV_pos (p := kv) (by rw [h.1, y])).trans (by rw [h.2])
    · rw [show (n == q.1) = false from beq_eq_false_iff_ne.mpr y] at z
      exact (valV_neg (p := kv) (fun x => y (by rw [h.1] at x; exact (Sum.inr.inj x).symm))).trans (many_get t z)
def spDrawCell (K : PySem.W.Frag) : Sp := fun vs H Q _ => ∃ (b ma wa : Addr) (cv : V) (c : Col) (n : Nat) (ms : List (Str × Nat)) (ws : List Str) (rs : RowsD), vs = [.ref b, cv, .ref ma, .ref wa] ∧ BagAt H b n ∧ n < 90000000 ∧ ColAt (del b H) cv c ∧ ManyAt (del b H) ma ms ∧ SqL K (del b H) wa (ws.map V.str) ∧ ws ≠ [] ∧ ws.length ≤ 1000 ∧ (∀ x ∈ ws, wordB x = true) ∧
  (c.isLink = true → ms.lookup c.target = some (cnt rs c.target) ∧ (c.opt = false → 0 < cnt rs c.target) ∧ cnt rs c.target ≤ 100000) ∧
  ∀ (d : PyData) (H' : Hp), fitD rs c d = true → BagAt H' b (n + 3) → Ex (del b H) H' → Q (cellV d) H'
section
variable {base : Heap} {mg : Str → Option Value} {K : PySem.W.Frag} {w : World} {P : Program}
theorem ok_draw_cell {f : Addr} {fd : FuncData} (D : C8.Def K mg "_law_draw_cell" s__law_draw_cell f fd) (b : Binds K fd ["bag", "column", "many", "words"] []) (B : Blt mg) (c__law_take : C8.Cal P w K mg base 1 "_law_take" spTakeB []) (c__law_of : C8.Cal P w K mg base 2 "_law_of" (spOf K) []) :
    C8.Cal P w K mg base 3 "_law_draw_cell" (spDrawCell K) [] := by
  have sc : FnScope ["bag", "column", "many", "words", "edge"] ["bag", "column", "many", "words"] (C8.fnScope s__law_draw_cell) := C8.fnScope_by (by decide +kernel)
  refine C8.cal0 D b .nil sc (fun vs H Q E h => ?_) (fun cdv A outer s H vs Q E hr h => ?_)
  · obtain ⟨_, _, _, _, _, _, _, _, _, rfl, _⟩ := h
    rfl
  · obtain ⟨b, ma, wa, cv, c, n, ms, ws, rs, rfl, hB, hn, hc, ⟨mk, hma, hmk⟩, hwa, wne, wl, wok, lk, k⟩ := h
    refine ⟨_, (pss_cons (ps_if (pt_cmpR op_eq (pe_ix (ix_tupK (K := K) rfl) (pv 1) pe_int (fun _ _ => rfl)) pe_str (nomark _))
        (pss_one (ps_ret (pe_cmpR op_eq (C8.pe_c c__law_take hr (by decide) rfl (pa_cons (pv 0) (pa_cons pe_int pa_nil))) pe_int (nomark _))))
        pss_nil)
        (pss_cons (ps_if (pt_cmpR op_eq (pe_ix (ix_tupK (K := K) rfl) (pv 1) pe_int (fun _ _ => rfl)) pe_str (nomark _))
        (pss_cons (ps_set (i := 4) sc.nd rfl (Or.inl rfl) (pe_op op_sub (pe_op op_pow pe_int pe_int) pe_int))
        (pss_one (ps_ret (C8.pe_c c__law_of hr (by decide) rfl (pa_cons (pv 0) (pa_cons (pe_lst (pa_cons pe_int (pa_cons pe_int (pa_cons pe_int (pa_cons pe_int (pa_cons (pe_un un_neg pe_int) (pa_cons (pv 4) (pa_cons (pe_un un_neg (pv 4)) (pa_cons (C8.pe_c c__law_take hr (by decide) rfl (pa_cons (pv 0) (pa_cons (pe_op op_pow pe_int pe_int) pa_nil))) pa_nil))))))))) pa_nil))))))
        pss_nil)
        (pss_cons (ps_if (pt_cmpR op_eq (pe_ix (ix_tupK (K := K) rfl) (pv 1) pe_int (fun _ _ => rfl)) pe_str (nomark _))
        (pss_one (ps_ret (pe_ifExp (PW.pt (pw_and (pt_val (pe_ix (ix_tupK (K := K) rfl) (pv 1) pe_int (fun _ _ => rfl))) (pw_and1 (pt_cmpR op_eq (C8.pe_c c__law_take hr (by decide) rfl (pa_cons (pv 0) (pa_cons pe_int pa_nil))) pe_int (nomark _))))) pe_non (C8.pe_c c__law_of hr (by decide) rfl (pa_cons (pv 0) (pa_cons (pv 3) pa_nil))))))
        pss_nil)
        (pss_cons (ps_if (PW.pt (pw_and (pt_val (pe_ix (ix_tupK (K := K) rfl) (pv 1) pe_int (fun _ _ => rfl))) (pw_and1 (PW.pt (pw_or (pt_cmpR op_eq (pe_dget (hu_of hr) (pv 2) (pe_ix (ix_tupK (K := K) rfl) (pv 1) pe_int (fun _ _ => rfl)) (fun _ _ => rfl)) pe_int (nomark _)) (pw_or1 (pt_cmpR op_eq (C8.pe_c c__law_take hr (by decide) rfl (pa_cons (pv 0) (pa_cons pe_int pa_nil))) pe_int (nomark _))))))))
        (pss_one (ps_ret pe_non))
        pss_nil)
        (pss_one (ps_ret (C8.pe_c c__law_take hr (by decide) rfl (pa_cons (pv 0) (pa_cons (pe_dget (hu_of hr) (pv 2) (pe_ix (ix_tupK (K := K) rfl) (pv 1) pe_int (fun _ _ => rfl)) (fun _ _ => rfl)) pa_nil))))))))), ?_⟩
    obtain ⟨ca, rfl, hca⟩ := id hc
    have hca0 : H ca = some (.tup c.vals) := ex_del _ _ hca
    have key : ∀ (d : PyData) (H' : Hp) (m : Nat), fitD rs c d = true → BagAt H' b m → m ≤ n + 3 → Ex (del b H) H' → Q (cellV d) H' := fun d H' m h1 h2 h3 h4 => k d H' h1 (h2.mono h3) h4
    walk_at "w"
    cases c with
    | plain fl nm =>
      cases fl with
      | true =>
        have hca0 : H ca = some (.tup [.str "flag", .str nm]) := hca0
        walk_at "w"
        refine iteD (fun _ => ?_) (fun h => absurd rfl h)
        walk_at "w"
        refine ⟨b, 2, n, rfl, hB, by omega, by decide, by decide, fun z H' z0 z1 hB' e => ?_⟩
        walk_at "w"
        exact key (.bool _) _ _ rfl hB' (by omega) e
      | false =>
        have hca0 : H ca = some (.tup [.str "number", .str nm]) := hca0
        walk_at "w"
        refine iteD (fun h => absurd (V.str.inj h) (by show ¬ (("number" : Str) = "flag"); decide +kernel)) (fun _ => ?_)
        walk_at "w"
        refine iteD (fun _ => ?_) (fun h => absurd rfl h)
        walk_at "w"
        refine ⟨b, 10 ^ Int.toNat 30, n, rfl, hB, by omega, by decide, by decide, fun z H1 z0 z1 hB1 e1 => ?_⟩
        walk_at "w"
        intro p hp
        have pb : p ≠ b := (hB1.ne_none hp).symm
        walk_at "w"
        refine ⟨b, p, _, _, rfl, hB1.new hp, by omega, SqL.of (by rw [del_ne pb]; exact upd_same), by simp, by show 8 ≤ 90000; decide, fun v H3 hv hB3 e3 => ?_⟩
        have z1 : z < 1000000000000000000000000000000 := z1
        obtain ⟨i, rfl, i1, i2⟩ : ∃ i : Int, v = .int i ∧ -1000000000000000000000000000000 < i ∧ i < 1000000000000000000000000000000 := by
          simp only [List.mem_cons, List.not_mem_nil, or_false] at hv
          rcases hv with rfl | rfl | rfl | rfl | rfl | rfl | rfl | rfl
          · exact ⟨0, rfl, by decide, by decide⟩
          · exact ⟨1, rfl, by decide, by decide⟩
          · exact ⟨2, rfl, by decide, by decide⟩
          · exact ⟨7, rfl, by decide, by decide⟩
          · exact ⟨-1, rfl, by decide, by decide⟩
          · exact ⟨_, rfl, by decide, by decide⟩
          · exact ⟨_, rfl, by decide, by decide⟩
          · exact ⟨z, rfl, by omega, z1⟩
        exact key (.int i) _ _ (by show (decide (-tooLarge < i) && decide (i < tooLarge)) = true; rw [show decide (-tooLarge < i) = true from decide_eq_true i1, show decide (i < tooLarge) = true from decide_eq_true i2]; rfl) hB3 (by omega) (ex_dtrans e1 (ex_dtrans (ex_new_d hp) e3))
    | word nm o =>
      have hca0 : H ca = some (.tup [.str "word", .str nm, .bl o]) := hca0
      walk_at "w"
      refine iteD (fun h => absurd (V.str.inj h) (by show ¬ (("word" : Str) = "flag"); decide +kernel)) (fun _ => ?_)
      walk_at "w"
      refine iteD (fun h => absurd (V.str.inj h) (by show ¬ (("word" : Str) = "number"); decide +kernel)) (fun _ => ?_)
      walk_at "w"
      refine iteD (fun _ => ?_) (fun h => absurd rfl h)
      walk_at "w"
      have draw : ∀ H1 m, BagAt H1 b m → m ≤ n + 1 → Ex (del b H) H1 → spOf K [.ref b, .ref wa] H1 (fun v H' => Q v H') C8.E0 := fun H1 m hB1 hm e1 => by
        refine ⟨b, wa, _, m, rfl, hB1, by omega, Evl.ex_l (ex_dd e1) hwa, by simpa using wne, by rw [List.length_map]; omega, fun v H3 hv hB3 e3 => ?_⟩
        obtain ⟨x, hx, rfl⟩ := List.mem_map.mp hv
        exact key (.str x) _ _ (wok x hx) hB3 (by omega) (ex_dtrans e1 e3)
      refine iteB (fun ho => ?_) (fun ho => ?_)
      · walk_at "w"
        refine ⟨b, 3, n, rfl, hB, by omega, by decide, by decide, fun z H1 z0 z1 hB1 e1 => ?_⟩
        walk_at "w"
        refine iteD (fun _ => ?_) (fun _ => ?_)
        · walk_at "w"
          exact key .none _ _ ho hB1 (by omega) e1
        · walk_at "w"
          exact draw H1 _ hB1 (by omega) e1
      · walk_at "w"
        exact draw H _ hB (by omega) ex_del
    | link nm tg o l =>
      have hca0 : H ca = some (.tup [.str "link", .str nm, .str tg, .bl o, vOpt l]) := hca0
      walk_at "w"
      refine iteD (fun h => absurd (V.str.inj h) (by show ¬ (("link" : Str) = "flag"); decide +kernel)) (fun _ => ?_)
      walk_at "w"
      refine iteD (fun h => absurd (V.str.inj h) (by show ¬ (("link" : Str) = "number"); decide +kernel)) (fun _ => ?_)
      walk_at "w"
      refine iteD (fun h => absurd (V.str.inj h) (by show ¬ (("link" : Str) = "word"); decide +kernel)) (fun _ => ?_)
      walk_at "w"
      obtain ⟨m1, m2, m3⟩ := lk rfl
      have m1 : ms.lookup tg = some (cnt rs tg) := m1
      have m2 : o = false → 0 < cnt rs tg := m2
      have m3 : cnt rs tg ≤ 100000 := m3
      have mv := many_get hmk m1
      have draw : ∀ H1 m, 0 < cnt rs tg → BagAt H1 b m → m ≤ n + 1 → Ex (del b H) H1 → spTakeB [.ref b, .int (cnt rs tg)] H1 (fun v H' => Q v H') C8.E0 := fun H1 m hp hB1 hm e1 => by
        refine ⟨b, _, m, rfl, hB1, by omega, by omega, by omega, fun z H3 z0 z1 hB3 e3 => ?_⟩
        exact key (.int z) _ _ (by show (decide (0 ≤ z) && decide (z < (cnt rs tg : Int))) = true; rw [decide_eq_true z0, decide_eq_true z1]; rfl) hB3 (by omega) (ex_dtrans e1 e3)
      have hma0 : H ma = some (.dK mk) := ex_del _ _ hma
      refine iteB (fun ho => ?_) (fun ho => ?_)
      · walk_at "w"
        refine ⟨ma, .int (cnt rs tg : Nat), rfl, mv ▸ DGet.k (k := Sum.inr tg) hma0, ?_⟩
        walk_at "w"
        refine iteD (fun _ => ?_) (fun hz => ?_)
        · walk_at "w"
          exact key .none _ _ ho hB (by omega) ex_del
        have hz : 0 < cnt rs tg := Nat.pos_of_ne_zero fun e => hz (by rw [e]; rfl)
        walk_at "w"
        refine ⟨b, 3, n, rfl, hB, by omega, by decide, by decide, fun z H1 z0 z1 hB1 e1 => ?_⟩
        walk_at "w"
        refine iteD (fun _ => ?_) (fun _ => ?_)
        · walk_at "w"
          exact key .none _ _ ho hB1 (by omega) e1
        · walk_at "w"
          refine w_ixT (SqT.of (e1 _ _ hca)) (Col.at2 (c := .link nm tg o l) rfl) ?_
          refine ⟨ma, .int (cnt rs tg : Nat), rfl, mv ▸ DGet.k (k := Sum.inr tg) (e1 _ _ hma), ?_⟩
          walk_at "w"
          exact draw H1 _ hz hB1 (by omega) e1
      · walk_at "w"
        refine ⟨ma, .int (cnt rs tg : Nat), rfl, mv ▸ DGet.k (k := Sum.inr tg) hma0, ?_⟩
        exact draw H _ (m2 ho) hB (by omega) ex_del
end
end LP
namespace LP
open PySem L2
open Evl (Ex)
section
variable {K : PySem.W.Frag} {b wa ma cl : Addr} {n : Nat} {rs : RowsD} {ms : List (Str × Nat)} {ws : List Str} {cs : List Col} {cvs : List V} {t1 t2 t4 t6 t8 t9 t10 t11 t12 : Option V} {H : Hp} {Q : VK}
theorem row_comp (hB : BagAt H b n) (hn : n < 80000000) (hcl : SqL K (del b H) cl cvs) (hcv : ColsV (del b H) cvs cs) (lc : cs.length ≤ 20) (hma : ManyAt (del b H) ma ms) (hwa : SqL K (del b H) wa (ws.map V.str)) (wne : ws ≠ []) (wl : ws.length ≤ 1000) (wok : ∀ x ∈ ws, wordB x = true)
    (lk : ∀ c ∈ cs, c.isLink = true → ms.lookup c.target = some (cnt rs c.target) ∧ (c.opt = false → 0 < cnt rs c.target) ∧ cnt rs c.target ≤ 100000)
    (k : ∀ T r H', rowF rs cs (.tuple r) = none → H T = none → RowAt K (del b H') (.ref T) r → BagAt H' b (n + 60) → Ex (del b H) H' → Q (.ref T) H') :
    tCB (rTupS K) (tCons (tLc (iList K (tVar 7)) (gName 9) tYes (tCall (spDrawCell K) [] C8.E0 (tCons (tVar 0) (tCons (tVar 9) (tCons (tVar 5) (tCons (tVar 3) tNil))))) (List.map (fun x => x.snd) [((Str.ofString "column" : Str), 9)])) tNil)
      [some (.ref b), t1, t2, some (.ref wa), t4, some (.ref ma), t6, some (.ref cl), t8, t9, t10, t11, t12] H Q := by
  have lcv := paired_len hcv
  have hcl0 := Evl.ex_l ex_del hcl
  walk_at "w"
  intro D hD
  have bD : b ≠ D := hB.ne_none hD
  have hD0 : (del b H) D = none := by rw [del_ne bD.symm]; exact hD
  refine compL (xs := cvs) (fun d r got H' => ∃ ds cd cr, cs = cd ++ cr ∧ cd.length = d.length ∧ Paired (ColAt (del b H)) r cr ∧ got = ds.map cellV ∧ ds.length = cd.length ∧ (∀ p ∈ cd.zip ds, fitD rs p.1 p.2 = true) ∧ BagAt H' b (n + 3 * cd.length) ∧ Ex (del b H) H') (by omega)
    ⟨[], [], cs, rfl, rfl, hcv, rfl, rfl, (fun p hp => by cases hp), hB.new hD, ex_new_d hD⟩ (fun d r got H' _ h => ?_) (fun d y r got H' hd hgot hlen h kk kn hk hkn => ?_) (fun got H' hgot hlen h => ?_)
  · obtain ⟨_, _, _, _, _, _, _, _, _, _, e⟩ := h
    exact Evl.ex_l e hcl
  · obtain ⟨ds, cd, cr, ecs, lcd, hp, rfl, lds, fit, hB', e⟩ := h
    obtain ⟨c, cr', rfl, hy, hp'⟩ := paired_cons hp
    have lcd' : cd.length ≤ 20 := by
      have := congrArg List.length ecs
      rw [List.length_append] at this
      omega
    have hmc : c ∈ cs := by rw [ecs]; simp
    walk_at "w"
    refine ⟨b, ma, wa, y, c, n + 3 * cd.length, ms, ws, rs, rfl, hB', by omega, hy.ext (ex_dd e), ?_, Evl.ex_l (ex_dd e) hwa, wne, wl, wok, lk c hmc, fun d0 H4 hf hB4 e4 => ?_⟩
    · obtain ⟨mk, h1, h2⟩ := hma
      exact ⟨mk, ex_dd e _ _ h1, h2⟩
    have hD' : (del b H') D = some (.lst (ds.map cellV)) := by rw [del_ne bD.symm]; exact hgot
    have e04 := ex_dtrans e e4
    refine hk _ H4 (e4 _ _ hD') ⟨ds ++ [d0], cd ++ [c], cr', by rw [ecs]; simp, by simp [lcd], hp', by simp, by simp [lds], fun p hp => ?_, ?_, e04.mut hD0⟩
    · rw [List.zip_append lds.symm] at hp
      rcases List.mem_append.1 hp with hp | hp
      · exact fit p hp
      · rw [List.mem_singleton.1 hp]
        exact hf
    · rw [List.length_append]
      exact (hB4.upd bD).mono (by simp; omega)
  · obtain ⟨ds, cd, cr, ecs, lcd, hp, rfl, lds, fit, hB', e⟩ := h
    have ecr : cr = [] := by cases hp; rfl
    subst ecr
    rw [List.append_nil] at ecs
    subst ecs
    walk_at "w"
    refine w_tupL (SqL.of hgot) fun T hT => ?_
    have hTb : T ≠ b := (hB'.ne_none hT).symm
    have hT0 : H T = none := by
      cases z : H T with
      | none => rfl
      | some o => rw [e _ _ (by rw [del_ne hTb]; exact z)] at hT; cases hT
    refine k T ds _ ?_ hT0 ⟨T, rfl, SqT.of (by rw [del_ne hTb]; exact upd_same)⟩ ((hB'.new hT).mono (by omega)) (e.trans (Ex.new hT))
    show (if ds.length = cs.length then ((cs.zip ds).find? fun p => !fitD rs p.1 p.2).map (fun p => some p.1.name) else some none) = none
    rw [if_pos lds, Option.map_eq_none_iff, List.find?_eq_none]
    intro p hp
    rw [fit p hp]
    decide
end
end LP
namespace LP
open PySem L2
open Evl (Ex)
theorem sqT_putL {K : PySem.W.Frag} {H : Hp} {D a : Addr} {xs zs ys : List V} (hD : H D = some (.lst xs)) (h : SqT K H a ys) : SqT K (upd H D (.lst zs)) a ys := by
  rcases h with
          (h | ⟨o, h⟩) | h
  · exact .inl (.inl (by rw [upd_ne (ne_of h hD (by intro z; cases z))]; exact h))
  · exact .inl (.inr ⟨o, by rw [upd_ne (ne_of h hD (by intro z; cases z))]; exact h⟩)
  · exact .inr h
theorem RowAt.putL {K : PySem.W.Frag} {H : Hp} {D : Addr} {xs zs : List V} (hD : H D = some (.lst xs)) {v : V} {r : List PyData} (h : RowAt K H v r) : RowAt K (upd H D (.lst zs)) v r := by
  obtain ⟨a, ev, ha⟩ := h
  exact ⟨a, ev, sqT_putL hD ha⟩
theorem del_upd {b D : Addr} {H : Hp} {o : HO} (ne : b ≠ D) : del b (upd H D o) = upd (del b H) D o := by
  funext a
  by_cases e : a = b
  · subst e
    rw [upd_ne ne]
    show (if a = a then none else _) = (if a = a then none else _)
    rw [if_pos rfl, if_pos rfl]
  · rw [del_ne e]
    by_cases e2 : a = D
    · rw [e2, upd_same, upd_same]
    · rw [upd_ne e2, upd_ne e2, del_ne e]
section
variable {K : PySem.W.Frag} {b wa ma cl : Addr} {n some_ : Nat} {rs : RowsD} {ms : List (Str × Nat)} {ws : List Str} {cs : List Col} {cvs : List V} {t1 t2 t4 t6 t8 t9 t11 t12 : Option V} {H : Hp} {Q : VK}
theorem rows_comp (hB : BagAt H b n) (hn : n + 60 * some_ < 80000000) (ls : some_ ≤ 1000) (hcl : SqL K (del b H) cl cvs) (hcv : ColsV (del b H) cvs cs) (lc : cs.length ≤ 20) (hma : ManyAt (del b H) ma ms) (hwa : SqL K (del b H) wa (ws.map V.str)) (wne : ws ≠ []) (wl : ws.length ≤ 1000) (wok : ∀ x ∈ ws, wordB x = true)
    (lk : ∀ c ∈ cs, c.isLink = true → ms.lookup c.target = some (cnt rs c.target) ∧ (c.opt = false → 0 < some_ → 0 < cnt rs c.target) ∧ cnt rs c.target ≤ 100000)
    (k : ∀ L vs rows H', rows.length = some_ → (∀ r ∈ rows, rowF rs cs (.tuple r) = none) → H L = none → (del b H') L = some (.lst vs) → Paired (RowAt K (del b H')) vs rows → BagAt H' b (n + 60 * some_) → Ex (del b H) H' → Q (.ref L) H') :
    tLc (iRng1 (tCons (tVar 10) tNil)) (gName 12) tYes (tCB (rTupS K) (tCons (tLc (iList K (tVar 7)) (gName 9) tYes (tCall (spDrawCell K) [] C8.E0 (tCons (tVar 0) (tCons (tVar 9) (tCons (tVar 5) (tCons (tVar 3) tNil))))) (List.map (fun x => x.snd) [((Str.ofString "column" : Str), 9)])) tNil))
      (List.map (fun x => x.snd) [((Str.ofString "turn" : Str), 12)]) [some (.ref b), t1, t2, some (.ref wa), t4, some (.ref ma), t6, some (.ref cl), t8, t9, some (.int some_), t11, t12] H Q := by
  walk_at "w"
  intro D hD
  have bD : b ≠ D := hB.ne_none hD
  have hD0 : (del b H) D = none := by rw [del_ne bD.symm]; exact hD
  have en : ((some_ : Nat) : Int).toNat = some_ := rfl
  rw [en]
  refine compR (fun i got H' => ∃ rows : List (List PyData), rows.length = i ∧ Paired (RowAt K (del b H')) got rows ∧ (∀ r ∈ rows, rowF rs cs (.tuple r) = none) ∧ BagAt H' b (n + 60 * i) ∧ Ex (del b H) H') (by omega)
    ⟨[], rfl, .nil, fun _ h => absurd h List.not_mem_nil, hB.new hD, ex_new_d hD⟩ (fun i got H' hi hgot hlen h kk kn hk hkn => ?_) (fun got H' hgot hlen h => ?_)
  · obtain ⟨rows, lr, hp, ok, hB', e⟩ := h
    have ed := ex_dd e
    have hma' : ManyAt (del b H') ma ms := by
      obtain ⟨mk, h1, h2⟩ := hma
      exact ⟨mk, ed _ _ h1, h2⟩
    have hD' : (del b H') D = some (.lst got) := by rw [del_ne bD.symm]; exact hgot
    refine ⟨rfl, ?_⟩
    refine w_yes (iteT ?_)
    refine row_comp (t12 := some (.int (i : Nat))) (t9 := t9) (n := n + 60 * i) (rs := rs) hB' (by omega) (Evl.ex_l ed hcl) (hcv.ext ed) lc hma' (Evl.ex_l ed hwa) wne wl wok (fun c hc hL => ?_) fun T r H4 hr hT hrow hB4 e4 => ?_
    · obtain ⟨q1, q2, q3⟩ := lk c hc hL
      exact ⟨q1, fun h => q2 h (by omega), q3⟩
    have hD4 : (del b H4) D = some (.lst got) := ex_dd e4 _ _ hD'
    refine hk _ H4 (e4 _ _ hD') ⟨rows ++ [r], by rw [List.length_append, lr]; rfl, ?_, fun x hx => ?_, (hB4.upd bD).mono (by omega), (ex_dtrans e e4).mut hD0⟩
    · rw [del_upd bD]
      exact paired_app (paired_imp (fun _ _ h => (h.ext (ex_dd e4)).putL hD4) hp) (.cons (hrow.putL hD4) .nil)
    · rcases List.mem_append.1 hx with hx | hx
      · exact ok x hx
      · rw [List.mem_singleton.1 hx]
        exact hr
  · obtain ⟨rows, lr, hp, ok, hB', e⟩ := h
    exact k D got rows H' lr ok hD (by rw [del_ne bD.symm]; exact hgot) hp hB' e
end
end LP
namespace LP
open PySem L2
open Evl (Ex)
theorem cnt_le {rs : RowsD} {n : Str} {k : Nat} (h : ∀ r ∈ rs, r.2.length ≤ k) : cnt rs n ≤ k := by
  unfold cnt
  cases e : rs.lookup n with
  | none => exact Nat.zero_le _
  | some rows => exact h _ (PySem.mem_of_lookup e)
theorem many_none : ∀ {kvs : List (Key × V)} {ms : List (Str × Nat)} {n : Str}, Paired (fun (p : Key × V) (q : Str × Nat) => p.1 = Sum.inr q.1 ∧ p.2 = V.int q.2) kvs ms → n ∉ ms.map (·.1) → valV kvs (Sum.inr n : Key) = none
  | _, _, _, .nil, _ => rfl
  | kv :: kvs, q :: ms, n, .cons h t, hn => by
    rw [List.map_cons] at hn
    have z : ¬ n = q.1 := fun z => hn (by rw [z]; exact List.mem_cons_self)
    exact (valV_neg (p := kv) (fun y => z (by rw [h.1] at y; exact (Sum.inr.inj y).symm))).trans (many_none t fun y => hn (List.mem_cons_of_mem _ y))
theorem joinI {tt : TT} {t0 t1 t2 : TS} {D : Ends} {σ : L2.St} {H : Hp} {R : L2.St → Hp → Prop} (h1 : ∀ Z : Ends, (∀ σ' H', R σ' H' → Z.nx σ' H') → tIfS tt t0 t1 Z σ H) (k : ∀ σ' H', R σ' H' → t2 D σ' H') :
    tSeq (tIfS tt t0 t1) t2 D σ H := h1 _ k
/-- rows that may stand, table by table -/
inductive Fill : Tabs → RowsD → Prop where
  | nil : Fill [] []
  | snoc {ts : Tabs} {rs : RowsD} {t : Str × List Col} {l : List (List PyData)} (f : Fill ts rs) (h : ∀ r ∈ l, rowF rs t.2 (.tuple r) = none) : Fill (ts ++ [t]) (rs ++ [(t.1, l)])
theorem Fill.names {ts : Tabs} {rs : RowsD} (f : Fill ts rs) : rs.map (·.1) = ts.map (·.1) := by
  induction f with
  | nil => rfl
  | snoc f _ ih => rw [List.map_append, List.map_append, ih]; rfl
def RowsAt (K : PySem.W.Frag) (H : Hp) (q : Addr) (rs : RowsD) : Prop := ∃ kvs, H q = some (.dK kvs) ∧ Paired (RowsEnt K H) kvs rs
def manyOf (rs : RowsD) : List (Str × Nat) := rs.map fun r => (r.1, r.2.length)
theorem many_cnt {rs : RowsD} {n : Str} (h : n ∈ rs.map (·.1)) : (manyOf rs).lookup n = some (cnt rs n) := by
  induction rs with
  | nil => cases h
  | cons r rs ih =>
    unfold manyOf cnt
    rw [List.map_cons, List.lookup_cons, List.lookup_cons]
    by_cases y : n = r.1
    · rw [show (n == r.1) = true by rw [y]; exact beq_self_eq_true _]
      rfl
    · rw [show (n == r.1) = false from beq_eq_false_iff_ne.mpr y]
      rw [List.map_cons] at h
      exact ih ((List.mem_cons.1 h).resolve_left y)
def spDrawRows (K : PySem.W.Frag) : Sp := fun vs H Q _ => ∃ (b p wa : Addr) (n most : Nat) (ts : Tabs) (ws : List Str), vs = [.ref b, .ref p, .int most, .ref wa] ∧ BagAt H b n ∧ n < 70000000 ∧ 1 ≤ most ∧ most ≤ 100 ∧ TabsR K (del b H) p ts ∧ GoodTabs ts ∧ ts.length ≤ 20 ∧ SqL K (del b H) wa (ws.map V.str) ∧ ws ≠ [] ∧ ws.length ≤ 1000 ∧ (∀ x ∈ ws, wordB x = true) ∧
  ∀ (q : Addr) (rs : RowsD) (H' : Hp), Fill ts rs → (∀ r ∈ rs, r.2.length ≤ most) → H q = none → RowsAt K (del b H') q rs → BagAt H' b (n + 160000) → Ex (del b H) H' → Q (.ref q) H'
section
variable {base : Heap} {mg : Str → Option Value} {K : PySem.W.Frag} {w : World} {P : Program}
theorem ok_draw_rows {f : Addr} {fd : FuncData} (D : C8.Def K mg "_law_draw_rows" s__law_draw_rows f fd) (b : Binds K fd ["bag", "tables", "most", "words"] []) (B : Blt mg) (c__law_take : C8.Cal P w K mg base 1 "_law_take" spTakeB []) (c__law_all_links : C8.Cal P w K mg base 1 "_law_all_links" (spAllLinks K) [])
    (c__law_draw_cell : C8.Cal P w K mg base 3 "_law_draw_cell" (spDrawCell K) []) :
    C8.Cal P w K mg base 4 "_law_draw_rows" (spDrawRows K) [] := by
  have sc : FnScope ["bag", "tables", "most", "words", "rows", "many", "name", "columns", "needed", "column", "some", "other", "turn"] ["bag", "tables", "most", "words"] (C8.fnScope s__law_draw_rows) := C8.fnScope_by (by decide +kernel)
  refine C8.cal0 D b .nil sc (fun vs H Q E h => ?_) (fun cdv A outer s H vs Q E hr h => ?_)
  · obtain ⟨_, _, _, _, _, _, _, rfl, _⟩ := h
    rfl
  · obtain ⟨b, p, wa, n, most, ts, ws, rfl, hB, hn, m1, m2, ⟨tvs, hx, htv⟩, hG, lt, hwa, wne, wl, wok, k⟩ := h
    refine ⟨_, (pss_cons (ps_asg (pe_tup (pa_cons pe_dnewK (pa_cons pe_dnewK pa_nil))) (pg_tupK (K := K) (n := 2) rfl rfl (pgs_cons (pg_name (i := 4) sc.nd rfl (Or.inl rfl)) (pgs_cons (pg_name (i := 5) sc.nd rfl (Or.inr rfl)) pgs_nil))))
        (pss_cons (ps_for PassesOwn.never rfl (pi_listK (K := K) rfl (pv 1)) (pg_tupK (K := K) (n := 2) rfl rfl (pgs_cons (pg_name (i := 6) sc.nd rfl (Or.inl rfl)) (pgs_cons (pg_name (i := 7) sc.nd rfl (Or.inr rfl)) pgs_nil)))
        (pss_cons (ps_setLc (i := 8) (own := [("column", 9)]) (g := (gName 9)) (by rfl) sc.nd rfl rfl (sw_true rfl rfl rfl (by decide +kernel)) (pi_listK (K := K) rfl (C8.pe_c c__law_all_links hr (by decide) rfl (pa_cons (pv 7) pa_nil))) (blkOk_by (own := [("column", 9)]) (N := ["bag", "tables", "most", "words", "rows", "many", "name", "columns", "needed", "column", "some", "other", "turn"]) (sc := C8.fnScope s__law_draw_rows) (by decide +kernel)) (fun _ _ _ _ _ => (pg_name (i := 9) sc.nd rfl (Or.inl rfl))) (fun _ _ _ _ _ => pts_one (pt_not (pt_val (pe_ix (ix_tupK (K := K) rfl) (pv 9) pe_int (fun _ _ => rfl))))) (fun _ _ _ _ _ => (pe_ix (ix_tupK (K := K) rfl) (pv 9) pe_int (fun _ _ => rfl))))
        (pss_cons (ps_set (i := 10) sc.nd rfl (Or.inl rfl) (pe_op op_add pe_int (C8.pe_c c__law_take hr (by decide) rfl (pa_cons (pv 0) (pa_cons (pv 2) pa_nil)))))
        (pss_cons (ps_if (PW.pt (pw_or (pt_val (pe_callB (cr_anyK (K := K) rfl rfl) (by rfl) B.any_ (by decide +kernel) (pa_cons (pe_lc (own := [("other", 11)]) (g := (gName 11)) (by rfl) sc.nd (pi_listK (K := K) rfl (pv 8)) (blkOk_by (own := [("other", 11)]) (N := ["bag", "tables", "most", "words", "rows", "many", "name", "columns", "needed", "column", "some", "other", "turn"]) (sc := C8.fnScope s__law_draw_rows) (by decide +kernel)) (fun _ _ _ _ _ => (pg_name (i := 11) sc.nd rfl (Or.inl rfl))) (fun _ _ _ _ _ => pts_nil) (fun _ _ _ _ _ => (pe_cmpR op_eq (pe_dget (hu_of hr) (pv 5) (pv 11) (fun _ _ => rfl)) pe_int (nomark _)))) pa_nil))) (pw_or1 (pt_cmpR op_eq (C8.pe_c c__law_take hr (by decide) rfl (pa_cons (pv 0) (pa_cons pe_int pa_nil))) pe_int (nomark _)))))
        (pss_one (ps_set (i := 10) sc.nd rfl (Or.inl rfl) pe_int))
        pss_nil)
        (pss_cons (ps_dput (hu_of hr) (pv 5) (pv 6) (pv 10) rfl)
        (pss_one (ps_dput (hu_of hr) (pv 4) (pv 6) (pe_lc (own := [("turn", 12)]) (g := (gName 12)) (by rfl) sc.nd (pi_range1 (by rfl) B.range_ (pa_cons (pv 10) pa_nil)) (blkOk_by (own := [("turn", 12)]) (N := ["bag", "tables", "most", "words", "rows", "many", "name", "columns", "needed", "column", "some", "other", "turn"]) (sc := C8.fnScope s__law_draw_rows) (by decide +kernel)) (fun _ _ _ _ _ => (pg_name (i := 12) sc.nd rfl (Or.inl rfl))) (fun _ _ _ _ _ => pts_nil) (fun _ _ _ _ _ => (pe_callTy (call_tuple_ofK (K := K) rfl) (by rfl) B.tuple_ (by decide +kernel) (pa_cons (pe_lc (own := [("column", 9)]) (g := (gName 9)) (by rfl) sc.nd (pi_listK (K := K) rfl (pv 7)) (blkOk_by (own := [("column", 9)]) (by kernel_rfl)) (fun _ _ _ _ _ => (pg_name (i := 9) sc.nd rfl (Or.inl rfl))) (fun _ _ _ _ _ => pts_nil) (fun _ _ _ _ _ => (C8.pe_c c__law_draw_cell hr (by decide) rfl (pa_cons (pv 0) (pa_cons (pv 9) (pa_cons (pv 5) (pa_cons (pv 3) pa_nil))))))) pa_nil)))) rfl)))))))
        (pss_one (ps_ret (pv 4))))), ?_⟩
    walk_at "w"
    intro d hd
    have bd : b ≠ d := hB.ne_none hd
    have dX : (del b H) d = none := by rw [del_ne bd.symm]; exact hd
    have e1 : Ex (del b H) (upd H d (.dK [])) := ex_new_d hd
    have hB1 : BagAt (upd H d (.dK [])) b n := hB.new hd
    have f1 : (upd H d (.dK [])) d = some (.dK []) := upd_same
    generalize (upd H d (.dK [])) = H1 at e1 hB1 f1 ⊢
    walk_at "w"
    intro c hc
    have bc : b ≠ c := hB1.ne_none hc
    have dc : d ≠ c := ne_of_none f1 hc
    have cX : (del b H) c = none := by
      cases z : (del b H) c with
      | none => rfl
      | some o => rw [e1 _ _ z] at hc; cases hc
    have e2 : Ex (del b H) (upd H1 c (.dK [])) := e1.trans (Ex.new hc)
    have hB2 : BagAt (upd H1 c (.dK [])) b n := hB1.new hc
    have f2 : (upd H1 c (.dK [])) d = some (.dK []) := Ex.new hc _ _ f1
    have g2 : (upd H1 c (.dK [])) c = some (.dK []) := upd_same
    generalize (upd H1 c (.dK [])) = H2 at e2 hB2 f2 g2 ⊢
    walk_at "w"
    intro T hT
    have e3 : Ex (del b H) (upd H2 T (.tup [.ref d, .ref c])) := e2.trans (Ex.new hT)
    have hB3 : BagAt (upd H2 T (.tup [.ref d, .ref c])) b n := hB2.new hT
    have f3 : (upd H2 T (.tup [.ref d, .ref c])) d = some (.dK []) := Ex.new hT _ _ f2
    have g3 : (upd H2 T (.tup [.ref d, .ref c])) c = some (.dK []) := Ex.new hT _ _ g2
    have t3 : (upd H2 T (.tup [.ref d, .ref c])) T = some (.tup [.ref d, .ref c]) := upd_same
    generalize (upd H2 T (.tup [.ref d, .ref c])) = H3 at e3 hB3 f3 g3 t3 ⊢
    walk_at "w"
    have ltv := paired_len htv
    refine w_kList (Evl.ex_l e3 hx) ?_
    refine loopL (xs := tvs) (fun dn r σ' H' => ∃ td tr rs kvs mk x6 x7 x8 x9 x10 x11 x12, ts = td ++ tr ∧ TabsV (del b H) r tr ∧ Fill td rs ∧ (∀ r ∈ rs, r.2.length ≤ most) ∧ BagAt H' b (n + 7000 * td.length) ∧ Ex (del b H) H' ∧ H' d = some (.dK kvs) ∧ Paired (RowsEnt K (del b H')) kvs rs ∧ H' c = some (.dK mk) ∧
        Paired (fun (p : Key × V) (q : Str × Nat) => p.1 = Sum.inr q.1 ∧ p.2 = V.int q.2) mk (manyOf rs) ∧ σ' = [some (.ref b), some (.ref p), some (.int most), some (.ref wa), some (.ref d), some (.ref c), x6, x7, x8, x9, x10, x11, x12])
      ⟨[], ts, [], [], [], _, _, _, _, _, _, _, rfl, htv, .nil, fun _ h => absurd h List.not_mem_nil, hB3, e3, f3, .nil, g3, .nil, rfl⟩ (fun dn r σ' H' _ h => ?_) (fun dn y r σ' H' hdd h => ?_) (fun σ' H' h => ?_)
    · obtain ⟨_, _, _, _, _, _, _, _, _, _, _, _, _, _, _, _, _, e, _⟩ := h
      exact Evl.ex_l e hx
    · obtain ⟨td, tr, rs, kvs, mk, x6, x7, x8, x9, x10, x11, x12, ets, hr', hF, lrs, hB', e, hd', hk, hc', hm, rfl⟩ := h
      obtain ⟨t, tr, rfl, ⟨ya, cl, rfl, hya, hcl⟩, hr2⟩ := paired_cons hr'
      obtain ⟨g1, g2, g3, g4⟩ := hG.split td t tr ets
      have ed := ex_dd e
      have hya' := e _ _ hya
      obtain ⟨cvs, hcl, hcv⟩ := hcl
      have ltd : td.length < 20 := by
        have := congrArg List.length ets
        rw [List.length_append, List.length_cons] at this
        omega
      have lcs : t.2.length ≤ 20 := Nat.le_trans g4.few (by decide)
      walk_at "w"
      refine ⟨cl, t.2, rfl, ⟨cvs, SqL.of (e _ _ hcl), hcv.ext e⟩, lcs, fun q1 H4 hq1 e4 hC1 => ?_⟩
      obtain ⟨lvs, hlv, hlc⟩ := hC1
      refine w_kList (SqL.of hlv) ?_
      intro D1 hD1
      have llv := paired_len hlc
      have lfl := List.length_filter_le Col.isLink t.2
      refine compQ (t.2.filter Col.isLink) (ColAt H4) (fun c => if c.opt = true then none else some c.target) (fun v x => v = V.str x) hD1 (SqL.of hlv) (by omega) hlc (fun y c hy hmc H5 e5 kk kn hk5 hkn => ?_) (fun acc H5 e5 hacc hp5 => ?_)
      · obtain ⟨a, rfl, ha⟩ := hy
        have ha5 := e5 _ _ ha
        have hL := (List.mem_filter.mp hmc).2
        walk_at "w"
        refine w_ixT (SqT.of ha5) (Col.at3 hL) ?_
        walk_at "w"
        cases ho : c.opt with
        | true =>
          rw [ho, if_pos rfl] at hkn
          walk_at "w"
          exact hkn _ (Ex.refl _) rfl
        | false =>
          rw [ho, if_neg (by decide)] at hk5
          walk_at "w"
          refine w_ixT (SqT.of ha5) (Col.at2 hL) ?_
          exact hk5 _ _ _ (Ex.refl _) rfl rfl
      have ev := vals_strs hp5
      generalize hneed : (t.2.filter Col.isLink).filterMap (fun c => if c.opt = true then none else some c.target) = need at hp5 ev
      have nd1 : ∀ x ∈ need, x ∈ td.map (·.1) := fun x hx => by
        rw [← hneed] at hx
        obtain ⟨c, hc, hcx⟩ := List.mem_filterMap.mp hx
        obtain ⟨hc1, hc2⟩ := List.mem_filter.mp hc
        split at hcx
        · cases hcx
        · cases hcx
          exact g4.tg c hc1 hc2
      have nd2 : ∀ c ∈ t.2, c.isLink = true → c.opt = false → c.target ∈ need := fun c hc hL ho => by
        rw [← hneed]
        exact List.mem_filterMap.mpr ⟨c, List.mem_filter.mpr ⟨hc, hL⟩, by rw [ho, if_neg (by decide)]⟩
      have lneed : need.length ≤ 20 := by
        have := List.length_filterMap_le (fun c : Col => if c.opt = true then none else some c.target) (t.2.filter Col.isLink)
        rw [hneed] at this
        omega
      have e45 := e4.trans e5
      have hB5 := hB'.ext e45
      have e05 := e.trans e45
      walk_at "w"
      refine ⟨b, most, _, rfl, hB5, by omega, by omega, by omega, fun z H6 z0 z1 hB6 e6 => ?_⟩
      refine ⟨1, z, rfl, rfl, ?_⟩
      dsimp only [gName]
      obtain ⟨z, rfl⟩ : ∃ j : Nat, z = (j : Int) := ⟨z.toNat, by omega⟩
      have zlt : z < most := by omega
      have e56 := ex_dd (b := b) e05
      refine joinI (R := fun σ' H' => ∃ (sm : Nat) (x9 x11 x12 : Option V), σ' = [some (.ref b), some (.ref p), some (.int most), some (.ref wa), some (.ref d), some (.ref c), some (.str t.1), some (.ref cl), some (.ref D1), x9, some (.int sm), x11, x12] ∧ sm ≤ most ∧ (0 < sm → ∀ x ∈ need, 0 < cnt rs x) ∧ BagAt H' b (n + 7000 * td.length + 2) ∧ Ex (del b H5) H') (fun Z hZ => ?_) (fun σ' H7 h7 => ?_)
      · have hD1 : (del b H5) D1 = some (.lst acc) := by rw [del_ne (hB5.ne hacc (by rw [ev]; intro i j k z; cases need with | nil => cases z | cons _ _ => cases z))]; exact hacc
        have hc5 : (del b H5) c = some (.dK mk) := by rw [del_ne bc.symm]; exact e45 _ _ hc'
        unfold tIfS
        walk_at "w"
        refine w_kList (SqL.of (e6 _ _ hD1)) ?_
        intro D2 hD2
        refine compQ need (fun v x => v = V.str x) (fun x => some (decide (cnt rs x = 0))) (fun v y => v = V.bl y) hD2 (SqL.of (e6 _ _ hD1)) (by rw [paired_len hp5]; omega) hp5 (fun y x hy hmx H8 e8 kk kn hk8 hkn => ?_) (fun acc2 H8 e8 hacc2 hp8 => ?_)
        · subst hy
          have mv := many_get hm (many_cnt (by rw [hF.names]; exact nd1 x hmx))
          walk_at "w"
          refine ⟨c, .int (cnt rs x : Nat), rfl, mv ▸ DGet.k (k := Sum.inr x) (e8 _ _ (e6 _ _ hc5)), ?_⟩
          walk_at "w"
          exact hk8 _ _ _ (Ex.refl _) rfl (by simp)
        · rw [filterMap_some] at hp8
          have ev8 := vals_bls hp8
          walk_at "w"
          refine w_any (bs := need.map fun x => decide (cnt rs x = 0)) (SqL.of (ev8 ▸ hacc2)) ?_
          have hB8 : BagAt H8 b (n + 7000 * td.length + 1) := hB6.ext e8
          have e68 : Ex (del b H5) H8 := e6.trans e8
          refine ⟨_, rfl, ?_⟩
          refine iteB (fun _ => iteT ?_) (fun hany => ?_)
          · walk_at "w"
            exact hZ _ _ ⟨0, _, _, _, rfl, Nat.zero_le _, fun h => absurd h (Nat.lt_irrefl 0), hB8.mono (by omega), e68⟩
          · have pos : ∀ x ∈ need, 0 < cnt rs x := fun x hx => by
              have hany : (need.map fun x => decide (cnt rs x = 0)).any id = false := hany
              rw [List.any_eq_false] at hany
              have := hany _ (List.mem_map.mpr ⟨x, hx, rfl⟩)
              have : ¬ cnt rs x = 0 := by simpa using this
              omega
            walk_at "w"
            refine ⟨b, 12, _, rfl, hB8, by omega, by decide, by decide, fun z2 H9 y0 y1 hB9 e9 => ?_⟩
            have e79 := ex_dtrans e68 e9
            walk_at "w"
            refine iteD (fun _ => ?_) (fun _ => ?_)
            · walk_at "w"
              exact hZ _ _ ⟨0, _, _, _, rfl, Nat.zero_le _, fun h => absurd h (Nat.lt_irrefl 0), hB9.mono (by omega), e79⟩
            · walk_at "w"
              exact hZ _ _ ⟨1 + z, _, _, _, rfl, by omega, fun _ => pos, hB9.mono (by omega), e79⟩
      · obtain ⟨sm, x9', x11', x12', rfl, s1, s2, hB7, e7⟩ := h7
        have lkv : kvs.length = td.length := by
          have a1 := paired_len hk
          have a2 := congrArg List.length hF.names
          rw [List.length_map, List.length_map] at a2
          omega
        have lmk : mk.length = td.length := by
          have a1 := paired_len hm
          have a2 := congrArg List.length hF.names
          unfold manyOf at a1
          rw [List.length_map] at a1
          rw [List.length_map, List.length_map] at a2
          omega
        have nrs : t.1 ∉ rs.map (·.1) := by rw [hF.names]; exact g3
        have nms : t.1 ∉ (manyOf rs).map (·.1) := by
          unfold manyOf
          rw [List.map_map]
          exact nrs
        have hc5 : (del b H5) c = some (.dK mk) := by rw [del_ne bc.symm]; exact e45 _ _ hc'
        have hd5 : (del b H5) d = some (.dK kvs) := by rw [del_ne bd.symm]; exact e45 _ _ hd'
        have hc7 := e7 _ _ hc5
        have hd7 := e7 _ _ hd5
        have e07 := ex_dtrans e05 e7
        have k7 : Paired (RowsEnt K (del b H7)) kvs rs := paired_imp (fun _ _ h => (h.ext (fun a o ho => by rw [del_ne (del_some ho).1]; exact e45 _ _ (del_some ho).2)).ext (ex_dd e7)) hk
        walk_at "w"
        refine ⟨c, _, rfl, DPut.k (k := Sum.inr t.1) hc7 (Nat.lt_of_le_of_lt (m := 100) (by omega) (by decide)), ?_⟩
        rw [putK_new (many_none hm nms)]
        have hB8 : BagAt (upd H7 c (.dK (mk ++ [(Sum.inr t.1, .int sm)]))) b (n + 7000 * td.length + 2) := hB7.upd bc
        have e08 : Ex (del b H) (upd H7 c (.dK (mk ++ [(Sum.inr t.1, .int sm)]))) := e07.mut cX
        have hd8 : (upd H7 c (.dK (mk ++ [(Sum.inr t.1, .int sm)]))) d = some (.dK kvs) := by rw [upd_ne dc]; exact hd7
        have hc8 : (upd H7 c (.dK (mk ++ [(Sum.inr t.1, .int sm)]))) c = some (.dK (mk ++ [(Sum.inr t.1, .int sm)])) := upd_same
        have k8 : Paired (RowsEnt K (del b (upd H7 c (.dK (mk ++ [(Sum.inr t.1, .int sm)]))))) kvs rs := by
          rw [del_upd bc]
          exact paired_imp (fun _ _ h => h.putD (by rw [del_ne bc.symm]; exact hc7)) k7
        generalize (upd H7 c (.dK (mk ++ [(Sum.inr t.1, .int sm)]))) = H8 at hB8 e08 hd8 hc8 k8 ⊢
        have hm8 : Paired (fun (p : Key × V) (q : Str × Nat) => p.1 = Sum.inr q.1 ∧ p.2 = V.int q.2) (mk ++ [(Sum.inr t.1, .int sm)]) (manyOf rs ++ [(t.1, sm)]) := paired_app hm (.cons ⟨rfl, rfl⟩ .nil)
        with_reducible refine' w_dput ?_
        refine rows_comp (n := n + 7000 * td.length + 2) (rs := rs) (cs := t.2) (cvs := cvs) (ms := manyOf rs ++ [(t.1, sm)]) (ws := ws) hB8 (by omega) (by omega) (SqL.of (ex_dd e08 _ _ hcl)) (hcv.ext (ex_dd e08)) lcs ⟨_, by rw [del_ne bc.symm]; exact hc8, hm8⟩ (Evl.ex_l (ex_dd e08) hwa) wne wl wok (fun c0 hc0 hL => ?_) (fun L vs rows H9 lrows okr hL0 hL hrow hB9 e9 => ?_)
        · have hin := g4.tg c0 hc0 hL
          refine ⟨?_, fun ho hs => s2 hs _ (nd2 c0 hc0 hL ho), Nat.le_trans (cnt_le lrs) (by omega)⟩
          rw [List.lookup_append, many_cnt (by rw [hF.names]; exact hin)]
          rfl
        · have hd9 : H9 d = some (.dK kvs) := e9 _ _ (by rw [del_ne bd.symm]; exact hd8)
          have hc9 : H9 c = some (.dK (mk ++ [(Sum.inr t.1, .int sm)])) := e9 _ _ (by rw [del_ne bc.symm]; exact hc8)
          have hdb9 : (del b H9) d = some (.dK kvs) := by rw [del_ne bd.symm]; exact hd9
          have Ld : L ≠ d := (ne_of_none hd8 hL0).symm
          walk_at "w"
          refine ⟨d, _, rfl, DPut.k (k := Sum.inr t.1) hd9 (Nat.lt_of_le_of_lt (m := 100) (by omega) (by decide)), ?_⟩
          rw [putK_new (rent_none hk nrs)]
          refine ⟨td ++ [t], tr, rs ++ [(t.1, rows)], kvs ++ [(Sum.inr t.1, .ref L)], mk ++ [(Sum.inr t.1, .int sm)], _, _, _, _, _, _, _, by rw [ets, List.append_assoc]; rfl, hr2, .snoc hF okr, fun q hq => ?_, ?_, (ex_dtrans e08 e9).mut dX, upd_same, ?_, by rw [upd_ne dc.symm]; exact hc9, ?_, rfl⟩
          · rcases List.mem_append.1 hq with hq | hq
            · exact lrs q hq
            · rw [List.mem_singleton.1 hq]
              show rows.length ≤ most
              omega
          · rw [List.length_append,
                  List.length_singleton]
            exact (hB9.upd bd).mono (by omega)
          · rw [del_upd bd]
            exact paired_app (paired_imp (fun _ _ h => (h.ext (ex_dd e9)).putD hdb9) k8) (.cons ⟨rfl, L, vs, rfl, by rw [upd_ne Ld]; exact hL, paired_imp (fun _ _ h => h.putD hdb9) hrow⟩ .nil)
          · have : manyOf (rs ++ [(t.1, rows)]) = manyOf rs ++ [(t.1, sm)] := by
              unfold manyOf
              rw [List.map_append, ← lrows]
              rfl
            rw [this]
            exact hm8
    · obtain ⟨td, tr, rs, kvs, mk, x6, x7, x8, x9, x10, x11, x12, ets, hr', hF, lrs, hB', e, hd', hk, hc', hm, rfl⟩ := h
      have etr : tr = [] := by cases hr'; rfl
      subst etr
      rw [List.append_nil] at ets
      subst ets
      walk_at "w"
      exact k d rs _ hF lrs hd ⟨kvs, by rw [del_ne bd.symm]; exact hd', hk⟩ (hB'.mono (by omega)) e
end
end LP
namespace LP
open PySem L2
open Evl (Ex)
section
variable {base : Heap} {mg : Str → Option Value} {K : PySem.W.Frag} {w : World} {P : Program}
theorem ok_list_names {f : Addr} {fd : FuncData} (D : C8.Def K mg "_law_list_names" s__law_list_names f fd) (b : Binds K fd ["tables", "name"] [])
    (c__law_all_links : C8.Cal P w K mg base 1 "_law_all_links" (spAllLinks K) []) : C8.Cal P w K mg base 2 "_law_list_names" (spNamesOf K) [] := by
  have sc : FnScope ["tables", "name", "found", "other", "columns", "column"] ["tables", "name"] (C8.fnScope s__law_list_names) := C8.fnScope_by (by decide +kernel)
  refine C8.cal0 D b .nil sc (fun vs H Q E h => ?_) (fun cdv A outer s H vs Q E hr h => ?_)
  · obtain ⟨_, _, _, rfl, _⟩ := h
    rfl
  · obtain ⟨p, ts, n, rfl, ⟨tvs, hx, ht⟩, hf, k⟩ := h
    refine ⟨_, (pss_cons (ps_set (i := 2) sc.nd rfl (Or.inl rfl) (pe_lst pa_nil))
        (pss_cons (ps_for PassesOwn.never rfl (pi_listK (K := K) rfl (pv 0)) (pg_tupK (K := K) (n := 2) rfl rfl (pgs_cons (pg_name (i := 3) sc.nd rfl (Or.inl rfl)) (pgs_cons (pg_name (i := 4) sc.nd rfl (Or.inl rfl)) pgs_nil)))
        (pss_one (ps_set (i := 2) sc.nd rfl (Or.inl rfl) (pe_op op_cat (pv 2) (pe_lc (own := [("column", 5)]) (g := (gName 5)) (by rfl) sc.nd (pi_listK (K := K) rfl (C8.pe_c c__law_all_links hr (by decide) rfl (pa_cons (pv 4) pa_nil))) (blkOk_by (own := [("column", 5)]) (N := ["tables", "name", "found", "other", "columns", "column"]) (sc := C8.fnScope s__law_list_names) (by decide +kernel)) (fun _ _ _ _ _ => (pg_name (i := 5) sc.nd rfl (Or.inl rfl))) (fun _ _ _ _ _ => pts_one (PW.pt (pw_and (pt_cmpR op_eq (pe_ix (ix_tupK (K := K) rfl) (pv 5) pe_int (fun _ _ => rfl)) (pv 1) (nomark _)) (pw_and1 (pt_cmpR op_notN' (pe_ix (ix_tupK (K := K) rfl) (pv 5) pe_int (fun _ _ => rfl)) pe_non (nomark _)))))) (fun _ _ _ _ _ => (pe_ix (ix_tupK (K := K) rfl) (pv 5) pe_int (fun _ _ => rfl))))))))
        (pss_one (ps_ret (pv 2))))), ?_⟩
    walk_at "w"
    intro q hq
    have hx0 : SqL K (upd H q (.lst [])) p tvs := Evl.ex_l (Ex.new hq) hx
    have ll := paired_len ht
    have l1 := hf.1
    walk_at "w"
    refine loopL (xs := tvs) (fun d r' σ' H' => Ex H H' ∧ ∃ md mr, ts = md ++ mr ∧ TabsV H r' mr ∧ ∃ q' x y z, σ' = [some (.ref p), some (.str n), some (.ref q'), x, y, z] ∧ H q' = none ∧ H' q' = some (.lst ((lnames md n).map V.str)))
      ⟨Ex.new hq, [], ts, rfl, ht, q, none, none, none, rfl, hq, upd_same⟩ (fun d r σ' H' _ h => Evl.ex_l h.1 hx) (fun d y r' σ' H' hd h => ?_) (fun σ' H' h => ?_)
    · obtain ⟨e', md, mr, ets, pr, q', x0, y0, z0, rfl, nq', hq'⟩ := h
      obtain ⟨t, mr1, emr, ⟨a, pc, rfl, ha, hc⟩, pr1⟩ := paired_cons pr
      subst emr
      have tin : t ∈ ts := by rw [ets]; simp
      have lt := hf.2 t tin
      have ha' := e' _ _ ha
      have lmd : (lnames md n).length ≤ 400 := by
        have := lnames_len (ts := md) (n := n) ⟨by rw [ets, List.length_append] at l1; omega, fun t' ht' => hf.2 t' (by rw [ets]; simp [ht'])⟩
        rw [ets, List.length_append] at l1
        omega
      walk_at "w"
      refine ⟨pc, t.2, rfl, (hc.ext e').read, lt, fun q1 H1 hq1 e1 hC1 => ?_⟩
      obtain ⟨cvs, hcv, hcl⟩ := hC1
      have lf := List.length_filter_le Col.isLink t.2
      have lc := paired_len hcl
      walk_at "w"
      intro D1 hD1
      refine compQ (t.2.filter Col.isLink) (ColAt H1) (fun c => if c.target = n then c.lst else none) (fun v (l : Str) => v = V.str l) hD1 (SqL.of hcv) (by omega) hcl (fun y c hy hm H2 e2 kk kn hk hn => ?_) (fun acc2 H2 e2 hacc2 hp3 => ?_)
      · obtain ⟨a2, rfl, ha2⟩ := hy
        have ha3 : H2 a2 = some (.tup c.vals) := e2 _ _ ha2
        have hL : c.isLink = true := (List.mem_filter.mp hm).2
        walk_at "w"
        refine w_ixT (SqT.of ha3) (Col.at2 hL) ?_
        walk_at "w"
        refine iteD (fun h => ?_) (fun h => ?_)
        · have h' : c.target = n := V.str.inj h
          rw [if_pos h'] at hk hn
          walk_at "w"
          refine w_ixT (SqT.of ha3) (Col.at4 hL) ?_
          walk_at "w"
          cases el : c.lst with
          | none =>
            refine iteND (fun h => absurd rfl h) (fun _ => ?_)
            exact hn _ (Ex.refl _) el
          | some l =>
            refine iteND (fun _ => ?_) (fun h => by cases h)
            walk_at "w"
            refine w_ixT (SqT.of ha3) (Col.at4 hL) ?_
            rw [el]
            exact hk _ l _ (Ex.refl _) el rfl
        · have h' : ¬ c.target = n := fun z => h (by rw [z])
          rw [if_neg h'] at hn
          walk_at "w"
          exact hn _ (Ex.refl _) rfl
      · have ev : acc2 = ((t.2.filterMap (lstEnt t.1 n)).map (·.1)).map V.str := by
          have e0 : (t.2.filter Col.isLink).filterMap (fun c => if c.target = n then c.lst else none) = (t.2.filterMap (lstEnt t.1 n)).map (·.1) := by
            rw [← ent_names, List.filterMap_filterMap]
            congr 1
            funext c
            unfold onTo
            split <;> rfl
          rw [vals_strs hp3, e0]
        have hq2 : H2 q' = some (.lst ((lnames md n).map V.str)) := e2 _ _ (e1 _ _ hq')
        have e02 : Ex H H2 := (e'.trans e1).trans e2
        have l2 := List.length_filterMap_le (lstEnt t.1 n) t.2
        refine w_cat hq2 hacc2 (Nat.le_trans (m := 1000) (by rw [ev]; simp only [List.length_map]; omega) (by decide)) fun q'' hq'' => ?_
        walk_at "w"
        have nH : H q'' = none := by
          cases z : H q'' with
          | none => rfl
          | some o => rw [e02 _ _ z] at hq''; cases hq''
        refine ⟨e02.trans (Ex.new hq''), md ++ [t], mr1, by rw [ets, List.append_assoc]; rfl, pr1, q'', _, _, _, rfl, nH, ?_⟩
        rw [upd_same, lnames_app, List.map_append, ev]
    · obtain ⟨e', md, mr, ets, pr, q', x0, y0, z0, rfl, nq', hq'⟩ := h
      have emr : mr = [] := by cases pr; rfl
      subst emr
      rw [List.append_nil] at ets
      subst ets
      walk_at "w"
      exact k q' _ nq' e' hq'
end
end LP
namespace LP
open PySem L2
open Evl (Ex)
/-- the first column that makes a list of a name on a table -/
def inCol (n l : Str) (c : Col) : Bool := c.isLink && decide (c.target = n) && decide (c.lst = some l)
def inCols (n l : Str) : Nat → List Col → Option Nat
  | _, [] => none
  | k, c :: r => if inCol n l c = true then some k else inCols n l (k + 1) r
def inTabs (n l : Str) : Tabs → Option (Str × Nat)
  | [] => none
  | t :: r => match inCols n l 0 t.2 with
    | some i => some (t.1, i)
    | none => inTabs n l r
/-- rows as wide as their columns, of cells alone -/
def RowsFit (ts : Tabs) (rs : RowsD) : Prop := ∀ t ∈ ts, (rowsD rs (.str t.1)).length ≤ 90000 ∧ ∀ r ∈ rowsD rs (.str t.1), r.length = t.2.length ∧ ∀ x ∈ r, flatD x = true ∧ SeqAt.shaped x = true
def spInList (K : PySem.W.Frag) : Sp := fun vs H Q _ => ∃ (p q : Addr) (ts : Tabs) (rs : RowsD) (n l : Str) (i : Int), vs = [.ref p, .ref q, .str n, .int i, .str l] ∧ TabsR K H p ts ∧ Few ts ∧ RowsAt K H q rs ∧ rs.map (·.1) = ts.map (·.1) ∧ RowsFit ts rs ∧ SeqAt.shaped (.int i) = true ∧
  (inTabs n l ts = none → ∀ H', Ex H H' → Q .non H') ∧ ∀ mk j, inTabs n l ts = some (mk, j) → ∀ L H', Ex H H' → H L = none → H' L = some (.lst ((hitsF (.int i) j 0 (rowsD rs (.str mk))).map fun j : Nat => V.int j)) → Q (.ref L) H'
section
variable {base : Heap} {mg : Str → Option Value} {K : PySem.W.Frag} {w : World} {P : Program}
theorem ok_in_list {f : Addr} {fd : FuncData} (D : C8.Def K mg "_law_in_list" s__law_in_list f fd) (b : Binds K fd ["tables", "rows", "name", "at", "listed"] []) (B : Blt mg) : C8.Cal P w K mg base 1 "_law_in_list" (spInList K) [] := by
  have sc : FnScope ["tables", "rows", "name", "at", "listed", "other", "columns", "place", "column", "index", "row"] ["tables", "rows", "name", "at", "listed"] (C8.fnScope s__law_in_list) := C8.fnScope_by (by decide +kernel)
  refine C8.cal0 D b .nil sc (fun vs H Q E h => ?_) (fun cdv A outer s H vs Q E hr h => ?_)
  · obtain ⟨_, _, _, _, _, _, _, rfl, _⟩ := h
    rfl
  · obtain ⟨p, q, ts, rs, n, l, at_, rfl, ⟨tvs, hx, ht⟩, hf, ⟨kvs, hq, hk⟩, nm, fit, sat, kN, kS⟩ := h
    refine ⟨_, (pss_cons (ps_for PassesOwn.never rfl (pi_listK (K := K) rfl (pv 0)) (pg_tupK (K := K) (n := 2) rfl rfl (pgs_cons (pg_name (i := 5) sc.nd rfl (Or.inl rfl)) (pgs_cons (pg_name (i := 6) sc.nd rfl (Or.inl rfl)) pgs_nil)))
        (pss_one (ps_for PassesOwn.never rfl (pi_enumK (K := K) rfl (by rfl) B.enumerate_ (pa_cons (pv 6) pa_nil)) (pg_tupK (K := K) (n := 2) rfl rfl (pgs_cons (pg_name (i := 7) sc.nd rfl (Or.inr rfl)) (pgs_cons (pg_name (i := 8) sc.nd rfl (Or.inl rfl)) pgs_nil)))
        (pss_one (ps_if (PW.pt (pw_and (pt_cmpR op_eq (pe_ix (ix_tupK (K := K) rfl) (pv 8) pe_int (fun _ _ => rfl)) pe_str (nomark _)) (pw_and (pt_cmpR op_eq (pe_ix (ix_tupK (K := K) rfl) (pv 8) pe_int (fun _ _ => rfl)) (pv 2) (nomark _)) (pw_and1 (pt_cmpR op_eq (pe_ix (ix_tupK (K := K) rfl) (pv 8) pe_int (fun _ _ => rfl)) (pv 4) (nomark _))))))
        (pss_one (ps_ret (pe_lc (own := [("index", 9), ("row", 10)]) (by rfl) sc.nd (pi_enumK (K := K) rfl (by rfl) B.enumerate_ (pa_cons (pe_dget (hu_of hr) (pv 1) (pv 5) (fun _ _ => rfl)) pa_nil)) (blkOk_by (own := [("index", 9), ("row", 10)]) (N := ["tables", "rows", "name", "at", "listed", "other", "columns", "place", "column", "index", "row"]) (sc := C8.fnScope s__law_in_list) (by decide +kernel)) (fun _ _ _ _ _ => (pg_tupK (K := K) (n := 2) rfl rfl (pgs_cons (pg_name (i := 9) sc.nd rfl (Or.inl rfl)) (pgs_cons (pg_name (i := 10) sc.nd rfl (Or.inl rfl)) pgs_nil)))) (fun _ _ _ _ _ => pts_one (PW.pt (pw_and (pt_cmpR op_notN' (pe_ix (ix_tupK (K := K) rfl) (pv 10) (pv 7) (fun _ _ => rfl)) pe_non (nomark _)) (pw_and1 (pt_cmpR (op_eqDK (K := K) rfl (hu64 hr)) (pe_ix (ix_tupK (K := K) rfl) (pv 10) (pv 7) (fun _ _ => rfl)) (pv 3) (nomark _)))))) (fun _ _ _ _ _ => (pv 9)))))
        pss_nil)))))
        (pss_one (ps_ret pe_non))), ?_⟩
    have ll := paired_len ht
    have l1 := hf.1
    walk_at "w"
    refine loopL (xs := tvs) (fun d r' σ' H' => Ex H H' ∧ ∃ md mr, ts = md ++ mr ∧ TabsV H r' mr ∧ inTabs n l mr = inTabs n l ts ∧ ∃ y5 y6 y7 y8 y9 y10, σ' = [some (.ref p), some (.ref q), some (.str n), some (.int at_), some (.str l), y5, y6, y7, y8, y9, y10])
      ⟨Ex.refl _, [], ts, rfl, ht, rfl, _, _, _, _, _, _, rfl⟩ (fun d r σ' H' _ h => Evl.ex_l h.1 hx) (fun d y r' σ' H' hd h => ?_) (fun σ' H' h => ?_)
    · obtain ⟨e', md, mr, ets, pr, ein, y5, y6, y7, y8, y9, y10, rfl⟩ := h
      obtain ⟨t, mr1, emr, ⟨a, pc, rfl, ha, cvs, hcv, hcl⟩, pr1⟩ := paired_cons pr
      subst emr
      have tin : t ∈ ts := by rw [ets]; simp
      have lt := hf.2 t tin
      have ha' := e' _ _ ha
      have hcv' := e' _ _ hcv
      walk_at "w"
      refine loopE (xs := cvs) (fun dd rr σ' H2 => Ex H H2 ∧ ∃ cd cr, t.2 = cd ++ cr ∧ cd.length = dd.length ∧ Paired (ColAt H) rr cr ∧ inCols n l dd.length cr = inCols n l 0 t.2 ∧ ∃ y7 y8 y9 y10, σ' = [some (.ref p), some (.ref q), some (.str n), some (.int at_), some (.str l), some (.str t.1), some (.ref pc), y7, y8, y9, y10])
        ⟨e', [], t.2, rfl, rfl, hcl, rfl, _, _, _, _, rfl⟩ (fun dd rr σ' H2 _ h => SqL.of (h.1 _ _ hcv)) (fun dd y rr σ' H2 T hdd hT h => ?_) (fun σ' H2 h => ?_)
      · obtain ⟨e2, cd, cr, ecs, lcd, hpr, eic, z7, z8, z9, z10, rfl⟩ := h
        obtain ⟨c, cr', rfl, hy, hpr'⟩ := paired_cons hpr
        have eT : Ex H (upd H2 T (.tup [.int (dd.length : Nat), y])) := e2.trans (Ex.new hT)
        have fT : (upd H2 T (.tup [.int (dd.length : Nat), y])) T = some (.tup [.int (dd.length : Nat), y]) := upd_same
        generalize (upd H2 T (.tup [.int (dd.length : Nat), y])) = H3 at eT fT ⊢
        obtain ⟨ya, rfl, hya⟩ := hy.ext eT
        rw [inCols] at eic
        have next : inCol n l c = false → ∃ cd cr, t.2 = cd ++ cr ∧ cd.length = (dd ++ [V.ref ya]).length ∧ Paired (ColAt H) rr cr ∧ inCols n l (dd ++ [V.ref ya]).length cr = inCols n l 0 t.2 := fun h0 => by
          rw [h0, if_neg (by decide)] at eic
          exact ⟨cd ++ [c], cr', by rw [ecs]; simp, by simp [lcd], hpr', by rw [List.length_append]; exact eic⟩
        walk_at "w"
        refine w_ixT (SqT.of hya) (Col.at0 c) ?_
        walk_at "w"
        refine iteD (fun h1 => ?_) (fun h1 => ?_)
        case refine_2 =>
          have h0 : inCol n l c = false := by
            cases c with
            | link x t o z => exact absurd rfl h1
            | plain f x => rfl
            | word x o => rfl
          obtain ⟨cd', cr'', q1, q2, q3, q4⟩ := next h0
          walk_at "w"
          exact ⟨eT, cd', cr'', q1, q2, q3, q4, _, _, _, _, rfl⟩
        obtain ⟨x, tg, o, z, rfl⟩ : ∃ x t o z, c = .link x t o z := by
          cases c with
          | link x t o z => exact ⟨x, t, o, z, rfl⟩
          | plain f x => cases f <;> exact absurd (V.str.inj h1) (by first | exact (by decide +kernel : ¬ ("flag" : Str) = "link") | exact (by decide +kernel : ¬ ("number" : Str) = "link"))
          | word x o => exact absurd (V.str.inj h1) (by decide +kernel : ¬ ("word" : Str) = "link")
        have hya : H3 ya = some (.tup [.str "link", .str x, .str tg, .bl o, vOpt z]) := hya
        walk_at "w"
        refine iteD (fun h2 => ?_) (fun h2 => ?_)
        case refine_2 =>
          have h0 : inCol n l (.link x tg o z) = false := by
            show (true && decide (tg = n) && decide (z = some l)) = false
            rw [decide_eq_false (fun e => h2 (by rw [e]))]
            rfl
          obtain ⟨cd', cr'', q1, q2, q3, q4⟩ := next h0
          walk_at "w"
          exact ⟨eT, cd', cr'', q1, q2, q3, q4, _, _, _, _, rfl⟩
        have h2 : tg = n := V.str.inj h2
        subst h2
        have other : ¬ z = some l → inCol tg l (.link x tg o z) = false := fun h => by
          show (true && decide (tg = tg) && decide (z = some l)) = false
          rw [decide_eq_false h, Bool.and_false]
        cases z with
        | none =>
          have hya : H3 ya = some (.tup [.str "link", .str x, .str tg, .bl o, .non]) := hya
          obtain ⟨cd', cr'', q1, q2, q3, q4⟩ := next (other (by intro z; cases z))
          walk_at "w"
          refine iteD (fun h => by cases h) (fun _ => ?_)
          walk_at "w"
          exact ⟨eT, cd', cr'', q1, q2, q3, q4, _, _, _, _, rfl⟩
        | some z =>
          have hya : H3 ya = some (.tup [.str "link", .str x, .str tg, .bl o, .str z]) := hya
          walk_at "w"
          refine iteD (fun h3 => ?_) (fun h3 => ?_)
          case refine_2 =>
            obtain ⟨cd', cr'', q1, q2, q3, q4⟩ := next (other (fun e => h3 (by rw [Option.some.inj e])))
            walk_at "w"
            exact ⟨eT, cd', cr'', q1, q2, q3, q4, _, _, _, _, rfl⟩
          have h3 : z = l := V.str.inj h3
          subst h3
          have hin : inCol tg z (.link x tg o (some z)) = true := by
            show (true && decide (tg = tg) && decide (some z = some z)) = true
            rw [decide_eq_true rfl, decide_eq_true rfl]
            rfl
          rw [hin, if_pos rfl] at eic
          have found : inTabs tg z ts = some (t.1, dd.length) := by
            rw [← ein, inTabs, ← eic]
          have hlr : rs.lookup t.1 = some (rowsD rs (.str t.1)) := by
            obtain ⟨_, e1, e2⟩ := tab_rows (ts := ts) (d := .str t.1) nm (decide_eq_true (List.mem_map.mpr ⟨t, tin, rfl⟩))
            cases e1
            exact e2
          obtain ⟨lm, xs, q1, q2, q3⟩ := ent_get hk hlr
          obtain ⟨f1, f2⟩ := fit t tin
          walk_at "w"
          refine ⟨q, .ref lm, rfl, q1 ▸ DGet.k (k := Sum.inr t.1) (eT _ _ hq), ?_⟩
          have q2T := eT _ _ q2
          walk_at "w"
          intro D2 hD2
          have lp := paired_len q3
          have ldd : dd.length < t.2.length := by
            rw [ecs, List.length_append, List.length_cons]
            omega
          refine compEP (xs := xs) (fun j _ => if PyData.eqv (((((rowsD rs (.str t.1))[j]?).getD []))[dd.length]?.getD .none) (.int at_) = true then some (.int (j : Nat)) else none) hD2 (SqL.of (eT _ _ q2)) (by omega) (fun j y H4 T2 hy e4 hT2 kk kn hk4 hkn => ?_) (fun H4 e4 hL => ?_)
          · obtain ⟨r, hr', ra, rfl, hra⟩ := paired_ix q3 hy
            obtain ⟨w1, w2⟩ := f2 r (List.mem_of_getElem? hr')
            have lir : dd.length < r.length := by omega
            have hcell : (r.map cellV)[dd.length]? = some (cellV r[dd.length]) := by rw [List.getElem?_map, List.getElem?_eq_getElem lir]; rfl
            obtain ⟨fl, shx⟩ := w2 _ (List.getElem_mem lir)
            have ev : ((((rowsD rs (.str t.1))[j]?).getD []))[dd.length]?.getD .none = r[dd.length] := by rw [hr', Option.getD_some, List.getElem?_eq_getElem lir]; rfl
            rw [ev] at hk4 hkn
            have hra4 : SqT K H4 ra (r.map cellV) := Evl.ex_t (eT.trans e4) hra
            generalize r[dd.length] = x0 at hk4 hkn fl shx hcell
            walk_at "w"
            refine w_ixT hra4 (atI_nat hcell) ?_
            walk_at "w"
            refine iteND (fun hne => ?_) (fun he => ?_)
            · walk_at "w"
              refine w_ixT hra4 (atI_nat hcell) ?_
              walk_at "w"
              refine ⟨x0, .int at_, cell_dp fl, .int _, shx, sat, ?_⟩
              cases hq' : PyData.eqv x0 (.int at_) with
              | true =>
                rw [hq', if_pos rfl] at hk4
                walk_at "w"
                exact hk4 _ _ (Ex.refl _) rfl
              | false =>
                rw [hq', if_neg (by decide)] at hkn
                walk_at "w"
                exact hkn _ (Ex.refl _) rfl
            · have hq' : PyData.eqv x0 (.int at_) = false := by
                cases x0 with
                | none => rfl
                | bool b => cases he
                | int i => cases he
                | str x => cases he
                | _ => cases fl
              rw [hq', if_neg (by decide)] at hkn
              walk_at "w"
              exact hkn _ (Ex.refl _) rfl
          · rw [fmI_hits (d := .int at_) (i := dd.length) q3 (fun j v r hj hr => by rw [Nat.zero_add, hr]; rfl)] at hL
            refine kS t.1 dd.length found D2 H4 (eT.trans e4) ?_ hL
            cases z : H D2 with
            | none => rfl
            | some o => rw [eT _ _ z] at hD2; cases hD2
      · obtain ⟨e2, cd, cr, ecs, lcd, hpr, eic, z7, z8, z9, z10, rfl⟩ := h
        have ecr : cr = [] := by cases hpr; rfl
        subst ecr
        have eno : inCols n l 0 t.2 = none := eic.symm
        refine ⟨e2, md ++ [t], mr1, by rw [ets, List.append_assoc]; rfl, pr1, ?_, _, _, _, _, _, _, rfl⟩
        rw [← ein, inTabs, eno]
    · obtain ⟨e', md, mr, ets, pr, ein, y5, y6, y7, y8, y9, y10, rfl⟩ := h
      have emr : mr = [] := by cases pr; rfl
      subst emr
      walk_at "w"
      exact kN ein.symm _ e'
end
end LP
namespace LP
open PySem L2
open Evl (Ex)
/-! ### each value of a row, asked of the store -/
theorem place_at {cs : List Col} {c : Col} : ∀ {j : Nat} (k : Nat), (cs.map Col.name).Nodup → cs[j]? = some c → placeF (.str c.name) k cs = some (k + j) := by
  induction cs with
  | nil => intro j k _ h; cases h
  | cons a r ih =>
    intro j k nd h
    rw [List.map_cons,
            List.nodup_cons] at nd
    have ee : ∀ x y : Str, PyData.eqv (.str x) (.str y) = decide (x = y) := fun x y => by
      show (x == y) = decide (x = y)
      by_cases e : x = y
      · rw [decide_eq_true e, e]; exact beq_self_eq_true _
      · rw [decide_eq_false e]; exact beq_eq_false_iff_ne.mpr e
    rw [placeF, ee]
    cases j with
    | zero =>
      cases h
      rw [decide_eq_true rfl, if_pos rfl]
      rfl
    | succ j =>
      have h : r[j]? = some c := h
      have ne : ¬ a.name = c.name := fun e => nd.1 (by rw [e]; exact List.mem_map.mpr ⟨c, List.mem_of_getElem? h, rfl⟩)
      rw [decide_eq_false ne, if_neg (by decide), ih (k + 1) nd.2 h, show k + 1 + j = k + (j + 1) by omega]
section
variable {K : PySem.W.Frag} {CS CN CR C : Addr} {s cl ra : Addr} {u : Str} {ts : Tabs} {rs : RowsD} {t : Str × List Col} {j : Nat} {r : List PyData} {cvs : List V} {x1 x2 x5 x8 x9 x10 x11 : Option V} {H : Hp} {D : Ends}
theorem value_loop (tin : t ∈ ts) (hA : StoreAt K CS C H s u ts rs) (hG : GoodTabs ts) (hcl : SqL K H cl cvs) (hcv : ColsV H cvs t.2) (hra : SqT K H ra (r.map cellV)) (fit : RowsFit ts rs) (hr : (rowsD rs (.str t.1))[j]? = some r) (nd : (t.2.map Col.name).Nodup) (sh : ∀ c ∈ t.2, SeqAt.shaped (.str c.name) = true) (lc : t.2.length ≤ 1000)
    (k : ∀ x8 x9 H', Ex H H' → D.nx [some (.ref s), x1, x2, some (.str t.1), some (.ref cl), x5, some (.ref ra), some (.int j), x8, x9, x10, x11] H') :
    tFor (iZipM K (tCons (tVar 4) (tCons (tVar 6) tNil))) (gTup K 2 (gCons (gName 8) (gCons (gName 9) gNil)))
      (tIfS (tNot (tB (tCall (spSame K) [] C8.E0 (tCons (tMeth CS (Str.ofString "value") (spValue7 K CS CN CR C) [] (fun _ _ _ => False) (tVar 0) (tCons (tVar 3) (tCons (tVar 7) (tCons (tOp (rIxT K) (tVar 8) (tC (V.int 1))) tNil)))) (tCons (tVar 9) tNil))))) (tRet (tC (V.bl false))) tNext)
      D [some (.ref s), x1, x2, some (.str t.1), some (.ref cl), x5, some (.ref ra), some (.int j), x8, x9, x10, x11] H := by
  obtain ⟨f1, f2⟩ := fit t tin
  have hmr := List.mem_of_getElem? hr
  obtain ⟨w1, w2⟩ := f2 r hmr
  have lcv := paired_len hcv
  have ljr : j < (rowsD rs (.str t.1)).length := (List.getElem?_eq_some_iff.mp hr).1
  obtain ⟨⟨sch, dr, kvs, hP, hS⟩, nm⟩ := id hA
  obtain ⟨dx, fs, hp, h1, h2, h3⟩ := hP.ins
  have htab : tabD ts (.str t.1) = true := decide_eq_true (List.mem_map.mpr ⟨t, tin, rfl⟩)
  unfold tFor
  refine w_iZipM ?_
  walk_at "w"
  refine ⟨cl, ra, cvs, _, rfl, hcl, hra, ?_⟩
  refine loopZM (t.2.zip r) (R := fun x y z => ColAt H x z.1 ∧ y = cellV z.2) (by rw [List.length_zip]; omega) (by rw [List.length_zip, List.length_map]; omega) (fun i x y hx hy => ?_)
    (fun rr σ' H' => Ex H H' ∧ ∃ y8 y9, σ' = [some (.ref s), x1, x2, some (.str t.1), some (.ref cl), x5, some (.ref ra), some (.int j), y8, y9, x10, x11])
    ⟨Ex.refl _, _, _, rfl⟩ (fun rr σ' H' h => ⟨Evl.ex_l h.1 hcl, Evl.ex_t h.1 hra⟩) (fun x y z rr σ' H' T hR hd hT h => ?_) (fun σ' H' h => ?_)
  · obtain ⟨c, hc, hcx⟩ := paired_ix hcv hx
    rw [List.getElem?_map] at hy
    cases e : r[i]? with
    | none => rw [e] at hy; cases hy
    | some v =>
      rw [e] at hy
      cases hy
      exact ⟨(c, v), by rw [List.getElem?_zip_eq_some]; exact ⟨hc, e⟩, hcx, rfl⟩
  · obtain ⟨e', y8, y9, rfl⟩ := h
    obtain ⟨⟨xa, rfl, hxa⟩, rfl⟩ := hR
    obtain ⟨dd, hdd⟩ := hd
    have hz : (t.2.zip r)[dd.length]? = some z := by rw [hdd]; simp
    obtain ⟨hc, hv⟩ := List.getElem?_zip_eq_some.mp hz
    have eT : Ex H (upd H' T (.tup [.ref xa, cellV z.2])) := e'.trans (Ex.new hT)
    have fT : (upd H' T (.tup [.ref xa, cellV z.2])) T = some (.tup [.ref xa, cellV z.2]) := upd_same
    generalize (upd H' T (.tup [.ref xa, cellV z.2])) = H2 at eT fT ⊢
    obtain ⟨fl, shx⟩ := w2 z.2 (List.mem_of_getElem? hv)
    have hxa2 := eT _ _ hxa
    walk_at "w"
    refine w_kMeth (eT _ _ hp) (h3 _ (by decide +kernel) (by decide +kernel)) ?_
    walk_at "w"
    refine w_ixT (SqT.of hxa2) (Col.at1 z.1) ?_
    have hcm := List.mem_of_getElem? hc
    have hcell : cellD (rowsD rs (.str t.1)) (.int j) dd.length = z.2 := by
      show ((((rowsD rs (.str t.1))[((j : Nat) : Int).toNat]?).getD []))[dd.length]?.getD .none = z.2
      rw [Int.toNat_natCast, hr, Option.getD_some, hv, Option.getD_some]
    have idx : idxD (rowsD rs (.str t.1)).length (.int j) = true := by
      show (decide ((0 : Int) ≤ (j : Int)) && decide ((j : Int) < ((rowsD rs (.str t.1)).length : Int))) = true
      rw [decide_eq_true (by omega), decide_eq_true (by omega)]
      rfl
    have pl : placeF (.str z.1.name) 0 t.2 = some dd.length := by rw [place_at 0 nd hc, Nat.zero_add]
    walk_at "w"
    refine ⟨s, .str t.1, .int j, .str z.1.name, .str t.1, .int j, .str z.1.name, u, ts, rs, rfl, hA.ext eT, .str _, .int _, .str _, (fun x h => by cases h), sh _ hcm, by omega, .inr (.inr ⟨htab, idx, t.1, t.2, rfl, lookup_mem hG.nodup tin, lc, sh, fun r hr => (f2 r hr).1, .inr ⟨dd.length, pl, fun H3 e3 => ?_⟩⟩)⟩
    rw [hcell]
    walk_at "w"
    refine ⟨cellV z.2, cellV z.2, z.2, z.2, rfl, cell_dp fl, cell_dp fl, shx, shx, ?_⟩
    have sm : sameB z.2 z.2 = true := by
      unfold sameB
      rw [PySem.SeqAt.eqv_refl _ (SeqAt.canLay_of_shaped shx)]
      simp
    rw [sm]
    walk_at "w"
    exact ⟨eT.trans e3, _, _, rfl⟩
  · obtain ⟨e', y8, y9, rfl⟩ := h
    exact k _ _ _ e'
end
end LP
namespace LP
open PySem L2
/-! ### the maker of a list, found in two ways -/
theorem ent_in {t n l : Str} {c : Col} : (inCol n l c = true ∧ lstEnt t n c = some (l, t, c.name)) ∨ (inCol n l c = false ∧ (lstEnt t n c = none ∨ ∃ l' e, lstEnt t n c = some (l', e) ∧ ¬ l = l')) := by
  cases c with
  | plain f x => exact .inr ⟨rfl, .inl rfl⟩
  | word x o => exact .inr ⟨rfl, .inl rfl⟩
  | link x tg o z =>
    have e1 : inCol n l (.link x tg o z) = (decide (tg = n) && decide (z = some l)) := by
      show (true && decide (tg = n) && decide (z = some l)) = _
      rw [Bool.true_and]
    cases z with
    | none =>
      refine .inr ⟨?_, .inl rfl⟩
      rw [e1, show decide ((none : Option Str) = some l) = false from rfl, Bool.and_false]
    | some z =>
      have e2 : lstEnt t n (.link x tg o (some z)) = if tg = n then some (z, t, x) else none := rfl
      by_cases h : tg = n
      · by_cases h2 : z = l
        · refine .inl ⟨?_, ?_⟩
          · rw [e1, decide_eq_true h, decide_eq_true (by rw [h2])]
            rfl
          · rw [e2, if_pos h, h2]
            rfl
        · refine .inr ⟨?_, .inr ⟨z, (t, x), by rw [e2, if_pos h], fun e => h2 e.symm⟩⟩
          rw [e1, decide_eq_false (fun e => h2 (Option.some.inj e)), Bool.and_false]
      · refine .inr ⟨?_, .inl (by rw [e2, if_neg h])⟩
        rw [e1, decide_eq_false h, Bool.false_and]
theorem cols_in {t n l : Str} : ∀ (cs : List Col) (k : Nat), (inCols n l k cs = none ∧ (cs.filterMap (lstEnt t n)).lookup l = none) ∨ ∃ i c, cs[i]? = some c ∧ inCols n l k cs = some (k + i) ∧ (cs.filterMap (lstEnt t n)).lookup l = some (t, c.name)
  | [], _ => .inl ⟨rfl, rfl⟩
  | a :: r, k => by
    rcases ent_in (t := t) (n := n) (l := l) (c := a) with ⟨h1, h2⟩ | ⟨h1, h2⟩
    · refine .inr ⟨0, a, rfl, ?_, ?_⟩
      · rw [inCols, h1, if_pos rfl]; rfl
      · rw [List.filterMap_cons_some h2, List.lookup_cons, show (l == l) = true from beq_self_eq_true _]
    · have e1 : inCols n l k (a :: r) = inCols n l (k + 1) r := by rw [inCols, h1, if_neg (by decide)]
      have e2 : ((a :: r).filterMap (lstEnt t n)).lookup l = (r.filterMap (lstEnt t n)).lookup l := by
        rcases h2 with h2 | ⟨l', e, h2, ne⟩
        · rw [List.filterMap_cons_none h2]
        · rw [List.filterMap_cons_some h2, List.lookup_cons, show (l == l') = false from beq_eq_false_iff_ne.mpr ne]
      rw [e1, e2]
      rcases cols_in (t := t) r (k + 1) with h | ⟨i, c, q1, q2, q3⟩
      · exact .inl h
      · exact .inr ⟨i + 1, c, q1, by rw [q2, show k + 1 + i = k + (i + 1) by omega], q3⟩
theorem tabs_in {n l : Str} : ∀ (ts : Tabs), (inTabs n l ts = none ∧ (listsOf ts n).lookup l = none) ∨ ∃ t, t ∈ ts ∧ ∃ (i : Nat) (c : Col), t.2[i]? = some c ∧ inTabs n l ts = some (t.1, i) ∧ (listsOf ts n).lookup l = some (t.1, c.name)
  | [] => .inl ⟨rfl, rfl⟩
  | t :: r => by
    have e : (listsOf (t :: r) n).lookup l = ((t.2.filterMap (lstEnt t.1 n)).lookup l).or ((listsOf r n).lookup l) := by
      unfold listsOf
      rw [List.flatMap_cons, List.lookup_append]
    rcases cols_in (t := t.1) (n := n) (l := l) t.2 0 with ⟨h1, h2⟩ | ⟨i, c, q1, q2, q3⟩
    · rw [inTabs, h1, e, h2]
      rcases tabs_in (n := n) (l := l) r with h | ⟨t', ht', h⟩
      · exact .inl h
      · exact .inr ⟨t', List.mem_cons_of_mem _ ht', h⟩
    · refine .inr ⟨t, List.mem_cons_self, i, c, q1, ?_, ?_⟩
      · rw [inTabs, q2, Nat.zero_add]
      · rw [e, q3]
        rfl
theorem list_facts {ts : Tabs} {n l : Str} (nd : ∀ t ∈ ts, (t.2.map Col.name).Nodup) (hl : l ∈ lnames ts n) : ∃ t, t ∈ ts ∧ ∃ (i : Nat) (cn : Str), (listsOf ts n).lookup l = some (t.1, cn) ∧ inTabs n l ts = some (t.1, i) ∧ placeF (.str cn) 0 t.2 = some i ∧ ∃ c ∈ t.2, c.name = cn := by
  rcases tabs_in (n := n) (l := l) ts with ⟨_, h⟩ | ⟨t, ht, i, c, q1, q2, q3⟩
  · obtain ⟨e, he⟩ := lookup_some (l := listsOf ts n) hl
    rw [h] at he
    cases he
  · exact ⟨t, ht, i, c.name, q3, q2, by rw [place_at 0 (nd t ht) q1, Nat.zero_add], c, List.mem_of_getElem? q1, rfl⟩
end LP
namespace LP
open PySem L2
open Evl (Ex)
/-! ### each list of a row, asked of the store twice -/
theorem hits_len {d : PyData} {i : Nat} : ∀ {rows : List (List PyData)} {k : Nat}, (hitsF d i k rows).length ≤ rows.length
  | [], _ => Nat.le_refl _
  | r :: q, k => by
    have := hits_len (d := d) (i := i) (rows := q) (k := k + 1)
    rw [hitsF, List.length_append, List.length_cons]
    split
    · rw [List.length_singleton]; omega
    · rw [List.length_nil]; omega
theorem dp_nats {K : PySem.W.Frag} {H : Hp} : ∀ {ns : List Nat}, DpAll K H (ns.map fun j : Nat => V.int j) ((ns.map fun j : Nat => (j : Int)).map PyData.int)
  | [] => .nil
  | _ :: _ => .cons (.int _) dp_nats
theorem shaped_nats {ns : List Int} : SeqAt.shaped (.list (ns.map PyData.int)) = true := by
  first | exact PySem.SeqAt.shaped_ints ns | exact PySem.W.ke_shaped_ints ns | exact PySem.W.shaped_ints ns | exact PySem.ke_shaped_ints ns | exact PySem.shaped_ints ns
section
variable {K : PySem.W.Frag} {CS CN CR C : Addr} {s p q cl ra : Addr} {u : Str} {ts : Tabs} {rs : RowsD} {t : Str × List Col} {j : Nat} {x5 x6 x8 x9 x10 x11 : Option V} {H : Hp} {D : Ends}
theorem list_loop (tin : t ∈ ts) (hA : StoreAt K CS C H s u ts rs) (hT : TabsR K H p ts) (hf : Few ts) (hG : GoodTabs ts) (hR : RowsAt K H q rs) (fit : RowsFit ts rs) (hj : j < (rowsD rs (.str t.1)).length) (nd : ∀ t ∈ ts, (t.2.map Col.name).Nodup) (sh : ∀ t ∈ ts, ∀ c ∈ t.2, SeqAt.shaped (.str c.name) = true) (lc : ∀ t ∈ ts, t.2.length ≤ 1000)
    (k : ∀ x10 x11 H', Ex H H' → D.nx [some (.ref s), some (.ref p), some (.ref q), some (.str t.1), some (.ref cl), x5, x6, some (.int j), x8, x9, x10, x11] H') :
    tFor (iList K (tCall (spNamesOf K) [] C8.E0 (tCons (tVar 1) (tCons (tVar 3) tNil)))) (gName 10)
      (tSeq (tAsg (tMeth CS (Str.ofString "listed") (spListed K CS CN CR C) [] (fun _ _ _ => False) (tVar 0) (tCons (tVar 3) (tCons (tVar 7) (tCons (tVar 10) tNil)))) (gName 11))
        (tSeq (tIfS (tOr (tNot (tB (tCB (rIsi K) (tCons (tVar 11) (tCons (tC (V.ty "list")) tNil))))) (tTest (tOp (rNeD K) (tVar 11) (tCall (spInList K) [] C8.E0 (tCons (tVar 1) (tCons (tVar 2) (tCons (tVar 3) (tCons (tVar 7) (tCons (tVar 10) tNil))))))))) (tRet (tC (V.bl false))) tNext)
          (tSeq (tDrop (tBM K "list" rAppend (tVar 11) (tCons (tC (V.int 0)) tNil)))
            (tIfS (tTest (tOp (rNeD K) (tMeth CS (Str.ofString "listed") (spListed K CS CN CR C) [] (fun _ _ _ => False) (tVar 0) (tCons (tVar 3) (tCons (tVar 7) (tCons (tVar 10) tNil)))) (tCall (spInList K) [] C8.E0 (tCons (tVar 1) (tCons (tVar 2) (tCons (tVar 3) (tCons (tVar 7) (tCons (tVar 10) tNil)))))))) (tRet (tC (V.bl false))) tNext))))
      D [some (.ref s), some (.ref p), some (.ref q), some (.str t.1), some (.ref cl), x5, x6, some (.int j), x8, x9, x10, x11] H := by
  obtain ⟨f1, f2⟩ := fit t tin
  obtain ⟨⟨sch, dr, kvs, hP, hS⟩, nm⟩ := id hA
  obtain ⟨dx, fs, hp, h1, h2, h3⟩ := hP.ins
  have tn : t.1 ∈ ts.map (·.1) := List.mem_map.mpr ⟨t, tin, rfl⟩
  have htab : tabD ts (.str t.1) = true := decide_eq_true tn
  have idx : idxD (rowsD rs (.str t.1)).length (.int j) = true := by
    show (decide ((0 : Int) ≤ (j : Int)) && decide ((j : Int) < ((rowsD rs (.str t.1)).length : Int))) = true
    rw [decide_eq_true (by omega), decide_eq_true (by omega)]
    rfl
  have ask : ∀ {l : Str} {H1 : Hp} {Q : VK}, l ∈ lnames ts t.1 → Ex H H1 → (∀ (L : Addr) (H2 : Hp) (ns : List Nat), Ex H1 H2 → H1 L = none → ns.length ≤ 90000 → H2 L = some (.lst (ns.map fun j : Nat => V.int j)) → (∀ (H3 : Hp) (Q2 : VK), Ex H H3 → (∀ L3 H4, Ex H3 H4 → H3 L3 = none → H4 L3 = some (.lst (ns.map fun j : Nat => V.int j)) → Q2 (.ref L3) H4) → spInList K [.ref p, .ref q, .str t.1, .int j, .str l] H3 Q2 C8.E0) → Q (.ref L) H2) →
      spListed K CS CN CR C [.ref s, .str t.1, .int j, .str l] H1 Q (fun _ _ _ => False) := fun {l H1 Q} hl e kk => by
    obtain ⟨m, hm, i, cn, a1, a2, a3, c, hc, rfl⟩ := list_facts nd hl
    obtain ⟨g1, g2⟩ := fit m hm
    have lm : ts.lookup m.1 = some m.2 := lookup_mem hG.nodup hm
    refine ⟨s, .str t.1, .int j, .str l, .str t.1, .int j, .str l, u, ts, rs, rfl, hA.ext e, .str _, .int _, .str _, (fun x h => by cases h), by omega,
      .inr (.inr ⟨htab, idx, t.1, listsOf ts t.1, rfl, mirOf_look hG tn, .inr ⟨l, m.1, c.name, m.2, i, rfl, a1, lm, lc m hm, sh m hm, sh m hm c hc, a3, g1, g2, rfl, fun L H2 e2 hL hLx => ?_⟩⟩)⟩
    refine kk L H2 _ e2 hL (Nat.le_trans hits_len g1) hLx fun H3 Q2 e3 kq => ?_
    obtain ⟨tvs, hx, ht⟩ := hT
    obtain ⟨rkvs, hq, hrk⟩ := hR
    refine ⟨p, q, ts, rs, t.1, l, j, rfl, ⟨tvs, Evl.ex_l e3 hx, ht.ext e3⟩, hf, ⟨rkvs, e3 _ _ hq, paired_imp (fun _ _ h => h.ext e3) hrk⟩, nm, fit, rfl, (fun h => by rw [a2] at h; cases h), fun mk i' hin L3 H4 e4 hL3 hL4 => ?_⟩
    rw [a2] at hin
    cases hin
    exact kq L3 H4 e4 hL3 hL4
  unfold tFor
  refine w_iList ?_
  walk_at "w"
  refine ⟨p, ts, t.1, rfl, hT, hf, fun q1 H1 hq1 e1 hL1 => ?_⟩
  refine w_kList (SqL.of hL1) ?_
  refine loopL (xs := (lnames ts t.1).map V.str) (fun d r σ' H' => Ex H1 H' ∧ (∃ ls, (∀ l ∈ ls, l ∈ lnames ts t.1) ∧ r = ls.map V.str) ∧ ∃ y10 y11, σ' = [some (.ref s), some (.ref p), some (.ref q), some (.str t.1), some (.ref cl), x5, x6, some (.int j), x8, x9, y10, y11])
    ⟨Ex.refl _, ⟨lnames ts t.1, fun _ h => h, rfl⟩, _, _, rfl⟩ (fun d r σ' H' _ h => SqL.of (h.1 _ _ hL1)) (fun d y r σ' H' hd h => ?_) (fun σ' H' h => ?_)
  · obtain ⟨e', ⟨ls, hls, er⟩, y10, y11, rfl⟩ := h
    cases ls with
    | nil => cases er
    | cons l ls =>
    rw [List.map_cons] at er
    injection er with er1 er2
    subst er1
    subst er2
    have hl := hls l List.mem_cons_self
    have e0 := e1.trans e'
    walk_at "w"
    refine w_kMeth (e0 _ _ hp) (h3 _ (by decide +kernel) (by decide +kernel)) ?_
    walk_at "w"
    refine ask hl e0 fun L H2 ns e2 hL lns hL2 again => ?_
    have e02 := e0.trans e2
    walk_at "w"
    refine w_isi (.base (.lst hL2)) (show kitB "list" "list" = some true by decide +kernel) ?_
    walk_at "w"
    refine again H2 _ e02 fun L3 H3 e3 hL3 hLL3 => ?_
    have eqv_ : PyData.eqv (.list ((ns.map fun j : Nat => (j : Int)).map PyData.int)) (.list ((ns.map fun j : Nat => (j : Int)).map PyData.int)) = true := PySem.SeqAt.eqv_refl _ (SeqAt.canLay_of_shaped shaped_nats)
    refine ⟨_, _, .lst (SqL.of (e3 _ _ hL2)) dp_nats, .lst (SqL.of hLL3) dp_nats, shaped_nats, shaped_nats, ?_⟩
    rw [eqv_]
    have hL23 := e3 _ _ hL2
    have lx : (ns.map fun j : Nat => V.int j).length < sizeLine := Nat.lt_of_le_of_lt (m := 90000) (by rw [List.length_map]; exact lns) (by decide)
    walk_at "w"
    have none_ : ∀ {G : Hp}, Ex G H' → G L = none := fun {G} e => by
      cases z : G L with
      | none => rfl
      | some o => rw [e _ _ z] at hL; cases hL
    have e13 : Ex H1 (upd H3 L (.lst ((ns.map fun j : Nat => V.int j) ++ [.int 0]))) := ((e'.trans e2).trans e3).mut (none_ e')
    have e04 : Ex H (upd H3 L (.lst ((ns.map fun j : Nat => V.int j) ++ [.int 0]))) := e1.trans e13
    generalize (upd H3 L (.lst ((ns.map fun j : Nat => V.int j) ++ [.int 0]))) = H4 at e13 e04 ⊢
    refine w_kMeth (e04 _ _ hp) (h3 _ (by decide +kernel) (by decide +kernel)) ?_
    walk_at "w"
    refine ask hl e04 fun L5 H5 ns5 e5 hL5 lns5 hLL5 again5 => ?_
    have e05 := e04.trans e5
    walk_at "w"
    refine again5 H5 _ e05 fun L6 H6 e6 hL6 hLL6 => ?_
    have eqv5 : PyData.eqv (.list ((ns5.map fun j : Nat => (j : Int)).map PyData.int)) (.list ((ns5.map fun j : Nat => (j : Int)).map PyData.int)) = true := PySem.SeqAt.eqv_refl _ (SeqAt.canLay_of_shaped shaped_nats)
    refine ⟨_, _, .lst (SqL.of (e6 _ _ hLL5)) dp_nats, .lst (SqL.of hLL6) dp_nats, shaped_nats, shaped_nats, ?_⟩
    rw [eqv5]
    walk_at "w"
    exact ⟨(e13.trans e5).trans e6, ⟨ls, fun x hx => hls x (List.mem_cons_of_mem _ hx), rfl⟩, _, _, rfl⟩
  · obtain ⟨e', _, y10, y11, rfl⟩ := h
    exact k _ _ _ (e1.trans e')
end
end LP
namespace LP
open PySem L2
open Evl (Ex)
def spTableTold (K : PySem.W.Frag) (CS C : Addr) : Sp := fun vs H Q _ => ∃ (s p q cl : Addr) (u : Str) (ts : Tabs) (rs : RowsD) (t : Str × List Col), vs = [.ref s, .ref p, .ref q, .str t.1, .ref cl] ∧ t ∈ ts ∧ StoreAt K CS C H s u ts rs ∧ TabsR K H p ts ∧ Few ts ∧ GoodTabs ts ∧ RowsAt K H q rs ∧ ColsR K H cl t.2 ∧ RowsFit ts rs ∧ RowsOk rs ∧ (∀ t ∈ ts, (t.2.map Col.name).Nodup) ∧ (∀ t ∈ ts, ∀ c ∈ t.2, SeqAt.shaped (.str c.name) = true) ∧ (∀ t ∈ ts, t.2.length ≤ 1000) ∧ ∀ H', Ex H H' → Q (.bl true) H'
section
variable {base : Heap} {mg : Str → Option Value} {K : PySem.W.Frag} {w : World} {P : Program} {CS CN CR C : Addr}
theorem ok_table_told {f : Addr} {fd : FuncData} (D : C8.Def K mg "_law_is_table_told" s__law_is_table_told f fd) (b : Binds K fd ["store", "tables", "rows", "name", "columns"] []) (B : Blt mg)
    (m_rows : MetX P w K mg base 4 CS "rows" (spRows K CS CN C)) (m_value : MetX P w K mg base 5 CS "value" (spValue7 K CS CN CR C)) (m_listed : MetX P w K mg base 5 CS "listed" (spListed K CS CN CR C))
    (c__law_same : C8.Cal P w K mg base 1 "_law_same" (spSame K) []) (c__law_list_names : C8.Cal P w K mg base 2 "_law_list_names" (spNamesOf K) []) (c__law_in_list : C8.Cal P w K mg base 1 "_law_in_list" (spInList K) []) :
    C8.Cal P w K mg base 6 "_law_is_table_told" (spTableTold K CS C) [] := by
  have sc : FnScope ["store", "tables", "rows", "name", "columns", "told", "row", "at", "column", "due", "listed", "found"] ["store", "tables", "rows", "name", "columns"] (C8.fnScope s__law_is_table_told) := C8.fnScope_by (by decide +kernel)
  refine C8.cal0 D b .nil sc (fun vs H Q E h => ?_) (fun cdv A outer s H vs Q E hr h => ?_)
  · obtain ⟨_, _, _, _, _, _, _, _, rfl, _⟩ := h
    rfl
  · obtain ⟨s, p, q, cl, u, ts, rs, t, rfl, tin, hA, hTs, hf, hG, hR, ⟨ccvs, hcl, hcv⟩, fit, ok, nds, shs, lcs, k⟩ := h
    refine ⟨_, (pss_cons (ps_set (i := 5) sc.nd rfl (Or.inl rfl) ((pe_mx m_rows hr (by decide) passF (pv 0) (pa_cons (pv 3) pa_nil))))
        (pss_cons (ps_if (PW.pt (pw_or (pt_not (pt_val (pe_callB (call_isiK1 (K := K) rfl) (by rfl) B.isinstance_ (by decide +kernel) (pa_cons (pv 5) (pa_cons (pe_bltn (v := .ty "list") (u := .type "list") (by rfl) B.list_ (by decide +kernel) rfl) pa_nil))))) (pw_or (pt_cmpR (op_neDK (K := K) rfl (hu64 hr)) (pv 5) (pe_dget (hu_of hr) (pv 2) (pv 3) (fun _ _ => rfl)) (nomark _)) (pw_or1 (pt_val (pe_callB (cr_anyK (K := K) rfl rfl) (by rfl) B.any_ (by decide +kernel) (pa_cons (pe_lc (own := [("row", 6)]) (g := (gName 6)) (by rfl) sc.nd (pi_listK (K := K) rfl (pv 5)) (blkOk_by (own := [("row", 6)]) (N := ["store", "tables", "rows", "name", "columns", "told", "row", "at", "column", "due", "listed", "found"]) (sc := C8.fnScope s__law_is_table_told) (by decide +kernel)) (fun _ _ _ _ _ => (pg_name (i := 6) sc.nd rfl (Or.inl rfl))) (fun _ _ _ _ _ => pts_nil) (fun _ _ _ _ _ => (pe_not (pe_callB (call_isiK1 (K := K) rfl) (by rfl) B.isinstance_ (by decide +kernel) (pa_cons (pv 6) (pa_cons (pe_bltn (v := .ty "tuple") (u := .type "tuple") (by rfl) B.tuple_ (by decide +kernel) rfl) pa_nil)))))) pa_nil)))))))
        (pss_one (ps_ret pe_bl))
        pss_nil)
        (pss_cons (ps_expr (pe_bmK (K := K) rfl PySem.F.plainAttrs_list PySem.F.slot_list_append PySem.F.type_list_append mt_append (pv 5) (pa_cons (pe_tup pa_nil) pa_nil)))
        (pss_cons (ps_if (pt_cmpR (op_neDK (K := K) rfl (hu64 hr)) ((pe_mx m_rows hr (by decide) passF (pv 0) (pa_cons (pv 3) pa_nil))) (pe_dget (hu_of hr) (pv 2) (pv 3) (fun _ _ => rfl)) (nomark _))
        (pss_one (ps_ret pe_bl))
        pss_nil)
        (pss_cons (ps_for PassesOwn.never rfl (pi_enumK (K := K) rfl (by rfl) B.enumerate_ (pa_cons (pe_dget (hu_of hr) (pv 2) (pv 3) (fun _ _ => rfl)) pa_nil)) (pg_tupK (K := K) (n := 2) rfl rfl (pgs_cons (pg_name (i := 7) sc.nd rfl (Or.inl rfl)) (pgs_cons (pg_name (i := 6) sc.nd rfl (Or.inl rfl)) pgs_nil)))
        (pss_cons (ps_for PassesOwn.never rfl ((pi_zipM (K := K) rfl (by rfl) B.zip_ (pa_cons (pv 4) (pa_cons (pv 6) pa_nil)))) (pg_tupK (K := K) (n := 2) rfl rfl (pgs_cons (pg_name (i := 8) sc.nd rfl (Or.inl rfl)) (pgs_cons (pg_name (i := 9) sc.nd rfl (Or.inl rfl)) pgs_nil)))
        (pss_one (ps_if (pt_not (pt_val (C8.pe_c c__law_same hr (by decide) rfl (pa_cons ((pe_mx m_value hr (by decide) passF (pv 0) (pa_cons (pv 3) (pa_cons (pv 7) (pa_cons (pe_ix (ix_tupK (K := K) rfl) (pv 8) pe_int (fun _ _ => rfl)) pa_nil))))) (pa_cons (pv 9) pa_nil)))))
        (pss_one (ps_ret pe_bl))
        pss_nil)))
        (pss_one (ps_for PassesOwn.never rfl (pi_listK (K := K) rfl (C8.pe_c c__law_list_names hr (by decide) rfl (pa_cons (pv 1) (pa_cons (pv 3) pa_nil)))) (pg_name (i := 10) sc.nd rfl (Or.inl rfl))
        (pss_cons (ps_set (i := 11) sc.nd rfl (Or.inl rfl) ((pe_mx m_listed hr (by decide) passF (pv 0) (pa_cons (pv 3) (pa_cons (pv 7) (pa_cons (pv 10) pa_nil))))))
        (pss_cons (ps_if (PW.pt (pw_or (pt_not (pt_val (pe_callB (call_isiK1 (K := K) rfl) (by rfl) B.isinstance_ (by decide +kernel) (pa_cons (pv 11) (pa_cons (pe_bltn (v := .ty "list") (u := .type "list") (by rfl) B.list_ (by decide +kernel) rfl) pa_nil))))) (pw_or1 (pt_cmpR (op_neDK (K := K) rfl (hu64 hr)) (pv 11) (C8.pe_c c__law_in_list hr (by decide) rfl (pa_cons (pv 1) (pa_cons (pv 2) (pa_cons (pv 3) (pa_cons (pv 7) (pa_cons (pv 10) pa_nil)))))) (nomark _)))))
        (pss_one (ps_ret pe_bl))
        pss_nil)
        (pss_cons (ps_expr (pe_bmK (K := K) rfl PySem.F.plainAttrs_list PySem.F.slot_list_append PySem.F.type_list_append mt_append (pv 11) (pa_cons pe_int pa_nil)))
        (pss_one (ps_if (pt_cmpR (op_neDK (K := K) rfl (hu64 hr)) ((pe_mx m_listed hr (by decide) passF (pv 0) (pa_cons (pv 3) (pa_cons (pv 7) (pa_cons (pv 10) pa_nil))))) (C8.pe_c c__law_in_list hr (by decide) rfl (pa_cons (pv 1) (pa_cons (pv 2) (pa_cons (pv 3) (pa_cons (pv 7) (pa_cons (pv 10) pa_nil)))))) (nomark _))
        (pss_one (ps_ret pe_bl))
        pss_nil)))))))))
        (pss_one (ps_ret pe_bl))))))), ?_⟩
    have hA0 := hA
    obtain ⟨⟨sch, dr, kvs, hP, hS⟩, nm⟩ := hA
    obtain ⟨dx, fs, hp, h1, h2, h3⟩ := hP.ins
    have hR0 : RowsAt K H q rs := hR
    obtain ⟨rkvs, hq, hrk⟩ := hR
    have htab : tabD ts (.str t.1) = true := decide_eq_true (List.mem_map.mpr ⟨t, tin, rfl⟩)
    obtain ⟨_, en, hlr⟩ := tab_rows nm htab
    cases en
    obtain ⟨ql, qvs, q1, q2, q3⟩ := ent_get hrk hlr
    have hA1 := hA0
    obtain ⟨fit1, fit2⟩ := id (fit t tin)
    have okr := ok _ (PySem.mem_of_lookup hlr)
    generalize hrows : rowsD rs (.str t.1) = rows at *
    have lq := paired_len q3
    walk_at "w"
    refine w_kMeth hp (h3 _ (by decide +kernel) (by decide +kernel)) ?_
    walk_at "w"
    refine ⟨s, .str t.1, .str t.1, u, ts, rs, rfl, hA0, .str _, by rw [hrows]; omega, .inl ⟨htab, fun L xs H1 e1 hL hLx hxs => ?_⟩⟩
    rw [hrows] at hxs
    have lx := paired_len hxs
    walk_at "w"
    refine w_isi (.base (.lst hLx)) (show kitB "list" "list" = some true by decide +kernel) ?_
    walk_at "w"
    refine ⟨q, .ref ql, rfl, q1 ▸ DGet.k (k := Sum.inr t.1) (e1 _ _ hq), ?_⟩
    have q3' : ∀ {H'}, Ex H H' → Paired (RowAt K H') qvs rows := fun e => paired_imp (fun _ _ h => h.ext e) q3
    refine ⟨_, _, .lst (SqL.of hLx) (dp_rows hxs okr.1), .lst (SqL.of (e1 _ _ q2)) (dp_rows (q3' e1) okr.1), okr.2, okr.2, ?_⟩
    have same : PyData.eqv (.list (rows.map PyData.tuple)) (.list (rows.map PyData.tuple)) = true := by first | exact PySem.SeqAt.eqv_refl _ (SeqAt.canLay_of_shaped okr.2) | exact PyProof.eqv_refl _ (SeqAt.canLay_of_shaped okr.2) | exact PySem.eqv_refl _ (SeqAt.canLay_of_shaped okr.2) | exact PySem.PyData.eqv_refl _ (SeqAt.canLay_of_shaped okr.2)
    rw [same]
    walk_at "w"
    intro D1 hD1
    have lrows : rows.length ≤ 90000 := fit1
    refine compQ rows (RowAt K H1) (fun _ => some false) (fun v y => v = V.bl y) hD1 (SqL.of hLx) (by omega) hxs (fun y r hy hmr H2 e2 kk kn hk hkn => ?_) (fun acc H2 e2 hacc hp2 => ?_)
    · obtain ⟨ya, rfl, hya⟩ := hy
      walk_at "w"
      refine w_isTuQ (d := .tuple r) (.tup (Evl.ex_t e2 hya) (dp_cells (okr.1 r hmr))) ?_
      walk_at "w"
      exact hk _ _ _ (Ex.refl _) rfl rfl
    rw [filterMap_some] at hp2
    have ev2 := vals_bls hp2
    walk_at "w"
    refine w_any (bs := rows.map fun _ => false) (SqL.of (ev2 ▸ hacc)) ?_
    have none_ : (rows.map fun _ => false).any id = false := by
      rw [List.any_eq_false]
      intro x hx
      obtain ⟨_, _, rfl⟩ := List.mem_map.mp hx
      decide
    refine ⟨_, rfl, ?_⟩
    rw [none_]
    have hL2 := e2 _ _ hLx
    have e02 := e1.trans e2
    walk_at "w"
    intro T0 hT0
    have e3 : Ex H (upd H2 T0 (.tup [])) := e02.trans (Ex.new hT0)
    have hL3 : (upd H2 T0 (.tup [])) L = some (.lst xs) := Ex.new hT0 _ _ hL2
    generalize (upd H2 T0 (.tup [])) = H3 at e3 hL3 ⊢
    walk_at "w"
    have e4 : Ex H (upd H3 L (.lst (xs ++ [.ref T0]))) := e3.mut hL
    generalize (upd H3 L (.lst (xs ++ [.ref T0]))) = H4 at e4 ⊢
    refine w_kMeth (e4 _ _ hp) (h3 _ (by decide +kernel) (by decide +kernel)) ?_
    walk_at "w"
    refine ⟨s, .str t.1, .str t.1, u, ts, rs, rfl, hA0.ext e4, .str _, by rw [hrows]; omega, .inl ⟨htab, fun L5 xs5 H5 e5 hL5 hLx5 hxs5 => ?_⟩⟩
    rw [hrows] at hxs5
    have e05 := e4.trans e5
    walk_at "w"
    refine ⟨q, .ref ql, rfl, q1 ▸ DGet.k (k := Sum.inr t.1) (e05 _ _ hq), ?_⟩
    refine ⟨_, _, .lst (SqL.of hLx5) (dp_rows hxs5 okr.1), .lst (SqL.of (e05 _ _ q2)) (dp_rows (q3' e05) okr.1), okr.2, okr.2, ?_⟩
    rw [same]
    walk_at "w"
    refine ⟨q, .ref ql, rfl, q1 ▸ DGet.k (k := Sum.inr t.1) (e05 _ _ hq), ?_⟩
    have ql5 := e05 _ _ q2
    walk_at "w"
    refine loopE (xs := qvs) (fun d r σ' H' => Ex H5 H' ∧ ∃ x6 x7 x8 x9 x10 x11, σ' = [some (.ref s), some (.ref p), some (.ref q), some (.str t.1), some (.ref cl), some (.ref L), x6, x7, x8, x9, x10, x11])
      ⟨Ex.refl _, _, _, _, _, _, _, rfl⟩ (fun d r σ' H' _ h => SqL.of (h.1 _ _ ql5)) (fun d y r σ' H' T hd hT h => ?_) (fun σ' H' h => ?_)
    · obtain ⟨e', x6, x7, x8, x9, x10, x11, rfl⟩ := h
      have hy : qvs[d.length]? = some y := by rw [← hd]; simp
      obtain ⟨r0, hr0, ya, rfl, hya⟩ := paired_ix q3 hy
      have eT : Ex H5 (upd H' T (.tup [.int (d.length : Nat), .ref ya])) := e'.trans (Ex.new hT)
      have fT : (upd H' T (.tup [.int (d.length : Nat), .ref ya])) T = some (.tup [.int (d.length : Nat), .ref ya]) := upd_same
      generalize (upd H' T (.tup [.int (d.length : Nat), .ref ya])) = H6 at eT fT ⊢
      have e06 := e05.trans eT
      have hj : d.length < (rowsD rs (.str t.1)).length := by rw [hrows]; exact (List.getElem?_eq_some_iff.mp hr0).1
      walk_at "w"
      refine value_loop (t := t) (cl := cl) (ra := ya) (j := d.length) (r := r0) (cvs := ccvs) tin (hA1.ext e06) hG (Evl.ex_l e06 hcl) (hcv.ext e06) (Evl.ex_t e06 hya) fit (by rw [hrows]; exact hr0) (nds t tin) (shs t tin) (lcs t tin) fun x8' x9' H7 e7 => ?_
      have e07 := e06.trans e7
      with_reducible refine' list_loop (t := t) (cl := cl) (j := d.length) (p := p) (q := q) tin (hA1.ext e07) ?_ hf hG ?_ fit hj nds shs lcs fun x10' x11' H8 e8 => ?_
      · obtain ⟨tvs, a1, a2⟩ := hTs
        exact ⟨tvs, Evl.ex_l e07 a1, a2.ext e07⟩
      · exact ⟨rkvs, e07 _ _ hq, paired_imp (fun _ _ h => h.ext e07) hrk⟩
      exact ⟨(eT.trans e7).trans e8, _, _, _, _, _, _, rfl⟩
    · obtain ⟨e', x6, x7, x8, x9, x10, x11, rfl⟩ := h
      walk_at "w"
      exact k _ (e05.trans e')
end
end LP
namespace LP
open PySem L2
/-! ### how many rows there are, reckoned beside the store; what is no place of a store -/
theorem cr_sumK {X : Cx} {K : PySem.W.Frag} (hK : X.K = K) (hc : X.calm = true) : CallR X (.builtin "sum") (rSum K) := hK ▸ cr_sum hc
theorem sum_rows {ts : Tabs} {rs : RowsD} (nd : (rs.map (·.1)).Nodup) (nm : rs.map (·.1) = ts.map (·.1)) : (ts.map fun t => ((rowsD rs (.str t.1)).length : Int)).sum = (lenS rs : Nat) := by
  have e1 : (ts.map fun t => ((rowsD rs (.str t.1)).length : Int)) = rs.map fun r => (r.2.length : Int) := by
    have a : (ts.map fun t => ((rowsD rs (.str t.1)).length : Int)) = (ts.map (·.1)).map fun n => ((rowsD rs (.str n)).length : Int) := by rw [List.map_map]; rfl
    rw [a, ← nm, List.map_map]
    refine List.map_congr_left fun r hr => ?_
    show (((rs.lookup r.1).getD []).length : Int) = (r.2.length : Int)
    rw [look_own nd r hr]
    rfl
  have e2 : ∀ l : RowsD, (l.map fun r => (r.2.length : Int)).sum = (lenS l : Nat) := fun l => by
    induction l with
    | nil => rfl
    | cons r l ih =>
      rw [List.map_cons, List.sum_cons, ih]
      unfold lenS
      rw [List.map_cons,
              List.sum_cons]
      omega
  rw [e1, e2]
/-- a pair whose second is no index -/
theorem no_place {ts : Tabs} {rs : RowsD} {x y : PyData} (h : idxD (rowsD rs x).length y = false) : hasS ts rs (.tuple [x, y]) = false := by
  show (tabD ts x && idxD (rowsD rs x).length y) = false
  rw [h, Bool.and_false]
theorem no_table {ts : Tabs} {rs : RowsD} {x y : PyData} (h : tabD ts x = false) : hasS ts rs (.tuple [x, y]) = false := by
  show (tabD ts x && idxD (rowsD rs x).length y) = false
  rw [h, Bool.false_and]
theorem is_place {ts : Tabs} {rs : RowsD} {t : Str × List Col} {j : Nat} (tin : t ∈ ts) (h : j < (rowsD rs (.str t.1)).length) : hasS ts rs (.tuple [.str t.1, .int j]) = true := by
  show (tabD ts (.str t.1) && (decide ((0 : Int) ≤ (j : Int)) && decide ((j : Int) < ((rowsD rs (.str t.1)).length : Int)))) = true
  rw [show tabD ts (.str t.1) = true from decide_eq_true (List.mem_map.mpr ⟨t, tin, rfl⟩), decide_eq_true (by omega), decide_eq_true (by omega)]
  rfl
theorem odd_no {n : Nat} (hn : n ≤ 90000) : ∀ y ∈ ([.int (-1), .int n, .none, .bool true, .bool false, .str "0", .tuple [.int 0], .list [.int 0], .int 100000000000000000000] : List PyData), idxD n y = false := by
  intro y hy
  simp only [List.mem_cons, List.not_mem_nil, or_false] at hy
  rcases hy with rfl | rfl | rfl | rfl | rfl | rfl | rfl | rfl | rfl <;> first | rfl | skip
  · show (decide ((0 : Int) ≤ (n : Int)) && decide ((n : Int) < (n : Int))) = false
    rw [decide_eq_false (Int.lt_irrefl _), Bool.and_false]
  · show (decide ((0 : Int) ≤ 100000000000000000000) && decide ((100000000000000000000 : Int) < (n : Int))) = false
    have z : ¬ (100000000000000000000 : Int) < (n : Int) := by omega
    rw [show decide ((100000000000000000000 : Int) < (n : Int)) = false from decide_eq_false z, Bool.and_false]
end LP
namespace LP
open PySem L2
open Evl (Ex)
theorem rowsD_le {rs : RowsD} (x : PyData) : (rowsD rs x).length ≤ lenS rs := by
  have z : ∀ (l : RowsD) (n : Str), ((l.lookup n).getD []).length ≤ lenS l := fun l n => by
    induction l with
    | nil => exact Nat.zero_le _
    | cons r l ih =>
      have e : lenS (r :: l) = r.2.length + lenS l := by
        unfold lenS
        rw [List.map_cons,
                List.sum_cons]
      rw [List.lookup_cons, e]
      split
      · show r.2.length ≤ _
        omega
      · omega
  cases x with
  | str n => exact z rs n
  | _ => exact Nat.zero_le _
/-- what is asked of `in` -/
def askB : PyData → Bool
  | .tuple [_, .str z] => decide (z.length ≤ 4000)
  | .tuple r => decide (r.length ≤ 1000)
  | _ => true
def AskOk (d : PyData) : Prop := (∀ x y z, d = .tuple [x, y] → y = .str z → z.length ≤ 4000) ∧ ∀ r, d = .tuple r → r.length ≤ 1000
theorem ask_ok {d : PyData} (h : askB d = true) : AskOk d := by
  refine ⟨fun x y z e ez => ?_, fun r e => ?_⟩
  · subst e ez
    exact of_decide_eq_true h
  · subst e
    unfold askB at h
    split at h
    · rename_i e
      cases e
      show 2 ≤ 1000
      omega
    · rename_i e
      cases e
      exact of_decide_eq_true h
    · rename_i h3
      exact absurd rfl (h3 _)
theorem w_has {K : PySem.W.Frag} {CS C : Addr} {H : Hp} {Q : VK} {p : Addr} {v : V} {d : PyData} {u : Str} {ts : Tabs} {rs : RowsD} (hA : StoreAt K CS C H p u ts rs) (hd : Dp K H v d) (hl : lenS rs ≤ 90000) (ok : AskOk d)
    (q : Q (.bl (hasS ts rs d)) H) : rOwnIn CS false (spHasS K CS C) C8.E0 v (.ref p) H Q := by
  obtain ⟨⟨sch, dr, kvs, hP, hS⟩, nm⟩ := id hA
  obtain ⟨dx, fs, hp, _⟩ := hP.ins
  exact w_ownIn hp ⟨p, v, d, u, ts, rs, rfl, hA, hd, fun x y e => ⟨Nat.le_trans (rowsD_le x) (by omega), fun z ez => ok.1 x y z e ez⟩, ok.2, _, rfl, q⟩
theorem vals_ints {got : List V} {l : List Int} (h : Paired (fun v x => v = V.int x) got l) : got = l.map V.int := by
  induction h with
  | nil => rfl
  | cons h _ ih => rw [List.map_cons, h, ih]
def spTold7 (K : PySem.W.Frag) (CS C : Addr) : Sp := fun vs H Q _ => ∃ (s p q : Addr) (u : Str) (ts : Tabs) (rs : RowsD), vs = [.ref s, .ref p, .ref q] ∧ StoreAt K CS C H s u ts rs ∧ TabsR K H p ts ∧ Few ts ∧ GoodTabs ts ∧ RowsAt K H q rs ∧ RowsFit ts rs ∧ RowsOk rs ∧ (∀ t ∈ ts, (t.2.map Col.name).Nodup) ∧ (∀ t ∈ ts, ∀ c ∈ t.2, SeqAt.shaped (.str c.name) = true) ∧ (∀ t ∈ ts, t.2.length ≤ 1000) ∧ (ts.map (·.1)).Nodup ∧ lenS rs ≤ 90000 ∧ ∀ H', Ex H H' → Q (.bl true) H'
section
variable {base : Heap} {mg : Str → Option Value} {K : PySem.W.Frag} {w : World} {P : Program} {CS CN CR C : Addr}
theorem ok_told7 {f : Addr} {fd : FuncData} (D : C8.Def K mg "_law_is_told" s__law_is_told f fd) (b : Binds K fd ["store", "tables", "rows"] []) (B : Blt mg) (Bs : mg "sum" = none)
    (m___len__ : C8.Met P w K mg base 1 CS "__len__" (spLenS K CS C) []) (m___contains__ : C8.Met P w K mg base 3 CS "__contains__" (spHasS K CS C) []) (c__law_is_table_told : C8.Cal P w K mg base 6 "_law_is_table_told" (spTableTold K CS C) []) :
    C8.Cal P w K mg base 7 "_law_is_told" (spTold7 K CS C) [] := by
  have sc : FnScope ["store", "tables", "rows", "one", "name", "columns", "many", "odd", "at"] ["store", "tables", "rows"] (C8.fnScope s__law_is_told) := C8.fnScope_by (by decide +kernel)
  refine C8.cal0 D b .nil sc (fun vs H Q E h => ?_) (fun cdv A outer s H vs Q E hr h => ?_)
  · obtain ⟨_, _, _, _, _, _, rfl, _⟩ := h
    rfl
  · obtain ⟨s, p, q, u, ts, rs, rfl, hA, hTs, hf, hG, hR, fit, ok, nds, shs, lcs, ndt, lz, k⟩ := h
    refine ⟨_, (pss_cons (ps_if (PW.pt (pw_or (pt_cmpR op_ne ((pe_callB (call_lenM m___len__ hr (by decide)) (by rfl) B.len_ (by decide +kernel) (pa_cons (pv 0) pa_nil))) ((pe_callB (cr_sumK (K := K) rfl rfl) (by rfl) Bs (by decide +kernel) (pa_cons (pe_lc (own := [("one", 3)]) (g := (gName 3)) (by rfl) sc.nd (pi_listK (K := K) rfl (pv 1)) (blkOk_by (own := [("one", 3)]) (N := ["store", "tables", "rows", "one", "name", "columns", "many", "odd", "at"]) (sc := C8.fnScope s__law_is_told) (by decide +kernel)) (fun _ _ _ _ _ => (pg_name (i := 3) sc.nd rfl (Or.inl rfl))) (fun _ _ _ _ _ => pts_nil) (fun _ _ _ _ _ => (pe_callB (call_len_seqK (K := K) rfl) (by rfl) B.len_ (by decide +kernel) (pa_cons (pe_dget (hu_of hr) (pv 2) (pe_ix (ix_tupK (K := K) rfl) (pv 3) pe_int (fun _ _ => rfl)) (fun _ _ => rfl)) pa_nil)))) pa_nil))) (nomark _)) (pw_or1 (pt_val (pe_callB (call_isiK1 (K := K) rfl) (by rfl) B.isinstance_ (by decide +kernel) (pa_cons ((pe_callB (call_lenM m___len__ hr (by decide)) (by rfl) B.len_ (by decide +kernel) (pa_cons (pv 0) pa_nil))) (pa_cons (pe_bltn (v := .ty "bool") (u := .type "bool") (by rfl) B.bool_ (by decide +kernel) rfl) pa_nil)))))))
        (pss_one (ps_ret pe_bl))
        pss_nil)
        (pss_cons (ps_for PassesOwn.never rfl (pi_listK (K := K) rfl (pv 1)) (pg_tupK (K := K) (n := 2) rfl rfl (pgs_cons (pg_name (i := 4) sc.nd rfl (Or.inr rfl)) (pgs_cons (pg_name (i := 5) sc.nd rfl (Or.inl rfl)) pgs_nil)))
        (pss_cons (ps_set (i := 6) sc.nd rfl (Or.inl rfl) (pe_callB (call_len_seqK (K := K) rfl) (by rfl) B.len_ (by decide +kernel) (pa_cons (pe_dget (hu_of hr) (pv 2) (pv 4) (fun _ _ => rfl)) pa_nil)))
        (pss_cons (ps_if (pt_not (pt_val (C8.pe_c c__law_is_table_told hr (by decide) rfl (pa_cons (pv 0) (pa_cons (pv 1) (pa_cons (pv 2) (pa_cons (pv 4) (pa_cons (pv 5) pa_nil))))))))
        (pss_one (ps_ret pe_bl))
        pss_nil)
        (pss_cons (ps_for PassesOwn.never rfl (pi_tupK (K := K) rfl (pe_tup (pa_cons (pe_un un_neg pe_int) (pa_cons (pv 6) (pa_cons pe_non (pa_cons pe_bl (pa_cons pe_bl (pa_cons pe_str (pa_cons (pe_tup (pa_cons pe_int pa_nil)) (pa_cons (pe_lst (pa_cons pe_int pa_nil)) (pa_cons (pe_op op_pow pe_int pe_int) pa_nil))))))))))) (pg_name (i := 7) sc.nd rfl (Or.inl rfl))
        (pss_one (ps_if (pt_cmpR (op_oin (dvs := []) m___contains__ hr (by decide)) (pe_tup (pa_cons (pv 4) (pa_cons (pv 7) pa_nil))) (pv 0) (by rfl))
        (pss_one (ps_ret pe_bl))
        pss_nil)))
        (pss_cons (ps_if (PW.pt (pw_or (pt_cmpR (op_oin (dvs := []) m___contains__ hr (by decide)) (pe_lst (pa_cons (pv 4) (pa_cons pe_int pa_nil))) (pv 0) (by rfl)) (pw_or (pt_cmpR (op_oin (dvs := []) m___contains__ hr (by decide)) (pe_tup (pa_cons (pv 4) pa_nil)) (pv 0) (by rfl)) (pw_or (pt_cmpR (op_oin (dvs := []) m___contains__ hr (by decide)) (pe_tup (pa_cons (pv 4) (pa_cons pe_int (pa_cons pe_int pa_nil)))) (pv 0) (by rfl)) (pw_or1 (pt_cmpR (op_oin (dvs := []) m___contains__ hr (by decide)) (pv 4) (pv 0) (by rfl)))))))
        (pss_one (ps_ret pe_bl))
        pss_nil)
        (pss_one (ps_if (PW.pt (pw_or (pt_not (pt_val (pe_callB (cr_allK (K := K) rfl rfl) (by rfl) B.all_ (by decide +kernel) (pa_cons (pe_lc (own := [("at", 8)]) (g := (gName 8)) (by rfl) sc.nd (pi_range1 (by rfl) B.range_ (pa_cons (pv 6) pa_nil)) (blkOk_by (own := [("at", 8)]) (N := ["store", "tables", "rows", "one", "name", "columns", "many", "odd", "at"]) (sc := C8.fnScope s__law_is_told) (by decide +kernel)) (fun _ _ _ _ _ => (pg_name (i := 8) sc.nd rfl (Or.inl rfl))) (fun _ _ _ _ _ => pts_nil) (fun _ _ _ _ _ => (pe_cmpR (op_oin (dvs := []) m___contains__ hr (by decide)) (pe_tup (pa_cons (pv 4) (pa_cons (pv 8) pa_nil))) (pv 0) (by rfl)))) pa_nil)))) (pw_or1 (pt_cmpR (op_oin (dvs := []) m___contains__ hr (by decide)) (pe_tup (pa_cons (pe_op op_add_str' (pv 4) pe_str) (pa_cons pe_int pa_nil))) (pv 0) (by rfl)))))
        (pss_one (ps_ret pe_bl))
        pss_nil)))))))
        (pss_one (ps_ret (pe_not (pe_callB (cr_anyK (K := K) rfl rfl) (by rfl) B.any_ (by decide +kernel) (pa_cons (pe_lc (own := [("odd", 7)]) (g := (gName 7)) (by rfl) sc.nd (pi_tupK (K := K) rfl (pe_tup (pa_cons pe_non (pa_cons pe_int (pa_cons (pe_tup pa_nil) (pa_cons (pe_lst pa_nil) (pa_cons (pe_tup (pa_cons pe_non (pa_cons pe_int pa_nil))) (pa_cons (pe_tup (pa_cons (pe_lst pa_nil) (pa_cons pe_int pa_nil))) (pa_cons (pe_tup (pa_cons pe_int (pa_cons pe_int pa_nil))) pa_nil))))))))) (blkOk_by (own := [("odd", 7)]) (N := ["store", "tables", "rows", "one", "name", "columns", "many", "odd", "at"]) (sc := C8.fnScope s__law_is_told) (by decide +kernel)) (fun _ _ _ _ _ => (pg_name (i := 7) sc.nd rfl (Or.inl rfl))) (fun _ _ _ _ _ => pts_nil) (fun _ _ _ _ _ => (pe_cmpR (op_oin (dvs := []) m___contains__ hr (by decide)) (pv 7) (pv 0) (by rfl)))) pa_nil))))))), ?_⟩
    obtain ⟨⟨sch, dr, kvs, hP, hS⟩, nm⟩ := id hA
    obtain ⟨dx, fs, hp, _⟩ := hP.ins
    obtain ⟨tvs, htp, htv⟩ := id hTs
    obtain ⟨rkvs, hq, hrk⟩ := id hR
    have lt := paired_len htv
    have lts := hf.1
    walk_at "w"
    refine ⟨s, dx, fs, rfl, hp, s, u, ts, rs, rfl, hA, ndt, lz, fun H1 e1 => ⟨_, rfl, Nat.le_trans lz (by decide), ?_⟩⟩
    walk_at "w"
    refine w_kList (Evl.ex_l e1 htp) ?_
    intro D0 hD0
    have geq : ∀ t ∈ ts, ∃ ql qvs, valV rkvs (Sum.inr t.1 : Key) = some (.ref ql) ∧ H ql = some (.lst qvs) ∧ Paired (RowAt K H) qvs (rowsD rs (.str t.1)) := fun t ht => by
      obtain ⟨_, en, hlr⟩ := tab_rows nm (show tabD ts (.str t.1) = true from decide_eq_true (List.mem_map.mpr ⟨t, ht, rfl⟩))
      cases en
      exact ent_get hrk hlr
    refine compQ ts (TabAt H) (fun t => some ((rowsD rs (.str t.1)).length : Int)) (fun v x => v = V.int x) hD0 (Evl.ex_l e1 htp) (by omega) htv (fun y t hy hm H3 e3 kk kn hk hkn => ?_) (fun acc H2 e2 hacc hp2 => ?_)
    · obtain ⟨a, pc, rfl, hya, _⟩ := id hy
      have e13 := e1.trans e3
      have ha3 := e13 _ _ hya
      obtain ⟨ql, qvs, q1, q2, q3⟩ := geq t hm
      have ll := paired_len q3
      walk_at "w"
      refine ⟨q, .ref ql, rfl, q1 ▸ DGet.k (k := Sum.inr t.1) (e13 _ _ hq), ?_⟩
      have hql := e13 _ _ q2
      walk_at "w"
      exact hk _ _ _ (Ex.refl _) rfl (by rw [ll])
    have hacc' : acc = (ts.map fun t => ((rowsD rs (.str t.1)).length : Int)).map V.int := vals_ints (by rw [filterMap_some] at hp2; exact hp2)
    have e02 := e1.trans e2
    refine ⟨D0, _, rfl, SqL.of (hacc' ▸ hacc), ?_⟩
    rw [sum_rows (by rw [nm]; exact ndt) nm]
    walk_at "w"
    refine iteND (fun h => absurd rfl h) (fun _ => ?_)
    walk_at "w"
    refine ⟨s, dx, fs, rfl, e02 _ _ hp, s, u, ts, rs, rfl, hA.ext e02, ndt, lz, fun H3 e3 => ⟨_, rfl, Nat.le_trans lz (by decide), ?_⟩⟩
    walk_at "w"
    refine w_isi (.base (.int _)) (show kitB "int" "bool" = some false by decide +kernel) ?_
    walk_at "w"
    have e03 := e02.trans e3
    have htp3 := Evl.ex_l e03 htp
    refine w_kList htp3 ?_
    refine loopL (xs := tvs) (fun d r σ' H' => Ex H H' ∧ ∃ x3 x4 x5 x6 x7 x8, σ' = [some (.ref s), some (.ref p), some (.ref q), x3, x4, x5, x6, x7, x8])
      ⟨e03, _, _, _, _, _, _, rfl⟩ (fun d r σ' H' _ h => Evl.ex_l h.1 htp) (fun d y r σ' H' hd h => ?_) (fun σ' H' h => ?_)
    · obtain ⟨e, x3, x4, x5, x6, x7, x8, rfl⟩ := h
      obtain ⟨t, tin, ya, cl, rfl, hya, cvs, hcl, hcv⟩ := paired_mem htv y (by rw [← hd]; simp)
      obtain ⟨ql, qvs, q1, q2, q3⟩ := geq t tin
      have ll := paired_len q3
      have hya' := e _ _ hya
      have ll9 : qvs.length ≤ 90000 := by rw [ll]; exact Nat.le_trans (rowsD_le _) lz
      walk_at "w"
      refine ⟨q, .ref ql, rfl, q1 ▸ DGet.k (k := Sum.inr t.1) (e _ _ hq), ?_⟩
      have hql := e _ _ q2
      walk_at "w"
      rw [ll]
      refine ⟨s, p, q, cl, u, ts, rs, t, rfl, tin, hA.ext e, hTs.ext e, hf, hG, ⟨rkvs, e _ _ hq, paired_imp (fun _ _ h => h.ext e) hrk⟩, ⟨cvs, Evl.ex_l e (SqL.of hcl), hcv.ext e⟩, fit, ok, nds, shs, lcs, fun H4 e4 => ?_⟩
      have e04 := e.trans e4
      walk_at "w"
      intro T0 hT0
      have e5 : Ex H (upd H4 T0 (.tup [.int 0])) := e04.trans (Ex.new hT0)
      have f5 : (upd H4 T0 (.tup [.int 0])) T0 = some (.tup [.int 0]) := upd_same
      generalize (upd H4 T0 (.tup [.int 0])) = H5 at e5 f5 ⊢
      walk_at "w"
      intro L0 hL0
      have e6 : Ex H (upd H5 L0 (.lst [.int 0])) := e5.trans (Ex.new hL0)
      have f6 : (upd H5 L0 (.lst [.int 0])) L0 = some (.lst [.int 0]) := upd_same
      have f56 := Ex.new (o := .lst [.int 0]) hL0 _ _ f5
      generalize (upd H5 L0 (.lst [.int 0])) = H6 at e6 f6 f56 ⊢
      walk_at "w"
      have hX : ∃ X, X = [V.int (-1), V.int ((rowsD rs (PyData.str t.1)).length : Nat), V.non, V.bl true, V.bl false, V.str (Str.ofString "0"), V.ref T0, V.ref L0, V.int (10 ^ Int.toNat 20)] := ⟨_, rfl⟩
      obtain ⟨X, hX⟩ := hX
      rw [← hX]
      intro T1 hT1
      have e7 : Ex H (upd H6 T1 (.tup X)) := e6.trans (Ex.new hT1)
      have f7 : (upd H6 T1 (.tup X)) T1 = some (.tup X) := upd_same
      have f67 := Ex.new (o := .tup X) hT1 _ _ f6
      have f567 := Ex.new (o := .tup X) hT1 _ _ f56
      generalize (upd H6 T1 (.tup X)) = H7 at e7 f7 f67 f567 ⊢
      refine w_kTup (SqT.of f7) ?_
      have odd : ∀ v ∈ X, ∃ d, Dp K H7 v d ∧ idxD (rowsD rs (.str t.1)).length d = false ∧ (∀ z, d = .str z → z.length ≤ 4000) := by
        have lr : (rowsD rs (.str t.1)).length ≤ 90000 := Nat.le_trans (rowsD_le _) lz
        have oo := odd_no lr
        intro v hv
        rw [hX] at hv
        simp only [List.mem_cons, List.not_mem_nil, or_false] at hv
        rcases hv with rfl | rfl | rfl | rfl | rfl | rfl | rfl | rfl | rfl
        · exact ⟨_, .int _, oo _ (by simp), fun _ z => nomatch z⟩
        · exact ⟨_, .int _, oo _ (by simp), fun _ z => nomatch z⟩
        · exact ⟨_, .non, oo _ (by simp), fun _ z => nomatch z⟩
        · exact ⟨_, .bl _, oo _ (by simp), fun _ z => nomatch z⟩
        · exact ⟨_, .bl _, oo _ (by simp), fun _ z => nomatch z⟩
        · exact ⟨_, .str _, oo _ (by simp), fun _ z => by cases z; decide +kernel⟩
        · exact ⟨_, .tup (SqT.of f567) (.cons (.int _) .nil), oo _ (by simp), fun _ z => nomatch z⟩
        · exact ⟨_, .lst (SqL.of f67) (.cons (.int _) .nil), oo _ (by simp), fun _ z => nomatch z⟩
        · exact ⟨_, .int _, oo _ (by simp), fun _ z => nomatch z⟩
      refine loopT (xs := X) (fun d r σ' H' => Ex H7 H' ∧ ∃ x7, σ' = [some (.ref s), some (.ref p), some (.ref q), x3, some (.str t.1), some (.ref cl), some (.int ((rowsD rs (PyData.str t.1)).length : Nat)), x7, x8])
        ⟨Ex.refl _, _, rfl⟩ (fun d r σ' H' _ h => SqT.of (h.1 _ _ f7)) (fun d y r σ' H' hd h => ?_) (fun σ' H' h => ?_)
      · obtain ⟨e8, x7', rfl⟩ := h
        obtain ⟨dd, hdd, no, sz⟩ := odd y (by rw [← hd]; simp)
        walk_at "w"
        intro T2 hT2
        have e9 : Ex H7 (upd H' T2 (.tup [.str t.1, y])) := e8.trans (Ex.new hT2)
        have f9 : (upd H' T2 (.tup [.str t.1, y])) T2 = some (.tup [.str t.1, y]) := upd_same
        generalize (upd H' T2 (.tup [.str t.1, y])) = H9 at e9 f9 ⊢
        walk_at "w"
        refine w_has (hA.ext (e7.trans e9)) (.tup (SqT.of f9) (.cons (.str _) (.cons (dp_ext e9 hdd) .nil))) lz ⟨fun x y' z e ez => by cases e; exact sz z ez, fun r e => by cases e; show 2 ≤ 1000; omega⟩ ?_
        rw [no_place no]
        refine ⟨false, rfl, iteF ?_⟩
        walk_at "w"
        exact ⟨e9, _, rfl⟩
      obtain ⟨e8, x7', rfl⟩ := h
      have e9 := e7.trans e8
      walk_at "w"
      intro L1 hL1
      have e10 : Ex H (upd H' L1 (.lst [.str t.1, .int 0])) := e9.trans (Ex.new hL1)
      have f10 : (upd H' L1 (.lst [.str t.1, .int 0])) L1 = some (.lst [.str t.1, .int 0]) := upd_same
      generalize (upd H' L1 (.lst [.str t.1, .int 0])) = H10 at e10 f10 ⊢
      walk_at "w"
      refine w_has (hA.ext e10) (.lst (SqL.of f10) (.cons (.str _) (.cons (.int _) .nil))) lz (ask_ok rfl) ?_
      refine ⟨false, rfl, iteF ?_⟩
      walk_at "w"
      intro T3 hT3
      have e11 : Ex H (upd H10 T3 (.tup [.str t.1])) := e10.trans (Ex.new hT3)
      have f11 : (upd H10 T3 (.tup [.str t.1])) T3 = some (.tup [.str t.1]) := upd_same
      generalize (upd H10 T3 (.tup [.str t.1])) = H11 at e11 f11 ⊢
      walk_at "w"
      refine w_has (hA.ext e11) (.tup (SqT.of f11) (.cons (.str _) .nil)) lz (ask_ok rfl) ?_
      refine ⟨false, rfl, iteF ?_⟩
      walk_at "w"
      intro T4 hT4
      have e12 : Ex H (upd H11 T4 (.tup [.str t.1, .int 0, .int 0])) := e11.trans (Ex.new hT4)
      have f12 : (upd H11 T4 (.tup [.str t.1, .int 0, .int 0])) T4 = some (.tup [.str t.1, .int 0, .int 0]) := upd_same
      generalize (upd H11 T4 (.tup [.str t.1, .int 0, .int 0])) = H12 at e12 f12 ⊢
      walk_at "w"
      refine w_has (hA.ext e12) (.tup (SqT.of f12) (.cons (.str _) (.cons (.int _) (.cons (.int _) .nil)))) lz (ask_ok rfl) ?_
      refine ⟨false, rfl, iteF ?_⟩
      walk_at "w"
      refine w_has (hA.ext e12) (.str _) lz (ask_ok rfl) ?_
      refine ⟨false, rfl, iteF ?_⟩
      walk_at "w"
      rw [show (((rowsD rs (PyData.str t.1)).length : Nat) : Int).toNat = (rowsD rs (PyData.str t.1)).length from Int.toNat_natCast _]
      intro D3 hD3
      refine compR (fun i got H' => Ex H12 H' ∧ got = List.replicate i (V.bl true)) (Nat.le_trans (rowsD_le _) lz) ⟨Ex.new hD3, rfl⟩ (fun i got H' hi hg hgl h kk kn hk hkn => ?_) (fun got H' hg hgl h => ?_)
      · obtain ⟨e13, rfl⟩ := h
        walk_at "w"
        intro T5 hT5
        have e14 : Ex H12 (upd H' T5 (.tup [.str t.1, .int (i : Nat)])) := e13.trans (Ex.new hT5)
        have f14 : (upd H' T5 (.tup [.str t.1, .int (i : Nat)])) T5 = some (.tup [.str t.1, .int (i : Nat)]) := upd_same
        have g14 := Ex.new (o := .tup [.str t.1, .int (i : Nat)]) hT5 _ _ hg
        generalize (upd H' T5 (.tup [.str t.1, .int (i : Nat)])) = H14 at e14 f14 g14 ⊢
        walk_at "w"
        refine w_has (hA.ext (e12.trans e14)) (.tup (SqT.of f14) (.cons (.str _) (.cons (.int _) .nil))) lz (ask_ok rfl) ?_
        rw [is_place tin hi]
        exact hk _ _ g14 ⟨e14.mut hD3, by rw [List.replicate_succ']⟩
      obtain ⟨e13, rfl⟩ := h
      have e113 := e12.trans e13
      walk_at "w"
      refine w_all (bs := List.replicate (rowsD rs (PyData.str t.1)).length true) (SqL.of (by rw [List.map_replicate]; exact hg)) ?_
      have all_ : (List.replicate (rowsD rs (PyData.str t.1)).length true).all id = true := by
        rw [List.all_eq_true]
        intro x hx
        exact List.eq_of_mem_replicate hx
      refine ⟨_, rfl, ?_⟩
      rw [all_]
      walk_at "w"
      have l8 := (hG.names t tin).short
      refine w_addS (Nat.le_trans (Nat.add_le_add_right l8 _) (by decide +kernel)) ?_
      walk_at "w"
      intro T6 hT6
      have e15 : Ex H (upd H' T6 (.tup [.str (t.1 ++ Str.ofString "qqqqqqqq"), .int 0])) := e113.trans (Ex.new hT6)
      have f15 : (upd H' T6 (.tup [.str (t.1 ++ Str.ofString "qqqqqqqq"), .int 0])) T6 = some (.tup [.str (t.1 ++ Str.ofString "qqqqqqqq"), .int 0]) := upd_same
      generalize (upd H' T6 (.tup [.str (t.1 ++ Str.ofString "qqqqqqqq"), .int 0])) = H15 at e15 f15 ⊢
      walk_at "w"
      have far : tabD ts (.str (t.1 ++ Str.ofString "qqqqqqqq")) = false := by
        refine decide_eq_false fun h => ?_
        obtain ⟨t', tin', et⟩ := List.mem_map.mp h
        have a1 := (hG.names t' tin').short
        have a2 := (hG.names t tin).1.1
        have et : t'.1 = t.1 ++ Str.ofString "qqqqqqqq" := et
        rw [et, len_cat, show (Str.ofString "qqqqqqqq").length = 8 by decide +kernel] at a1
        omega
      refine w_has (hA.ext e15) (.tup (SqT.of f15) (.cons (.str _) (.cons (.int _) .nil))) lz (ask_ok rfl) ?_
      rw [no_table far]
      refine ⟨false, rfl, iteF ?_⟩
      walk_at "w"
      exact ⟨e15, _, _, _, _, _, _, rfl⟩
    · obtain ⟨e, x3, x4, x5, x6, x7, x8, rfl⟩ := h
      walk_at "w"
      intro T0 hT0
      have e1' : Ex H (upd H' T0 (.tup [])) := e.trans (Ex.new hT0)
      have f1 : (upd H' T0 (.tup [])) T0 = some (.tup []) := upd_same
      generalize (upd H' T0 (.tup [])) = H4 at e1' f1 ⊢
      walk_at "w"
      intro L0 hL0
      have e2' : Ex H (upd H4 L0 (.lst [])) := e1'.trans (Ex.new hL0)
      have f2 : (upd H4 L0 (.lst [])) L0 = some (.lst []) := upd_same
      have g1 := Ex.new (o := .lst []) hL0 _ _ f1
      generalize (upd H4 L0 (.lst [])) = H5 at e2' f2 g1 ⊢
      walk_at "w"
      intro T2 hT2
      have e3' : Ex H (upd H5 T2 (.tup [.non, .int 0])) := e2'.trans (Ex.new hT2)
      have f3 : (upd H5 T2 (.tup [.non, .int 0])) T2 = some (.tup [.non, .int 0]) := upd_same
      have x3 := Ex.new (o := .tup [.non, .int 0]) hT2
      have g2 := x3 _ _ f2
      replace g1 := x3 _ _ g1
      generalize (upd H5 T2 (.tup [.non, .int 0])) = H6 at e3' f3 g1 g2 x3 ⊢
      walk_at "w"
      intro L1 hL1
      have e4' : Ex H (upd H6 L1 (.lst [])) := e3'.trans (Ex.new hL1)
      have f4 : (upd H6 L1 (.lst [])) L1 = some (.lst []) := upd_same
      have y3 := Ex.new (o := .lst []) hL1
      replace g1 := y3 _ _ g1
      replace g2 := y3 _ _ g2
      have g3 := y3 _ _ f3
      generalize (upd H6 L1 (.lst [])) = H7 at e4' f4 g1 g2 g3 y3 ⊢
      walk_at "w"
      intro T3 hT3
      have e5' : Ex H (upd H7 T3 (.tup [.ref L1, .int 0])) := e4'.trans (Ex.new hT3)
      have f5 : (upd H7 T3 (.tup [.ref L1, .int 0])) T3 = some (.tup [.ref L1, .int 0]) := upd_same
      have y3 := Ex.new (o := .tup [.ref L1, .int 0]) hT3
      replace g1 := y3 _ _ g1
      replace g2 := y3 _ _ g2
      replace g3 := y3 _ _ g3
      have g4 := y3 _ _ f4
      generalize (upd H7 T3 (.tup [.ref L1, .int 0])) = H8 at e5' f5 g1 g2 g3 g4 y3 ⊢
      walk_at "w"
      intro T4 hT4
      have e6' : Ex H (upd H8 T4 (.tup [.int 0, .int 0])) := e5'.trans (Ex.new hT4)
      have f6 : (upd H8 T4 (.tup [.int 0, .int 0])) T4 = some (.tup [.int 0, .int 0]) := upd_same
      have y3 := Ex.new (o := .tup [.int 0, .int 0]) hT4
      replace g1 := y3 _ _ g1
      replace g2 := y3 _ _ g2
      replace g3 := y3 _ _ g3
      replace g4 := y3 _ _ g4
      have g5 := y3 _ _ f5
      generalize (upd H8 T4 (.tup [.int 0, .int 0])) = H9 at e6' f6 g1 g2 g3 g4 g5 y3 ⊢
      walk_at "w"
      have hX : ∃ X, X = [V.non, V.int 0, V.ref T0, V.ref L0, V.ref T2, V.ref T3, V.ref T4] := ⟨_, rfl⟩
      obtain ⟨X, hX⟩ := hX
      rw [← hX]
      intro T5 hT5
      have e7' : Ex H (upd H9 T5 (.tup X)) := e6'.trans (Ex.new hT5)
      have f7 : (upd H9 T5 (.tup X)) T5 = some (.tup X) := upd_same
      have y3 := Ex.new (o := .tup X) hT5
      replace g1 := y3 _ _ g1
      replace g2 := y3 _ _ g2
      replace g3 := y3 _ _ g3
      replace g4 := y3 _ _ g4
      replace g5 := y3 _ _ g5
      have g6 := y3 _ _ f6
      generalize (upd H9 T5 (.tup X)) = H10 at e7' f7 g1 g2 g3 g4 g5 g6 y3 ⊢
      refine w_kTup (SqT.of f7) ?_
      have odd : ∀ v ∈ X, ∃ d, Dp K H10 v d ∧ hasS ts rs d = false ∧ AskOk d := by
        intro v hv
        rw [hX] at hv
        simp only [List.mem_cons, List.not_mem_nil, or_false] at hv
        rcases hv with rfl | rfl | rfl | rfl | rfl | rfl | rfl
        · exact ⟨_, .non, rfl, ask_ok rfl⟩
        · exact ⟨_, .int _, rfl, ask_ok rfl⟩
        · exact ⟨_, .tup (SqT.of g1) .nil, rfl, ask_ok rfl⟩
        · exact ⟨_, .lst (SqL.of g2) .nil, rfl, ask_ok rfl⟩
        · exact ⟨_, .tup (SqT.of g3) (.cons .non (.cons (.int _) .nil)), rfl, ask_ok rfl⟩
        · exact ⟨_, .tup (SqT.of g5) (.cons (.lst (SqL.of g4) .nil) (.cons (.int _) .nil)), rfl, ask_ok rfl⟩
        · exact ⟨_, .tup (SqT.of g6) (.cons (.int _) (.cons (.int _) .nil)), rfl, ask_ok rfl⟩
      intro D3 hD3
      refine compQT X (fun v z => v = z) (fun _ => some false) (fun v y => v = V.bl y) hD3 (SqT.of f7) (by rw [hX]; simp) (by rw [hX]; exact .cons rfl (.cons rfl (.cons rfl (.cons rfl (.cons rfl (.cons rfl (.cons rfl .nil))))))) (fun y z hy hm H11 e8 kk kn hk hkn => ?_) (fun acc H11 e8 hacc hp2 => ?_)
      · subst hy
        obtain ⟨d, hd, no, ak⟩ := odd y hm
        walk_at "w"
        refine w_has (hA.ext (e7'.trans e8)) (dp_ext e8 hd) lz ak ?_
        rw [no]
        exact hk _ _ _ (Ex.refl _) rfl rfl
      rw [filterMap_some] at hp2
      have ev2 := vals_bls hp2
      walk_at "w"
      refine w_any (bs := X.map fun _ => false) (SqL.of (ev2 ▸ hacc)) ?_
      have none_ : (X.map fun _ => false).any id = false := by
        rw [List.any_eq_false]
        intro x hx
        obtain ⟨_, _, rfl⟩ := List.mem_map.mp hx
        decide
      refine ⟨_, rfl, ?_⟩
      rw [none_]
      exact k _ (e7'.trans e8)
end
end LP
namespace LP
open PySem L2
open Evl (Ex)
/-! ### rows that may stand: what a store is made of, what it tells -/
theorem storeF_app (g : List (Str × List PyData)) : ∀ (ts ts' : Tabs) (rs : RowsD), storeF g rs (ts ++ ts') = (match storeF g rs ts with | .inl e => .inl e | .inr r => storeF g r ts')
  | [], ts', rs => rfl
  | t :: ts, ts', rs => by
    rw [List.cons_append, storeF_cons, storeF_cons]
    cases rowsF rs t.2 0 ((g.lookup t.1).getD []) with
    | inl e => rfl
    | inr l => exact storeF_app g ts ts' _
theorem fill_store {g : List (Str × List PyData)} {ts : Tabs} {rs : RowsD} (f : Fill ts rs) (h : ∀ r ∈ rs, (g.lookup r.1).getD [] = r.2.map PyData.tuple) : storeF g [] ts = .inr rs := by
  induction f with
  | nil => rfl
  | @snoc ts rs t l f hl ih =>
    rw [storeF_app, ih fun r hr => h r (List.mem_append_left _ hr)]
    show storeF g rs [t] = _
    rw [storeF_cons, h (t.1, l) (by simp), rowsF_all (fun d hd => by obtain ⟨r, hr, rfl⟩ := List.mem_map.mp hd; exact hl r hr)]
    show (Sum.inr (rs ++ [(t.1, (l.map PyData.tuple).map cellsD)]) : Sum (Str × Nat × Option Str) RowsD) = _
    rw [List.map_map, show l.map (cellsD ∘ PyData.tuple) = l from (List.map_congr_left fun _ _ => rfl).trans (List.map_id l)]
theorem cnt_app {rs rs' : RowsD} {n : Str} (h : n ∈ rs.map (·.1)) : cnt (rs ++ rs') n = cnt rs n := by
  obtain ⟨v, hv⟩ := lookup_some h
  unfold cnt
  rw [List.lookup_append, hv]
  rfl
theorem rowsD_left {rs rs' : RowsD} {n : Str} (h : n ∈ rs.map (·.1)) : rowsD (rs ++ rs') (.str n) = rowsD rs (.str n) := by
  obtain ⟨v, hv⟩ := lookup_some h
  show ((rs ++ rs').lookup n).getD [] = (rs.lookup n).getD []
  rw [List.lookup_append, hv]
  rfl
theorem lookup_out {α : Type} : ∀ {l : List (Str × α)} {n : Str}, n ∉ l.map (·.1) → l.lookup n = none
  | [], _, _ => rfl
  | x :: l, n, h => by
    rw [List.map_cons] at h
    rw [List.lookup_cons, show (n == x.1) = false from beq_eq_false_iff_ne.mpr fun e => h (by rw [e]; exact List.mem_cons_self)]
    exact lookup_out fun e => h (List.mem_cons_of_mem _ e)
theorem rowsD_last {rs : RowsD} {n : Str} {l : List (List PyData)} (h : n ∉ rs.map (·.1)) : rowsD (rs ++ [(n, l)]) (.str n) = l := by
  show ((rs ++ [(n, l)]).lookup n).getD [] = l
  rw [List.lookup_append, lookup_out h]
  show ((([(n, l)] : RowsD).lookup n)).getD [] = l
  rw [List.lookup_cons, show (n == n) = true from beq_self_eq_true _]
  rfl
theorem fitD_congr {rs rs' : RowsD} {c : Col} {d : PyData} (h : c.isLink = true → cnt rs c.target = cnt rs' c.target) : fitD rs c d = fitD rs' c d := by
  cases c with
  | plain f n => cases d <;> cases f <;> rfl
  | word n o => cases d <;> rfl
  | link n t o l =>
    have h : cnt rs t = cnt rs' t := h rfl
    cases d <;> first | rfl | (rename_i i; show idxD (cnt rs t) (.int i) = idxD (cnt rs' t) (.int i); rw [h])
theorem find_congr {α : Type} {p q : α → Bool} : ∀ {l : List α}, (∀ x ∈ l, p x = q x) → l.find? p = l.find? q
  | [], _ => rfl
  | x :: l, h => by rw [List.find?_cons, List.find?_cons, h x List.mem_cons_self, find_congr fun y hy => h y (List.mem_cons_of_mem _ hy)]
theorem rowF_congr {rs rs' : RowsD} {cs : List Col} {d : PyData} (h : ∀ c ∈ cs, c.isLink = true → cnt rs c.target = cnt rs' c.target) : rowF rs cs d = rowF rs' cs d := by
  cases d with
  | tuple r =>
    show (if r.length = cs.length then ((cs.zip r).find? fun p => !fitD rs p.1 p.2).map (fun p => some p.1.name) else some none) = (if r.length = cs.length then ((cs.zip r).find? fun p => !fitD rs' p.1 p.2).map (fun p => some p.1.name) else some none)
    rw [find_congr (q := fun p => !fitD rs' p.1 p.2) fun p hp => by rw [fitD_congr (h p.1 (List.of_mem_zip hp).1)]]
  | _ => rfl
theorem good_tgs7 {ts : Tabs} (g : GoodTabs ts) : ∀ t ∈ ts, ∀ c ∈ t.2, c.isLink = true → c.target ∈ ts.map (·.1) := by
  induction g with
  | nil => intro t h; cases h
  | @snoc ts n cs g _ _ gc ih =>
    intro t ht c hc lk
    rw [List.map_append]
    rcases List.mem_append.1 ht with h | h
    · exact List.mem_append_left _ (ih t h c hc lk)
    · cases List.mem_singleton.1 h
      exact List.mem_append_left _ (gc.tg c hc lk)
theorem fill_at {ts : Tabs} {rs : RowsD} (f : Fill ts rs) : GoodTabs ts → ∀ t ∈ ts, ∀ r ∈ rowsD rs (.str t.1), rowF rs t.2 (.tuple r) = none := by
  induction f with
  | nil => intro _ t ht; cases ht
  | @snoc ts rs t l f hl ih =>
    intro g t' ht' r hr
    obtain ⟨g0, _, hn, gc⟩ := g.split ts t [] rfl
    have nm := f.names
    have keep : ∀ cs : List Col, (∀ c ∈ cs, c.isLink = true → c.target ∈ ts.map (·.1)) → ∀ d, rowF (rs ++ [(t.1, l)]) cs d = rowF rs cs d := fun cs h d => rowF_congr fun c hc lk => cnt_app (by rw [nm]; exact h c hc lk)
    rcases List.mem_append.1 ht' with h | h
    · have h1 : t'.1 ∈ rs.map (·.1) := by rw [nm]; exact List.mem_map.mpr ⟨t', h, rfl⟩
      rw [rowsD_left h1] at hr
      rw [keep t'.2 (good_tgs7 g0 t' h)]
      exact ih g0 t' h r hr
    · cases List.mem_singleton.1 h
      rw [rowsD_last (by rw [nm]; exact hn)] at hr
      rw [keep t.2 gc.tg]
      exact hl r hr
theorem fill_of {ts : Tabs} (g : GoodTabs ts) : ∀ {rs : RowsD}, rs.map (·.1) = ts.map (·.1) → (∀ t ∈ ts, ∀ r ∈ rowsD rs (.str t.1), rowF rs t.2 (.tuple r) = none) → Fill ts rs := by
  induction g with
  | nil =>
    intro rs e _
    cases rs with
    | nil => exact .nil
    | cons _ _ => cases e
  | @snoc ts n cs g0 _ hn gc ih =>
    intro rs e h
    obtain ⟨rs0, q, rfl⟩ : ∃ rs0 q, rs = rs0 ++ [q] := by
      rcases List.eq_nil_or_concat rs with rfl | ⟨a, b, rfl⟩
      · rw [List.map_append] at e
        exact absurd (congrArg List.length e) (by simp)
      · exact ⟨a, b, by simp⟩
    rw [List.map_append, List.map_append] at e
    obtain ⟨e1, e2⟩ := List.append_inj' e rfl
    obtain ⟨n', l⟩ := q
    have e2 : n' = n := List.singleton_inj.mp e2
    subst e2
    have keep : ∀ cs : List Col, (∀ c ∈ cs, c.isLink = true → c.target ∈ ts.map (·.1)) → ∀ d, rowF (rs0 ++ [(n', l)]) cs d = rowF rs0 cs d := fun cs h d => rowF_congr fun c hc lk => cnt_app (by rw [e1]; exact h c hc lk)
    refine .snoc (t := (n', cs)) (ih e1 fun t ht r hr => ?_) fun r hr => ?_
    · have z := h t (List.mem_append_left _ ht) r (by rw [rowsD_left (by rw [e1]; exact List.mem_map.mpr ⟨t, ht, rfl⟩)]; exact hr)
      rw [keep _ (good_tgs7 g0 t ht)] at z
      exact z
    · have z := h (n', cs) (by simp) r (by rw [rowsD_last (by rw [e1]; exact hn)]; exact hr)
      rw [keep _ gc.tg] at z
      exact z
theorem word_sok {x : Str} (h : wordB x = true) : SOk x := SOk.low ((wordB_iff x).1 h).2.2
theorem fit_shaped {rs : RowsD} {c : Col} {d : PyData} (h : fitD rs c d = true) : SeqAt.shaped d = true := by
  cases d with
  | none => rfl
  | bool b => rfl
  | int i => rfl
  | str x =>
    cases c with
    | plain f n => cases f <;> cases h
    | word n o => exact sh_str (word_sok h)
    | link n t o l => cases h
  | _ =>
    cases c with
    | plain f n => cases f <;> cases h
    | word n o => cases h
    | link n t o l => cases h
theorem row_all {rs : RowsD} {cs : List Col} {r : List PyData} (h : rowF rs cs (.tuple r) = none) : r.length = cs.length ∧ ∀ x ∈ r, flatD x = true ∧ SeqAt.shaped x = true := by
  have fl := row_flat h
  obtain ⟨r', e, l, hf⟩ := row_fits h
  cases e
  refine ⟨l, fun x hx => ⟨fl x hx, ?_⟩⟩
  obtain ⟨i, hi, rfl⟩ := List.mem_iff_getElem.mp hx
  exact fit_shaped (hf (cs[i]'(by omega), r[i]) (List.mem_iff_getElem.mpr ⟨i, by rw [List.length_zip]; omega, by rw [List.getElem_zip]⟩))
theorem fill_fit {ts : Tabs} {rs : RowsD} {k : Nat} (g : GoodTabs ts) (f : Fill ts rs) (hk : ∀ r ∈ rs, r.2.length ≤ k) (lk : k ≤ 90000) : RowsFit ts rs := fun t ht => ⟨Nat.le_trans (cnt_le hk) lk, fun r hr => row_all (fill_at f g t ht r hr)⟩
theorem fill_in {ts : Tabs} {rs : RowsD} (g : GoodTabs ts) (f : Fill ts rs) : ∀ r ∈ rs, ∃ t ∈ ts, t.1 = r.1 ∧ rowsD rs (.str t.1) = r.2 := by
  intro r hr
  have h1 : r.1 ∈ ts.map (·.1) := by rw [← f.names]; exact List.mem_map.mpr ⟨r, hr, rfl⟩
  obtain ⟨t, ht, e⟩ := List.mem_map.mp h1
  refine ⟨t, ht, e, ?_⟩
  show ((rs.lookup t.1).getD []) = r.2
  rw [e, look_own (by rw [f.names]; exact g.nodup) r hr]
  rfl
theorem rows_shaped {rows : List (List PyData)} (h : ∀ r ∈ rows, ∀ x ∈ r, flatD x = true ∧ SeqAt.shaped x = true) : SeqAt.shaped (.list (rows.map PyData.tuple)) = true := by
  have k1 : ∀ r : List PyData, (∀ x ∈ r, flatD x = true ∧ SeqAt.shaped x = true) → PyData.canLayAll0 r = true ∧ PyData.depthAll r = 0 := fun r => by
    induction r with
    | nil => exact fun _ => ⟨rfl, rfl⟩
    | cons x r ih =>
      intro h
      obtain ⟨a, b⟩ := ih fun y hy => h y (List.mem_cons_of_mem _ hy)
      obtain ⟨c1, c2⟩ := h x List.mem_cons_self
      refine ⟨by show (x.canLay0 && PyData.canLayAll0 r) = true; rw [SeqAt.canLay_of_shaped c2, a]; rfl, ?_⟩
      show max x.depth (PyData.depthAll r) = 0
      rw [b]
      cases x <;> first | rfl | cases c1
  have k2 : ∀ rows : List (List PyData), (∀ r ∈ rows, ∀ x ∈ r, flatD x = true ∧ SeqAt.shaped x = true) → PyData.canLayAll0 (rows.map PyData.tuple) = true ∧ PyData.depthAll (rows.map PyData.tuple) ≤ 1 := fun rows => by
    induction rows with
    | nil => exact fun _ => ⟨rfl, by show 0 ≤ 1; omega⟩
    | cons r rows ih =>
      intro h
      obtain ⟨a, b⟩ := ih fun y hy => h y (List.mem_cons_of_mem _ hy)
      obtain ⟨c, d⟩ := k1 r (h r List.mem_cons_self)
      refine ⟨by show (PyData.canLayAll0 r && PyData.canLayAll0 (rows.map PyData.tuple)) = true; rw [a, c]; rfl, ?_⟩
      show max (PyData.depthAll r + 1) (PyData.depthAll (rows.map PyData.tuple)) ≤ 1
      rw [d]
      omega
  obtain ⟨a, b⟩ := k2 rows h
  unfold SeqAt.shaped
  rw [Bool.and_eq_true, decide_eq_true_eq]
  refine ⟨a, ?_⟩
  show PyData.depthAll (rows.map PyData.tuple) + 1 ≤ 64
  omega
theorem fill_ok {ts : Tabs} {rs : RowsD} (g : GoodTabs ts) (f : Fill ts rs) : RowsOk rs := fun r hr => by
  obtain ⟨t, ht, e, e2⟩ := fill_in g f r hr
  have z : ∀ row ∈ r.2, ∀ x ∈ row, flatD x = true ∧ SeqAt.shaped x = true := fun row hrow => (row_all (fill_at f g t ht row (by rw [e2]; exact hrow))).2
  exact ⟨fun row hrow x hx => (z row hrow x hx).1, rows_shaped z⟩
/-! ### == of rows -/
theorem data_own {rs : RowsD} (nd : (rs.map (·.1)).Nodup) : ∀ r ∈ rs, (dataS rs).lookup r.1 = some (PyData.list (r.2.map PyData.tuple)) := by
  have z : ∀ (rs : RowsD) (n : Str), (dataS rs).lookup n = (rs.lookup n).map fun x => PyData.list (x.map PyData.tuple) := fun rs n => by
    induction rs with
    | nil => rfl
    | cons q rs ih =>
      show List.lookup n ((q.1, PyData.list (q.2.map PyData.tuple)) :: dataS rs) = _
      rw [List.lookup_cons, List.lookup_cons]
      split
      · rfl
      · exact ih
  intro r hr
  rw [z, look_own nd r hr]
  rfl
theorem eq_own {rs : RowsD} (nd : (rs.map (·.1)).Nodup) (ok : RowsOk rs) : eqMapD (dataS rs) (dataS rs) = true := by
  unfold eqMapD
  rw [beq_self_eq_true, Bool.true_and, List.all_eq_true]
  intro q hq
  obtain ⟨r, hr, rfl⟩ := List.mem_map.mp hq
  unfold eqEntD
  show (match (dataS rs).lookup r.1 with | none => false | some e => PyData.eqv (PyData.list (r.2.map PyData.tuple)) e) = true
  rw [data_own nd r hr]
  exact PySem.SeqAt.eqv_refl _ (SeqAt.canLay_of_shaped (ok r hr).2)
/-- one table's rows differ -/
theorem ne_own {rs rs' : RowsD} (nd : (rs'.map (·.1)).Nodup) {n : Str} {x y : List (List PyData)} (h : (n, x) ∈ rs) (h' : (n, y) ∈ rs') (e : PyData.eqv (.list (x.map PyData.tuple)) (.list (y.map PyData.tuple)) = false) : eqMapD (dataS rs) (dataS rs') = false := by
  unfold eqMapD
  refine Bool.and_eq_false_iff.mpr (.inr ?_)
  rw [List.all_eq_false]
  refine ⟨(n, PyData.list (x.map PyData.tuple)), List.mem_map.mpr ⟨(n, x), h, rfl⟩, ?_⟩
  unfold eqEntD
  show ¬ (match (dataS rs').lookup n with | none => false | some e => PyData.eqv (PyData.list (x.map PyData.tuple)) e) = true
  rw [data_own nd (n, y) h']
  show ¬ PyData.eqv (.list (x.map PyData.tuple)) (.list (y.map PyData.tuple)) = true
  rw [e]
  decide
theorem eqvAll_mid {a b : List PyData} {x y : PyData} (e : PyData.eqv x y = false) : PyData.eqvAll (a ++ x :: b) (a ++ y :: b) = false := by
  induction a with
  | nil =>
    show (PyData.eqv x y && PyData.eqvAll b b) = false
    rw [e]
    rfl
  | cons z a ih =>
    show (PyData.eqv z z && PyData.eqvAll (a ++ x :: b) (a ++ y :: b)) = false
    rw [ih, Bool.and_false]
/-- no rows at all -/
def bare7 (ts : Tabs) : RowsD := ts.map fun t => (t.1, [])
theorem bare_names (ts : Tabs) : (bare7 ts).map (·.1) = ts.map (·.1) := by
  unfold bare7
  rw [List.map_map]
  rfl
theorem bare_rows (ts : Tabs) : ∀ r ∈ bare7 ts, r.2 = [] := fun r hr => by
  obtain ⟨t, _, rfl⟩ := List.mem_map.mp hr
  rfl
theorem bare_D (ts : Tabs) (d : PyData) : rowsD (bare7 ts) d = [] := by
  cases d with
  | str n =>
    show ((bare7 ts).lookup n).getD [] = []
    cases e : (bare7 ts).lookup n with
    | none => rfl
    | some l => exact bare_rows ts _ (PySem.mem_of_lookup e)
  | _ => rfl
theorem bare_fill {ts : Tabs} (g : GoodTabs ts) : Fill ts (bare7 ts) := fill_of g (bare_names ts) fun t _ r hr => by
  rw [bare_D] at hr
  cases hr
theorem bare_store {ts : Tabs} (g : GoodTabs ts) : storeF [] [] ts = .inr (bare7 ts) := fill_store (bare_fill g) fun r hr => by rw [bare_rows ts r hr]; rfl
theorem bare_len (ts : Tabs) : lenS (bare7 ts) = 0 := by
  unfold lenS bare7
  rw [List.map_map]
  induction ts with
  | nil => rfl
  | cons t ts ih =>
    rw [List.map_cons, List.sum_cons, ih]
    rfl
theorem lenS_nil {rs : RowsD} : lenS rs = 0 ↔ ∀ r ∈ rs, r.2 = [] := by
  induction rs with
  | nil => exact ⟨fun _ r h => (nomatch h), fun _ => rfl⟩
  | cons q rs ih =>
    have e : lenS (q :: rs) = q.2.length + lenS rs := by
      unfold lenS
      rw [List.map_cons,
              List.sum_cons]
    rw [e]
    constructor
    · intro h r hr
      rcases List.mem_cons.1 hr with rfl | hr
      · exact List.eq_nil_of_length_eq_zero (by omega)
      · exact ih.1 (by omega) r hr
    · intro h
      rw [h q List.mem_cons_self, ih.2 fun r hr => h r (List.mem_cons_of_mem _ hr)]
      rfl
theorem bare_eq {ts : Tabs} {rs : RowsD} (nd : (ts.map (·.1)).Nodup) (nm : rs.map (·.1) = ts.map (·.1)) : eqMapD (dataS (bare7 ts)) (dataS rs) = decide (lenS rs = 0) := by
  by_cases h : lenS rs = 0
  · rw [decide_eq_true h]
    rw [lenS_nil] at h
    have : rs = bare7 ts := by
      have e : rs = (rs.map (·.1)).map fun n => (n, []) := by
        rw [List.map_map]
        refine ((List.map_congr_left fun r hr => ?_).trans (List.map_id rs)).symm
        show (r.1, []) = r
        rw [← h r hr]
      rw [e, nm]
      unfold bare7
      rw [List.map_map]
      rfl
    subst this
    refine eq_own (by rw [bare_names]; exact nd) fun r hr => ?_
    rw [bare_rows ts r hr]
    exact ⟨fun row h => (nomatch h), rfl⟩
  · rw [decide_eq_false h]
    rw [lenS_nil] at h
    obtain ⟨r, hr⟩ := Classical.not_forall.mp h
    obtain ⟨hr, hn⟩ := Classical.not_imp.mp hr
    have h1 : (r.1, ([] : List (List PyData))) ∈ bare7 ts := by
      have : r.1 ∈ ts.map (·.1) := by rw [← nm]; exact List.mem_map.mpr ⟨r, hr, rfl⟩
      obtain ⟨t, ht, e⟩ := List.mem_map.mp this
      exact List.mem_map.mpr ⟨t, ht, by rw [e]⟩
    refine ne_own (by rw [nm]; exact nd) h1 (show (r.1, r.2) ∈ rs from hr) ?_
    cases e : r.2 with
    | nil => exact absurd e hn
    | cons x l => rfl
end LP
namespace LP
open PySem L2
open Evl (Ex)
theorem hu_lt7 {A : Around} {j : Nat} (hr : Room j A) : A.units < cLine := by have := hr.un; omega
/-! ### t + u and t[a:b] of any kind -/
section
variable {X : Cx} {K : PySem.W.Frag}
theorem op_catAK (hK : X.K = K) : OpR X (binaryOp .Add) (rCatA K) := hK ▸ op_catA
theorem sl_tupAK (hK : X.K = K) : SlR X (rSlA K) := hK ▸ sl_tupA
end
theorem w_catA {K : PySem.W.Frag} {H : Hp} {a b : Addr} {xs ys : List V} {Q : VK} (ha : SqT K H a xs) (hb : SqT K H b ys) (hz : xs.length + ys.length ≤ sizeLine) (q : ∀ r H', Ex H H' → SqT K H' r (xs ++ ys) → Q (.ref r) H') : rCatA K (.ref a) (.ref b) H Q :=
  ⟨a, b, xs, ys, rfl, rfl, ha, hb, hz, fun e => q b H (Ex.refl _) (by rw [e]; exact hb), fun _ e => q a H (Ex.refl _) (by rw [e, List.append_nil]; exact ha), fun _ _ p hp => q p _ (Ex.new hp) (SqT.of upd_same)⟩
theorem w_slA {K : PySem.W.Frag} {H : Hp} {a : Addr} {xs : List V} {lo hi : Option Int} {Q : VK} (ha : SqT K H a xs) (q : ∀ r H', Ex H H' → SqT K H' r (cutV xs lo hi) → Q (.ref r) H') : rSlA K (.ref a) lo hi H Q :=
  ⟨a, xs, rfl, ha, fun ⟨h1, h2⟩ => q a H (Ex.refl _) (by unfold cutV; rw [h1, h2]; simpa using ha), fun _ p hp => q p _ (Ex.new hp) (SqT.of upd_same)⟩
theorem w_sl7 {K : PySem.W.Frag} {H : Hp} {p : Addr} {xs : List V} {lo hi : Option Int} {Q : VK} (h : SqL K H p xs) (q : ∀ l, H l = none → Q (.ref l) (upd H l (.lst (cutV xs lo hi)))) : rSlL K (.ref p) lo hi H Q := ⟨p, xs, rfl, h, q⟩
theorem cutT7 (xs : List V) (n : Nat) (h : n ≤ xs.length) : cutV xs none (some (n : Int)) = xs.take n := by
  unfold cutV
  rw [HT.sIx_none, HT.sIx_nat, List.drop_zero, Nat.sub_zero, Nat.min_eq_left h]
theorem cutD7 (xs : List V) (n : Nat) (h : n ≤ xs.length) : cutV xs (some (n : Int)) none = xs.drop n := by
  unfold cutV
  rw [HT.sIx_none, HT.sIx_nat, Nat.min_eq_left h]
  exact List.take_of_length_le (by rw [List.length_drop]; exact Nat.le_refl _)
theorem eqv_flip {x y : PyData} (hx : flatD x = true) (hy : flatD y = true) : PyData.eqv x y = PyData.eqv y x := by
  cases x <;> first | (cases hx; done) | (cases y <;> first | (cases hy; done) | rfl | (simp only [PyData.eqv]; first | rfl | exact Bool.eq_iff_iff.mpr ⟨fun h => by rw [beq_iff_eq] at h ⊢; exact h.symm, fun h => by rw [beq_iff_eq] at h ⊢; exact h.symm⟩))
theorem eqvAll_flip : ∀ {xs ys : List PyData}, (∀ x ∈ xs, flatD x = true) → (∀ y ∈ ys, flatD y = true) → PyData.eqvAll xs ys = PyData.eqvAll ys xs
  | [], [], _, _ => rfl
  | [], _ :: _, _, _ => rfl
  | _ :: _, [], _, _ => rfl
  | x :: xs, y :: ys, hx, hy => by
    show (PyData.eqv x y && PyData.eqvAll xs ys) = (PyData.eqv y x && PyData.eqvAll ys xs)
    rw [eqv_flip (hx x List.mem_cons_self) (hy y List.mem_cons_self), eqvAll_flip (fun z hz => hx z (List.mem_cons_of_mem _ hz)) fun z hz => hy z (List.mem_cons_of_mem _ hz)]
/-! ### a table's rows set -/
def setR (rs : RowsD) (n : Str) (l : List (List PyData)) : RowsD := rs.map fun r => if r.1 = n then (r.1, l) else r
theorem setR_names (rs : RowsD) (n : Str) (l : List (List PyData)) : (setR rs n l).map (·.1) = rs.map (·.1) := by
  unfold setR
  rw [List.map_map]
  refine List.map_congr_left fun r _ => ?_
  show (if r.1 = n then (r.1, l) else r).1 = r.1
  split <;> rfl
theorem setR_look {rs : RowsD} {n m : Str} {l : List (List PyData)} : (setR rs n l).lookup m = if m = n then (rs.lookup m).map fun _ => l else rs.lookup m := by
  induction rs with
  | nil => by_cases h : m = n <;> simp [setR, h]
  | cons r rs ih =>
    show List.lookup m ((if r.1 = n then (r.1, l) else r) :: setR rs n l) = _
    rw [List.lookup_cons, List.lookup_cons, ih]
    have e1 : (if r.1 = n then (r.1, l) else r).1 = r.1 := by split <;> rfl
    rw [e1]
    by_cases h : m = r.1
    · subst h
      rw [beq_self_eq_true]
      show some (if r.1 = n then (r.1, l) else r).2 = _
      by_cases h2 : r.1 = n
      · rw [if_pos h2, if_pos h2]; rfl
      · rw [if_neg h2, if_neg h2]
    · rw [show (m == r.1) = false from beq_eq_false_iff_ne.mpr h]
theorem setR_mem {rs : RowsD} {n : Str} {l : List (List PyData)} (h : n ∈ rs.map (·.1)) : (n, l) ∈ setR rs n l := by
  obtain ⟨r, hr, e⟩ := List.mem_map.mp h
  refine List.mem_map.mpr ⟨r, hr, ?_⟩
  have e : r.1 = n := e
  rw [if_pos e, e]
theorem setR_len {rs : RowsD} {n : Str} {l : List (List PyData)} {k : Nat} (h : ∀ r ∈ rs, r.2.length ≤ k) (hl : l.length ≤ k) : ∀ r ∈ setR rs n l, r.2.length ≤ k := fun r hr => by
  obtain ⟨q, hq, rfl⟩ := List.mem_map.mp hr
  split
  · exact hl
  · exact h q hq
/-- a dict of rows in which one table's list is put anew -/
theorem ents_put {K : PySem.W.Frag} {H : Hp} {n : Str} {L : Addr} {vs : List V} {l : List (List PyData)} (hL : H L = some (.lst vs)) (hv : Paired (RowAt K H) vs l) : ∀ {kvs : List (Key × V)} {rs : RowsD}, Paired (RowsEnt K H) kvs rs → Paired (RowsEnt K H) (kvs.map fun kv => if kv.1 = (Sum.inr n : Key) then (kv.1, V.ref L) else kv) (setR rs n l)
  | _, _, .nil => .nil
  | kv :: kvs, r :: rs, .cons h q => by
    refine .cons ?_ (ents_put hL hv q)
    show RowsEnt K H (if kv.1 = (Sum.inr n : Key) then (kv.1, V.ref L) else kv) (if r.1 = n then (r.1, l) else r)
    by_cases e : r.1 = n
    · rw [if_pos e, if_pos (by rw [h.1, e])]
      exact ⟨h.1, L, vs, rfl, hL, hv⟩
    · rw [if_neg e, if_neg (fun z => e (by rw [h.1] at z; exact Sum.inr.inj z))]
      exact h
theorem putK_old {K : PySem.W.Frag} {H : Hp} {n : Str} {v : V} {kvs : List (Key × V)} {rs : RowsD} (h : Paired (RowsEnt K H) kvs rs) (hn : n ∈ rs.map (·.1)) : putK kvs (Sum.inr n : Key) v = kvs.map fun kv => if kv.1 = (Sum.inr n : Key) then (kv.1, v) else kv := by
  unfold putK
  rw [if_pos]
  obtain ⟨q, hq⟩ : ∃ rows, rs.lookup n = some rows := by
    clear h
    induction rs with
    | nil => cases hn
    | cons r rs ih =>
      rw [List.lookup_cons]
      by_cases e : n = r.1
      · rw [show (n == r.1) = true by rw [e]; exact beq_self_eq_true _]
        exact ⟨_, rfl⟩
      · rw [show (n == r.1) = false from beq_eq_false_iff_ne.mpr e]
        exact ih ((List.mem_cons.1 hn).resolve_left e)
  obtain ⟨l, vs, h1, _⟩ := ent_get h hq
  rw [valV_any, h1]
  rfl
/-! ### one item of a list set -/
def setAt {α : Type} (xs : List α) (i : Nat) (y : α) : List α := xs.take i ++ y :: xs.drop (i + 1)
theorem setAt_len {α : Type} {xs : List α} {i : Nat} {y : α} (h : i < xs.length) : (setAt xs i y).length = xs.length := by
  unfold setAt
  rw [List.length_append,
          List.length_cons, List.length_take, List.length_drop]
  omega
theorem setAt_own {α : Type} {xs : List α} {i : Nat} {y : α} (h : xs[i]? = some y) : setAt xs i y = xs := by
  obtain ⟨hi, rfl⟩ := List.getElem?_eq_some_iff.mp h
  unfold setAt
  rw [← List.drop_eq_getElem_cons hi, List.take_append_drop]
theorem setAt_mem {α : Type} {xs : List α} {i : Nat} {y x : α} (h : x ∈ setAt xs i y) : x = y ∨ x ∈ xs := by
  unfold setAt at h
  rcases List.mem_append.1 h with h | h
  · exact .inr (List.mem_of_mem_take h)
  · rcases List.mem_cons.1 h with h | h
    · exact .inl h
    · exact .inr (List.mem_of_mem_drop h)
theorem setAt_map {α β : Type} {f : α → β} {xs : List α} {i : Nat} {y : α} : (setAt xs i y).map f = setAt (xs.map f) i (f y) := by
  unfold setAt
  rw [List.map_append,
          List.map_cons, List.map_take, List.map_drop]
theorem setAt_get {α : Type} {xs : List α} {i j : Nat} {y : α} (hi : i < xs.length) : (setAt xs i y)[j]? = if j = i then some y else xs[j]? := by
  unfold setAt
  by_cases h : j = i
  · subst h
    rw [if_pos rfl, List.getElem?_append_right (by rw [List.length_take]; omega), List.length_take, show j - min j xs.length = 0 by omega]
    rfl
  · rw [if_neg h]
    by_cases h2 : j < i
    · rw [List.getElem?_append_left (by rw [List.length_take]; omega), List.getElem?_take, if_pos h2]
    · rw [List.getElem?_append_right (by rw [List.length_take]; omega), List.length_take, show j - min i xs.length = (j - i - 1) + 1 by omega, List.getElem?_cons_succ, List.getElem?_drop, show i + 1 + (j - i - 1) = j by omega]
theorem row_setAt {rs : RowsD} {cs : List Col} {r : List PyData} {j : Nat} {c : Col} {d : PyData} (h : rowF rs cs (.tuple r) = none) (hc : cs[j]? = some c) (hd : fitD rs c d = true) : rowF rs cs (.tuple (setAt r j d)) = none := by
  obtain ⟨r', e, l, hf⟩ := row_fits h
  cases e
  obtain ⟨hj, ec⟩ := List.getElem?_eq_some_iff.mp hc
  have lj : j < r.length := by omega
  show (if (setAt r j d).length = cs.length then ((cs.zip (setAt r j d)).find? fun p => !fitD rs p.1 p.2).map (fun p => some p.1.name) else some none) = none
  rw [if_pos (by rw [setAt_len lj]; exact l), Option.map_eq_none_iff, List.find?_eq_none]
  intro p hp
  obtain ⟨i, hi, rfl⟩ := List.mem_iff_getElem.mp hp
  rw [List.length_zip, setAt_len lj] at hi
  have hic : i < cs.length := by omega
  have e1 : (setAt r j d)[i]? = if i = j then some d else r[i]? := setAt_get lj
  rw [List.getElem_zip]
  have key : fitD rs (cs[i]'hic) ((setAt r j d)[i]'(by rw [setAt_len lj]; omega)) = true := by
    by_cases z : i = j
    · subst z
      rw [if_pos rfl] at e1
      obtain ⟨_, e2⟩ := List.getElem?_eq_some_iff.mp e1
      rw [e2, ec]
      exact hd
    · rw [if_neg z] at e1
      have e3 : r[i]? = some (r[i]'(by omega)) := List.getElem?_eq_getElem _
      rw [e3] at e1
      obtain ⟨_, e2⟩ := List.getElem?_eq_some_iff.mp e1
      rw [e2]
      exact hf (cs[i], r[i]'(by omega)) (List.mem_iff_getElem.mpr ⟨i, by rw [List.length_zip]; omega, by rw [List.getElem_zip]⟩)
  rw [key]
  decide
theorem paired_setAt {α β : Type} {R : α → β → Prop} {xs : List α} {zs : List β} {i : Nat} {y : α} {z : β} (h : Paired R xs zs) (hy : R y z) : Paired R (setAt xs i y) (setAt zs i z) := by
  have t : ∀ {i : Nat} {xs : List α} {zs : List β}, Paired R xs zs → Paired R (xs.take i) (zs.take i) := fun {i} => by
    induction i with
    | zero => intro xs zs _; exact .nil
    | succ i ih =>
      intro xs zs h
      cases h with
      | nil => exact .nil
      | cons h q => exact .cons h (ih q)
  have d : ∀ {i : Nat} {xs : List α} {zs : List β}, Paired R xs zs → Paired R (xs.drop i) (zs.drop i) := fun {i} => by
    induction i with
    | zero => intro xs zs h; exact h
    | succ i ih =>
      intro xs zs h
      cases h with
      | nil => exact .nil
      | cons h q => exact ih q
  exact paired_app (t h) (.cons hy (d h))
end LP
namespace LP
open PySem L2
/-! ### an instance of an own class ==, != whatever stands on the right -/
def TyAtW (K : PySem.W.Frag) (C : Addr) (H : Hp) (y : V) (tb : Value) : Prop := TyAt K C H y tb ∨ (∃ b kvs, y = .ref b ∧ H b = some (.dK kvs) ∧ tb = .type "dict") ∨ ∃ b D dx gs, y = .ref b ∧ H b = some (.ins D dx gs) ∧ tb = .ref D ∧ PySem.W.subIn K (.ref D) (.ref C) = some false
section
variable {X : Cx} {CX : CXT} {k : Nat} {C g : Addr} {sp : Sp} {E : XK} {fd : FuncData} {ps : List Str} {pins : List (Addr × Obj)} {σ : L2.St} {H : Hp} {s : Shared} {us : List Value} {vs : List V} {Q : VK} {A : Around}
theorem ty_looksW {y : V} {u tb : Value} (I : Inv X pins σ H s) (ry : RelV y u) (t : TyAtW X.K C H y tb) : PySem.W.Looks (model X.prog X.w) s.heap (typeOf u) tb ∧ PySem.W.notFirst X.K C tb = true := by
  rcases t with t | ⟨b, kvs, rfl, hb, rfl⟩ | ⟨b, D, dx, gs, rfl, hb, rfl, hs⟩
  · exact ty_looks I ry t
  · cases (show u = Value.ref b from ry)
    obtain ⟨_, yb, vb, rb, dB⟩ := (show ObjOk X.prog X.w H s.heap b (.dK kvs) from I.hok b _ hb)
    refine ⟨?_, rfl⟩
    obtain ⟨o, ho, hc⟩ := dB.typeIs
    rw [← hc]
    exact (PySem.W.Looks.ld (part := none) ho).andThen .now
  · cases (show u = Value.ref b from ry)
    obtain ⟨mB, O, _⟩ := ins_get I.hok hb
    obtain ⟨od, J, _⟩ := O.look
    refine ⟨J.type, ?_⟩
    unfold PySem.W.notFirst
    rw [hs]
    simp
def rOwnEqW (C : Addr) (neg : Bool) (sp : Sp) (E : XK) (K : PySem.W.Frag) : R2 := fun x y H Q => ∃ a dx fs tb, x = .ref a ∧ H a = some (.ins C dx fs) ∧ TyAtW K C H y tb ∧ sp [x, y] H (fun v H' => ∃ b, v = .bl b ∧ Q (.bl (if neg then !b else b)) H') E
theorem op_own_eqW (hm : Meth X.K C "__eq__" g) (F : FnOk X.prog X.w X.K X.mg X.base CX k g fd ps sp) (hr : Room k X.A) (hb : Binds X.K fd ps []) (hx : Passes CX X E) : OpR X (compareOp .Eq) (rOwnEqW C false sp E X.K) := by
  intro pins s σ H x y v u Q I rx ry ⟨a, dx, fs, tb, ex, e, t, q⟩
  subst ex
  cases (show v =
          Value.ref a from rx)
  obtain ⟨mA, O, _⟩ := ins_get I.hok e
  obtain ⟨od, J, _⟩ := O.look
  obtain ⟨lt, nf⟩ := ty_looksW I ry t
  obtain ⟨m, hF⟩ := I.fr
  refine PySem.W.cmp_K (op := .Eq) hr.units0 hF I.ok.mod.kin J lt nf hm.at_ hm.fn (wpAny_mono (run_in (us := [.ref a, u]) (vs := [.ref a, y]) ⟨hr, rfl⟩ F hb hx I (.cons rfl (.cons ry .nil)) q) (fun r s1 z => ?_) fun _ _ z => z)
  obtain ⟨z, H1, I1, rz, b, ez, q1⟩ := z
  subst ez
  cases (show r = Value.bool b from rz)
  exact ⟨.bl b, H1, I1, rfl, q1⟩
end
section
variable {X : Cx} {k j : Nat} {C : Addr} {sp : Sp}
theorem op_eqMW {K : PySem.W.Frag} (hK : X.K = K) (c : C8.Met X.prog X.w X.K X.mg X.base k C "__eq__" sp []) (hr : Room j X.A) (hk : k ≤ j) : OpR X (compareOp .Eq) (rOwnEqW C false sp C8.E0 K) := by
  subst hK
  obtain ⟨f, fd, ps, ds, _, hm, F, b, d⟩ := c.ex
  cases d
  exact op_own_eqW hm F (hr.mono hk) b C8.pass0
end
end LP
namespace LP
open PySem L2
open Evl (Ex)
/-! ### a class made with defaults -/
structure MakXD (P : Program) (w : World) (K : PySem.W.Frag) (mg : Str → Option Value) (base : Heap) (k : Nat) (x : Str) (C : Addr) (sp : Sp) (dvs : List V) : Prop where
  ex : ∃ (f : Addr) (fd : FuncData) (ps : List Str) (ds : List Value), Mk K C f ∧ FnOk P w K mg base (L2.CX P w) k f fd ps sp ∧ mg x = some (.ref C) ∧ Binds K fd ps ds ∧ Vals dvs ds
section
variable {X : Cx} {k j : Nat} {x : Str} {C : Addr} {sp : Sp} {E : XK} {e : Expr} {es : List Expr} {p pos : Pos} {t : TA} {dvs : List V}
theorem pe_mkxd (c : MakXD X.prog X.w X.K X.mg X.base k x C sp dvs) (hr : Room j X.A) (hk : k + 1 ≤ j) (hx : Passes (L2.CX X.prog X.w) X E) (hg : Gl X x) (ha : PA X (e :: es) t)
    (hdb :
            (x == ("__debug__" : Str)) = false := by decide) (he : starEach (e :: es) X.env = (false, eval e X.env) :: starEach es X.env := by rfl) (hpl : (backTo pos (starEach es X.env)).any (·.1) = false := by rfl) :
    PE X (.Call
            (.Name x p) (e :: es) [] pos) (tMake C sp dvs E t) := by
  obtain ⟨f,
          fd, ps, ds, M, F, hm, b, d⟩ := c.ex
  exact pe_make M F (hr.mono hk) hg hm b d hx ha hdb he hpl
end
/-! ### list(dict) -/
def rListD7 : List V → Hp → VK → Prop := fun xs H Q => ∃ (a : Addr) (kvs : List (Key × V)), xs = [.ref a] ∧ Rd H a (.dK kvs) ∧ ∀ p, H p = none → Q (.ref p) (upd H p (.lst (kvs.map fun kv => kV kv.1)))
theorem call_listD7 {X : Cx} (hc : X.calm = true) : CallR X (.type "list") rListD7 := call_listD hc
theorem w_listD7 {H : Hp} {Q : VK} {a : Addr} {kvs : List (Key × V)} (h : H a = some (.dK kvs)) (q : ∀ p, H p = none → Q (.ref p) (upd H p (.lst (kvs.map fun kv => kV kv.1)))) : rListD7 [.ref a] H Q := ⟨a, kvs, rfl, .inl h, q⟩
/-! ### what is passed as rows -/
def RowsSz (rs : RowsD) : Prop := ∀ r ∈ rs, ∀ row ∈ r.2, ∀ x ∈ row, flatD x = true ∧ ∀ z, x = .str z → z.length ≤ 4000
theorem fit_str {rs : RowsD} {c : Col} {z : Str} (h : fitD rs c (.str z) = true) : z.length ≤ 4000 := by
  cases c with
  | plain f n => cases f <;> cases h
  | word n o => exact Nat.le_trans ((wordB_iff z).1 h).2.1 (by decide)
  | link n t o l => cases h
theorem row_sz {rs : RowsD} {cs : List Col} {r : List PyData} (h : rowF rs cs (.tuple r) = none) : ∀ x ∈ r, flatD x = true ∧ ∀ z, x = .str z → z.length ≤ 4000 := by
  have fl := row_flat h
  obtain ⟨r', e, l, hf⟩ := row_fits h
  cases e
  refine fun x hx => ⟨fl x hx, fun z ez => ?_⟩
  obtain ⟨i, hi, rfl⟩ := List.mem_iff_getElem.mp hx
  have := hf (cs[i]'(by omega), r[i]) (List.mem_iff_getElem.mpr ⟨i, by rw [List.length_zip]; omega, by rw [List.getElem_zip]⟩)
  have this : fitD rs (cs[i]'(by omega)) r[i] = true := this
  rw [ez] at this
  exact fit_str this
theorem fill_sz {ts : Tabs} {rs : RowsD} (g : GoodTabs ts) (f : Fill ts rs) : RowsSz rs := fun r hr row hrow => by
  obtain ⟨t, ht, e, e2⟩ := fill_in g f r hr
  exact row_sz (fill_at f g t ht row (by rw [e2]; exact hrow))
def givD (rs : RowsD) : List (Str × List PyData) := rs.map fun r => (r.1, r.2.map PyData.tuple)
theorem giv_ent {K : PySem.W.Frag} {H : Hp} {kv : Key × V} {r : Str × List (List PyData)} (h : RowsEnt K H kv r) (s : ∀ row ∈ r.2, ∀ x ∈ row, flatD x = true ∧ ∀ z, x = .str z → z.length ≤ 4000) : GivEnt K H kv (r.1, r.2.map PyData.tuple) := by
  obtain ⟨e1, l, vs, e2, hl, hv⟩ := h
  refine ⟨e1, l, vs, e2, SqL.of hl, ?_⟩
  have z : ∀ {vs : List V} {rows : List (List PyData)}, Paired (RowAt K H) vs rows → (∀ row ∈ rows, ∀ x ∈ row, flatD x = true ∧ ∀ z, x = .str z → z.length ≤ 4000) → Paired (fun v d => Dp K H v d ∧ SzD d) vs (rows.map PyData.tuple) := fun {vs rows} h => by
    induction h with
    | nil => exact fun _ => .nil
    | @cons v row vs rows h _ ih =>
      intro s
      obtain ⟨a, rfl, ha⟩ := h
      refine .cons ⟨.tup ha (dp_cells fun x hx => (s row List.mem_cons_self x hx).1), fun xs e y hy x ex => ?_⟩ (ih fun r hr => s r (List.mem_cons_of_mem _ hr))
      cases e
      exact (s row List.mem_cons_self y hy).2 x ex
  exact z hv s
theorem giv_rows {K : PySem.W.Frag} {H : Hp} {q : Addr} {rs : RowsD} (h : RowsAt K H q rs) (s : RowsSz rs) : GivenAt K H (.ref q) (givD rs) := by
  obtain ⟨kvs, hq, hk⟩ := h
  refine .inr ⟨q, kvs, rfl, hq, ?_⟩
  have z : ∀ {kvs : List (Key × V)} {rs : RowsD}, Paired (RowsEnt K H) kvs rs → RowsSz rs → Paired (GivEnt K H) kvs (givD rs) := fun {kvs rs} h => by
    induction h with
    | nil => exact fun _ => .nil
    | cons h _ ih => exact fun s => .cons (giv_ent h (s _ List.mem_cons_self)) (ih fun r hr => s r (List.mem_cons_of_mem _ hr))
  exact z hk s
theorem giv_look {rs : RowsD} (nd : (rs.map (·.1)).Nodup) : ∀ r ∈ rs, ((givD rs).lookup r.1).getD [] = r.2.map PyData.tuple := by
  have z : ∀ (rs : RowsD) (n : Str), (givD rs).lookup n = (rs.lookup n).map fun x => x.map PyData.tuple := fun rs n => by
    induction rs with
    | nil => rfl
    | cons q rs ih =>
      show List.lookup n ((q.1, q.2.map PyData.tuple) :: givD rs) = _
      rw [List.lookup_cons, List.lookup_cons]
      split
      · rfl
      · exact ih
  intro r hr
  rw [z, look_own nd r hr]
  rfl
theorem giv_few {rs : RowsD} {k : Nat} (h : ∀ r ∈ rs, r.2.length ≤ k) (lk : k ≤ 10000) : ∀ g ∈ givD rs, g.2.length ≤ 10000 := fun g hg => by
  obtain ⟨r, hr, rfl⟩ := List.mem_map.mp hg
  show (r.2.map PyData.tuple).length ≤ 10000
  rw [List.length_map]
  exact Nat.le_trans (h r hr) lk
/-! ### a store made: its own lists are new -/
def StoreN (K : PySem.W.Frag) (CS C : Addr) (H0 H : Hp) (p sch : Addr) (u : Str) (ts : Tabs) (rs : RowsD) : Prop := ∃ (dr : Addr) (kvs : List (Key × V)), StP K CS H p sch dr kvs rs ∧ SchAt C H0 sch u ts ∧ rs.map (·.1) = ts.map (·.1) ∧ H0 p = none ∧ H0 dr = none ∧ ∀ kv ∈ kvs, ∀ l, kv.2 = V.ref l → H0 l = none
theorem StoreN.at {K : PySem.W.Frag} {CS C : Addr} {H0 H : Hp} {p sch : Addr} {u : Str} {ts : Tabs} {rs : RowsD} (h : StoreN K CS C H0 H p sch u ts rs) (e : Ex H0 H) : StoreAt K CS C H p u ts rs := by
  obtain ⟨dr, kvs, hP, hS, nm, _⟩ := h
  exact ⟨⟨sch, dr, kvs, hP, hS.ext e⟩, nm⟩
theorem mk_store {K : PySem.W.Frag} {CS CB C : Addr} {H : Hp} {Q : Hp → Prop} {E : XK} {sch x dx : Addr} {gv : V} {given : List (Str × List PyData)} {u : Str} {ts : Tabs} {rs : RowsD} (hS : SchAt C H sch u ts) (hG : GoodTabs ts) (lt : ts.length ≤ 100) (hgv : GivenAt K H gv given) (lg : ∀ g ∈ given, g.2.length ≤ 10000)
    (hst : storeF given [] ts = .inr rs) (nm : rs.map (·.1) = ts.map (·.1)) (k : ∀ H', Ex H H' → StoreN K CS C H H' x sch u ts rs → Q H') (hx : H x = none) (hdx : H dx = none) (nd : dx ≠ x) :
    spStore K CS CB C [.ref x, .ref sch, gv] (upd (upd H dx (.own x)) x (.ins CS dx [])) (fun v H2 => v = .non ∧ Q H2) E := by
  have eD : Ex H (del x (upd (upd H dx (.own x)) x (.ins CS dx []))) := fun a o h => by
    have ax : a ≠ x := ne_of_none h hx
    rw [del_ne ax, upd_ne ax, upd_ne (ne_of_none h hdx)]
    exact h
  refine ⟨x, sch, dx, gv, given, u, ts, rfl, upd_same, hS.ext eD, hG, lt, ?_, lg, fun rs' e dr kvs H' e' hP hdr fr => ?_, fun t k o e => ?_⟩
  · rcases hgv with ⟨a, b⟩ | ⟨g, gk, a, b, c⟩
    · exact .inl ⟨a, b⟩
    · exact .inr ⟨g, gk, a, eD _ _ b, paired_imp (fun _ _ h => h.ext eD) c⟩
  · rw [hst] at e
    cases e
    have no : ∀ a, del x (upd (upd H dx (.own x)) x (.ins CS dx [])) a = none → H a = none := fun a z => by
      cases y : H a with
      | none => rfl
      | some o => rw [eD _ _ y] at z; cases z
    exact ⟨rfl, k H' (eD.trans e') ⟨dr, kvs, hP, hS, nm, hx, no dr hdr, fun kv hkv l el => no l (fr kv hkv l el)⟩⟩
  · rw [hst] at e
    cases e
/-- a heap without some lists -/
def delS (G : Addr → Bool) (H : Hp) : Hp := fun a => if G a = true then none else H a
theorem delS_ne {G : Addr → Bool} {H : Hp} {a : Addr} (h : G a = false) : delS G H a = H a := by unfold delS; rw [h]; rfl
theorem ex_delS {G : Addr → Bool} {H : Hp} : Ex (delS G H) H := fun a o h => by
  unfold delS at h
  split at h
  · cases h
  · exact h
theorem ex_inS {G : Addr → Bool} {H0 H : Hp} (e : Ex H0 H) (h : ∀ a, G a = true → H0 a = none) : Ex H0 (delS G H) := fun a o ha => by
  cases z : G a with
  | true => rw [h a z] at ha; cases ha
  | false => rw [delS_ne z]; exact e _ _ ha
theorem StoreN.keep {K : PySem.W.Frag} {CS C : Addr} {H0 H : Hp} {G : Addr → Bool} {p sch : Addr} {u : Str} {ts : Tabs} {rs : RowsD} (h : StoreN K CS C H0 H p sch u ts rs) (g : ∀ a, G a = true → H0 a ≠ none ∧ ∃ xs, H a = some (.lst xs)) (hS : SchAt C (delS G H) sch u ts) : StoreAt K CS C (delS G H) p u ts rs := by
  obtain ⟨dr, kvs, ⟨⟨dx, fs, hp, hf⟩, hd, hr⟩, hS0, nm, np, nr, fr⟩ := h
  have out : ∀ a, H0 a = none → G a = false := fun a z => by
    cases y : G a with
    | true => exact absurd z (g a y).1
    | false => rfl
  have tup : ∀ {a : Addr} {xs : List V}, SqT K H a xs → SqT K (delS G H) a xs := fun {a xs} h => by
    have ng : ∀ o, H a = some o → (∀ ys, o ≠ .lst ys) → G a = false := fun o ho hn => by
      cases y : G a with
      | true =>
        obtain ⟨_, ys, z⟩ := g a y
        rw [ho] at z
        cases z
        exact absurd rfl (hn ys)
      | false => rfl
    rcases h with
            (h | ⟨o, h⟩) | h
    · exact .inl (.inl (by rw [delS_ne (ng _ h (by intro ys z; cases z))]; exact h))
    · exact .inl (.inr ⟨o, by rw [delS_ne (ng _ h (by intro ys z; cases z))]; exact h⟩)
    · exact .inr h
  refine ⟨⟨sch, dr, kvs, ⟨⟨dx, fs, by rw [delS_ne (out p np)]; exact hp, hf⟩, by rw [delS_ne (out dr nr)]; exact hd, ?_⟩, hS⟩, nm⟩
  have z : ∀ {kvs : List (Key × V)} {rs : RowsD}, Paired (RowsEnt K H) kvs rs → (∀ kv ∈ kvs, ∀ l, kv.2 = V.ref l → H0 l = none) → Paired (RowsEnt K (delS G H)) kvs rs := fun {kvs rs} h => by
    induction h with
    | nil => exact fun _ => .nil
    | @cons kv r kvs rs h _ ih =>
      intro f
      obtain ⟨e1, l, vs, e2, hl, hv⟩ := h
      refine .cons ⟨e1, l, vs, e2, by rw [delS_ne (out l (f kv List.mem_cons_self l e2))]; exact hl, paired_imp (fun _ _ ⟨a, ea, ha⟩ => ⟨a, ea, tup ha⟩) hv⟩ (ih fun q hq => f q (List.mem_cons_of_mem _ hq))
  exact z hr fr
end LP
namespace LP
open PySem L2
open Evl (Ex)
/-! ### other rows, drawn -/
def spOther (K : PySem.W.Frag) : Sp := fun vs H Q _ => ∃ (b p q wa : Addr) (n : Nat) (ts : Tabs) (rs : RowsD) (ws : List Str), vs = [.ref b, .ref p, .ref q, .ref wa] ∧ BagAt H b n ∧ n < 70000000 ∧ TabsR K (del b H) p ts ∧ GoodTabs ts ∧ ts ≠ [] ∧ ts.length ≤ 20 ∧ RowsAt K (del b H) q rs ∧ Fill ts rs ∧ (∀ r ∈ rs, r.2.length ≤ 100) ∧ SqL K (del b H) wa (ws.map V.str) ∧ ws ≠ [] ∧ ws.length ≤ 1000 ∧ (∀ x ∈ ws, wordB x = true) ∧
  (∀ H', BagAt H' b (n + 10) → Ex (del b H) H' → Q .non H') ∧
  ∀ (o : Addr) (rs' : RowsD) (H' : Hp), Fill ts rs' → (∀ r ∈ rs', r.2.length ≤ 100) → eqMapD (dataS rs) (dataS rs') = false → eqMapD (dataS rs') (dataS rs) = false → RowsAt K (del b H') o rs' → BagAt H' b (n + 10) → Ex (del b H) H' → Q (.ref o) H'
theorem nodup_fst {ts : Tabs} (nd : (ts.map (·.1)).Nodup) {t t' : Str × List Col} (h : t ∈ ts) (h' : t' ∈ ts) (e : t.1 = t'.1) : t = t' := by
  induction ts with
  | nil => cases h
  | cons x ts ih =>
    rw [List.map_cons,
            List.nodup_cons] at nd
    rcases List.mem_cons.1 h with e1 | h1
    · rcases List.mem_cons.1 h' with e2 | h2
      · rw [e1, e2]
      · exact absurd (show x.1 ∈ ts.map (·.1) from List.mem_map.mpr ⟨t', h2, by rw [← e, e1]⟩) nd.1
    · rcases List.mem_cons.1 h' with e2 | h2
      · exact absurd (show x.1 ∈ ts.map (·.1) from List.mem_map.mpr ⟨t, h1, by rw [e, e2]⟩) nd.1
      · exact ih nd.2 h1 h2
theorem sqT_bag {K : PySem.W.Frag} {H : Hp} {b a : Addr} {n : Nat} {xs : List V} (hB : BagAt H b n) (h : SqT K H a xs) : SqT K (del b H) a xs := by
  obtain ⟨_, _, _, hb, _⟩ := hB.ex
  rcases h with
          (h | ⟨o, h⟩) | h
  · exact .inl (.inl (by rw [del_ne (ne_of h hb (by intro z; cases z))]; exact h))
  · exact .inl (.inr ⟨o, by rw [del_ne (ne_of h hb (by intro z; cases z))]; exact h⟩)
  · exact .inr h
section
variable {base : Heap} {mg : Str → Option Value} {K : PySem.W.Frag} {w : World} {P : Program}
theorem ok_other {f : Addr} {fd : FuncData} (D : C8.Def K mg "_law_other" s__law_other f fd) (b : Binds K fd ["bag", "tables", "rows", "words"] []) (B : Blt mg) (c__law_take : C8.Cal P w K mg base 1 "_law_take" spTake []) (c__law_of : C8.Cal P w K mg base 2 "_law_of" (spOf K) [])
    (c__law_draw_cell : C8.Cal P w K mg base 3 "_law_draw_cell" (spDrawCell K) []) :
    C8.Cal P w K mg base 4 "_law_other" (spOther K) [] := by
  have sc : FnScope ["bag", "tables", "rows", "words", "name", "columns", "many", "found", "one", "at", "place", "old", "new"] ["bag", "tables", "rows", "words"] (C8.fnScope s__law_other) := C8.fnScope_by (by decide +kernel)
  refine C8.cal0 D b .nil sc (fun vs H Q E h => ?_) (fun cdv A outer s H vs Q E hr h => ?_)
  · obtain ⟨_, _, _, _, _, _, _, _, rfl, _⟩ := h
    rfl
  · obtain ⟨b, p, q, wa, n, ts, rs, ws, rfl, hB, hn, ⟨tvs, hx, htv⟩, hG, tne, lt, ⟨qkvs, hq, hqk⟩, hF, lrs, hwa, wne, wl, wok, kN, kO⟩ := h
    refine ⟨_, (pss_cons (ps_asg (C8.pe_c c__law_of hr (by decide) rfl (pa_cons (pv 0) (pa_cons (pv 1) pa_nil))) (pg_tupK (K := K) (n := 2) rfl rfl (pgs_cons (pg_name (i := 4) sc.nd rfl (Or.inl rfl)) (pgs_cons (pg_name (i := 5) sc.nd rfl (Or.inl rfl)) pgs_nil))))
        (pss_cons (ps_if (PW.pt (pw_or (pt_cmpR (op_eqEK (K := K) rfl (hu_lt7 hr)) (pe_dget (hu_of hr) (pv 2) (pv 4) (fun _ _ => rfl)) (pe_lst pa_nil) (nomark _)) (pw_or1 (pt_cmpR (op_eqEK (K := K) rfl (hu_lt7 hr)) (pv 5) (pe_lst pa_nil) (nomark _)))))
        (pss_one (ps_ret pe_non))
        pss_nil)
        (pss_cons (ps_par (i := 6) (j := 7) (by rfl) sc.nd rfl rfl (by decide) rfl rfl (pa_cons pe_dnewK (pa_cons pe_dnewK pa_nil)) (by rfl))
        (pss_cons (ps_for PassesOwn.never rfl (pi_listK (K := K) rfl (pv 1)) (pg_name (i := 8) sc.nd rfl (Or.inl rfl))
        (pss_cons (ps_dput (hu_of hr) (pv 6) (pe_ix (ix_tupK (K := K) rfl) (pv 8) pe_int (fun _ _ => rfl)) (pe_callB (call_len_seqK (K := K) rfl) (by rfl) B.len_ (by decide +kernel) (pa_cons (pe_dget (hu_of hr) (pv 2) (pe_ix (ix_tupK (K := K) rfl) (pv 8) pe_int (fun _ _ => rfl)) (fun _ _ => rfl)) pa_nil)) rfl)
        (pss_one (ps_dput (hu_of hr) (pv 7) (pe_ix (ix_tupK (K := K) rfl) (pv 8) pe_int (fun _ _ => rfl)) (pe_callTy (call_list_ofK (K := K) rfl) (by rfl) B.list_ (by decide +kernel) (pa_cons (pe_dget (hu_of hr) (pv 2) (pe_ix (ix_tupK (K := K) rfl) (pv 8) pe_int (fun _ _ => rfl)) (fun _ _ => rfl)) pa_nil)) rfl))))
        (pss_cons (ps_par (i := 9) (j := 10) (by rfl) sc.nd rfl rfl (by decide) rfl rfl (pa_cons (C8.pe_c c__law_take hr (by decide) rfl (pa_cons (pv 0) (pa_cons (pe_callB (call_len_seqK (K := K) rfl) (by rfl) B.len_ (by decide +kernel) (pa_cons (pe_dget (hu_of hr) (pv 2) (pv 4) (fun _ _ => rfl)) pa_nil)) pa_nil))) (pa_cons (C8.pe_c c__law_take hr (by decide) rfl (pa_cons (pv 0) (pa_cons (pe_callB (call_len_seqK (K := K) rfl) (by rfl) B.len_ (by decide +kernel) (pa_cons (pv 5) pa_nil)) pa_nil))) pa_nil)) (by rfl))
        (pss_cons (ps_set (i := 11) sc.nd rfl (Or.inl rfl) (pe_ix (ix_listK (K := K) rfl) (pe_dget (hu_of hr) (pv 2) (pv 4) (fun _ _ => rfl)) (pv 9) (fun _ _ => rfl)))
        (pss_cons (ps_set (i := 12) sc.nd rfl (Or.inl rfl) (pe_op (op_catAK (K := K) rfl) (pe_op (op_catAK (K := K) rfl) ((pe_slice (sl_tupAK (K := K) rfl) (pv 11) po_none (po_some (pv 10)))) (pe_tup (pa_cons (C8.pe_c c__law_draw_cell hr (by decide) rfl (pa_cons (pv 0) (pa_cons (pe_ix (ix_listK (K := K) rfl) (pv 5) (pv 10) (fun _ _ => rfl)) (pa_cons (pv 6) (pa_cons (pv 3) pa_nil))))) pa_nil))) ((pe_slice (sl_tupAK (K := K) rfl) (pv 11) (po_some (pe_op op_add (pv 10) pe_int)) po_none))))
        (pss_cons (ps_dput (hu_of hr) (pv 7) (pv 4) (pe_op op_cat (pe_op op_cat ((pe_slice (sl_listK (K := K) rfl) (pe_dget (hu_of hr) (pv 2) (pv 4) (fun _ _ => rfl)) po_none (po_some (pv 9)))) (pe_lst (pa_cons (pv 12) pa_nil))) ((pe_slice (sl_listK (K := K) rfl) (pe_dget (hu_of hr) (pv 2) (pv 4) (fun _ _ => rfl)) (po_some (pe_op op_add (pv 9) pe_int)) po_none))) rfl)
        (pss_one (ps_ret (pe_ifExp (pt_cmpR (op_eqDK (K := K) rfl (hu64 hr)) (pv 12) (pv 11) (nomark _)) pe_non (pv 7)))))))))))), ?_⟩
    have ltv := paired_len htv
    have vne : tvs ≠ [] := fun e => tne (by rw [e] at htv; cases htv; rfl)
    walk_at "w"
    refine ⟨b, p, tvs, n, rfl, hB, by omega, hx, vne, by omega, fun v H1 hv hB1 e1 => ?_⟩
    obtain ⟨t, tin, ya, cl, rfl, hya, cvs, hcl, hcv⟩ := paired_mem htv v hv
    have hya1 := e1 _ _ hya
    have nm := hF.names
    have geq : ∀ t ∈ ts, ∃ ql qvs, valV qkvs (Sum.inr t.1 : Key) = some (.ref ql) ∧ (del b H) ql = some (.lst qvs) ∧ Paired (RowAt K (del b H)) qvs (rowsD rs (.str t.1)) := fun t ht => by
      obtain ⟨_, en, hlr⟩ := tab_rows nm (show tabD ts (.str t.1) = true from decide_eq_true (List.mem_map.mpr ⟨t, ht, rfl⟩))
      cases en
      exact ent_get hqk hlr
    obtain ⟨ql, qvs, q1, q2, q3⟩ := geq t tin
    have lq := paired_len q3
    have lcv := paired_len hcv
    walk_at "w"
    refine ⟨q, .ref ql, rfl, q1 ▸ DGet.k (k := Sum.inr t.1) (e1 _ _ hq), ?_⟩
    walk_at "w"
    intro L1 hL1
    have e2 : Ex (del b H) (upd H1 L1 (.lst [])) := e1.trans (Ex.new hL1)
    have hB2 : BagAt (upd H1 L1 (.lst [])) b (n + 1) := hB1.new hL1
    have f2 : (upd H1 L1 (.lst [])) L1 = some (.lst []) := upd_same
    generalize (upd H1 L1 (.lst [])) = H2 at e2 hB2 f2 ⊢
    refine w_eqE (SqL.of (e2 _ _ q2)) (SqL.of f2) ?_
    cases hqe : qvs.isEmpty with
    | true =>
      refine ⟨true, rfl, iteT ?_⟩
      walk_at "w"
      exact kN _ (hB2.mono (by omega)) e2
    | false =>
    refine ⟨false, rfl, iteF ?_⟩
    walk_at "w"
    intro L2 hL2
    have e3 : Ex (del b H) (upd H2 L2 (.lst [])) := e2.trans (Ex.new hL2)
    have hB3 : BagAt (upd H2 L2 (.lst [])) b (n + 1) := hB2.new hL2
    have f3 : (upd H2 L2 (.lst [])) L2 = some (.lst []) := upd_same
    generalize (upd H2 L2 (.lst [])) = H3 at e3 hB3 f3 ⊢
    refine w_eqE (SqL.of (e3 _ _ hcl)) (SqL.of f3) ?_
    cases hce : cvs.isEmpty with
    | true =>
      refine ⟨true, rfl, iteT ?_⟩
      walk_at "w"
      exact kN _ (hB3.mono (by omega)) e3
    | false =>
    refine ⟨false, rfl, iteF ?_⟩
    walk_at "w"
    intro d hd
    have bd : b ≠ d := hB3.ne_none hd
    have dX : (del b H) d = none := by
      cases z : (del b H) d with
      | none => rfl
      | some o => rw [e3 _ _ z] at hd; cases hd
    have e4 : Ex (del b H) (upd H3 d (.dK [])) := e3.trans (Ex.new hd)
    have hB4 : BagAt (upd H3 d (.dK [])) b (n + 1) := hB3.new hd
    have f4 : (upd H3 d (.dK [])) d = some (.dK []) := upd_same
    generalize (upd H3 d (.dK [])) = H4 at e4 hB4 f4 ⊢
    walk_at "w"
    intro c hc
    have bc : b ≠ c := hB4.ne_none hc
    have dc : d ≠ c := ne_of_none f4 hc
    have cX : (del b H) c = none := by
      cases z : (del b H) c with
      | none => rfl
      | some o => rw [e4 _ _ z] at hc; cases hc
    have e5 : Ex (del b H) (upd H4 c (.dK [])) := e4.trans (Ex.new hc)
    have hB5 : BagAt (upd H4 c (.dK [])) b (n + 1) := hB4.new hc
    have g5 : (upd H4 c (.dK [])) d = some (.dK []) := Ex.new hc _ _ f4
    have f5 : (upd H4 c (.dK [])) c = some (.dK []) := upd_same
    generalize (upd H4 c (.dK [])) = H5 at e5 hB5 g5 f5 ⊢
    walk_at "w"
    refine w_kList (Evl.ex_l e5 hx) ?_
    refine loopL (xs := tvs) (fun dn r σ' H' => ∃ td tr rd rr kvs mk x8 x9 x10 x11 x12, ts = td ++ tr ∧ TabsV (del b H) r tr ∧ rs = rd ++ rr ∧ rd.map (·.1) = td.map (·.1) ∧ BagAt H' b (n + 1) ∧ Ex (del b H) H' ∧ H' c = some (.dK kvs) ∧ Paired (RowsEnt K (del b H')) kvs rd ∧ H' d = some (.dK mk) ∧
        Paired (fun (p : Key × V) (q : Str × Nat) => p.1 = Sum.inr q.1 ∧ p.2 = V.int q.2) mk (manyOf rd) ∧ σ' = [some (.ref b), some (.ref p), some (.ref q), some (.ref wa), some (.str t.1), some (.ref cl), some (.ref d), some (.ref c), x8, x9, x10, x11, x12])
      ⟨[], ts, [], rs, [], [], _, _, _, _, _, rfl, htv, rfl, rfl, hB5, e5, f5, .nil, g5, .nil, rfl⟩ (fun dn r σ' H' _ h => ?_) (fun dn y r σ' H' hdd h => ?_) (fun σ' H' h => ?_)
    · obtain ⟨_, _, _, _, _, _, _, _, _, _, _, _, _, _, _, _, e, _⟩ := h
      exact Evl.ex_l e hx
    · obtain ⟨td, tr, rd, rr, kvs, mk, x8, x9, x10, x11, x12, ets, hr', ers, enm, hB', e, hc', hk, hd', hm, rfl⟩ := h
      obtain ⟨t0, tr, rfl, ⟨ya0, cl0, rfl, hya0, _⟩, hr2⟩ := paired_cons hr'
      have tin0 : t0 ∈ ts := by rw [ets]; simp
      obtain ⟨ql0, qvs0, u1, u2, u3⟩ := geq t0 tin0
      have lq0 := paired_len u3
      have hya' := e _ _ hya0
      have err : rr.map (·.1) = (t0 :: tr).map (·.1) := by
        have z := nm
        rw [ers, ets, List.map_append, List.map_append, enm] at z
        exact List.append_cancel_left z
      obtain ⟨r0, rr, rfl⟩ : ∃ r0 rr', rr = r0 :: rr' := by
        cases rr with
        | nil => cases err
        | cons r0 rr' => exact ⟨_, _, rfl⟩
      rw [List.map_cons, List.map_cons] at err
      injection err with er0 err
      have rin0 : r0 ∈ rs := by rw [ers]; simp
      have ro0 : rowsD rs (.str t0.1) = r0.2 := by
        show ((rs.lookup t0.1).getD []) = r0.2
        rw [← er0, look_own (by rw [nm]; exact hG.nodup) r0 rin0]
        rfl
      rw [ro0] at u3 lq0
      have l100 := lrs r0 rin0
      have nrs : t0.1 ∉ rd.map (·.1) := by
        have z := hG.nodup
        rw [ets, List.map_append, List.nodup_append] at z
        rw [enm]
        exact fun h => z.2.2 _ h _ List.mem_cons_self rfl
      have nms : t0.1 ∉ (manyOf rd).map (·.1) := by
        unfold manyOf
        rw [List.map_map]
        exact nrs
      have lkv : kvs.length ≤ 20 := by
        have a1 := paired_len hk
        have a2 := congrArg List.length enm
        have a3 := congrArg List.length ets
        rw [List.length_map, List.length_map] at a2
        rw [List.length_append] at a3
        omega
      have lmk : mk.length ≤ 20 := by
        have a1 := paired_len hm
        have a2 := congrArg List.length enm
        have a3 := congrArg List.length ets
        unfold manyOf at a1
        rw [List.length_map] at a1
        rw [List.length_map, List.length_map] at a2
        rw [List.length_append] at a3
        omega
      walk_at "w"
      refine ⟨q, .ref ql0, rfl, u1 ▸ DGet.k (k := Sum.inr t0.1) (e _ _ hq), ?_⟩
      have hql := e _ _ u2
      walk_at "w"
      rw [lq0]
      refine ⟨d, _, rfl, DPut.k (k := Sum.inr t0.1) hd' (Nat.lt_of_le_of_lt (m := 100) (by omega) (by decide)), ?_⟩
      rw [putK_new (many_none hm nms)]
      have hB6 : BagAt (upd H' d (.dK (mk ++ [(Sum.inr t0.1, .int (r0.2.length : Nat))]))) b (n + 1) := hB'.upd bd
      have e6 : Ex (del b H) (upd H' d (.dK (mk ++ [(Sum.inr t0.1, .int (r0.2.length : Nat))]))) := e.mut dX
      have c6 : (upd H' d (.dK (mk ++ [(Sum.inr t0.1, .int (r0.2.length : Nat))]))) c = some (.dK kvs) := by rw [upd_ne dc.symm]; exact hc'
      have d6 : (upd H' d (.dK (mk ++ [(Sum.inr t0.1, .int (r0.2.length : Nat))]))) d = some (.dK (mk ++ [(Sum.inr t0.1, .int (r0.2.length : Nat))])) := upd_same
      have k6 : Paired (RowsEnt K (del b (upd H' d (.dK (mk ++ [(Sum.inr t0.1, .int (r0.2.length : Nat))]))))) kvs rd := by
        rw [del_upd bd]
        exact paired_imp (fun _ _ h => h.putD (by rw [del_ne bd.symm]; exact hd')) hk
      generalize (upd H' d (.dK (mk ++ [(Sum.inr t0.1, .int (r0.2.length : Nat))]))) = H6 at hB6 e6 c6 d6 k6 ⊢
      have hya6 := e6 _ _ hya0
      walk_at "w"
      refine ⟨q, .ref ql0, rfl, u1 ▸ DGet.k (k := Sum.inr t0.1) (e6 _ _ hq), ?_⟩
      walk_at "w"
      refine w_listL (SqL.of (e6 _ _ u2)) fun L hL => ?_
      have Lb : L ≠ b := (hB6.ne_none hL).symm
      have Lc : L ≠ c := (ne_of_none c6 hL).symm
      have x7 := Ex.new (o := .lst qvs0) hL
      have hB7 : BagAt (upd H6 L (.lst qvs0)) b (n + 1) := hB6.new hL
      have e7 : Ex (del b H) (upd H6 L (.lst qvs0)) := e6.trans x7
      have c7 := x7 _ _ c6
      have d7 := x7 _ _ d6
      have L7 : (upd H6 L (.lst qvs0)) L = some (.lst qvs0) := upd_same
      have k7 : Paired (RowsEnt K (del b (upd H6 L (.lst qvs0)))) kvs rd := by
        rw [del_upd Lb.symm]
        exact paired_imp (fun _ _ h => h.ext (Ex.new (by rw [del_ne Lb]; exact hL))) k6
      generalize (upd H6 L (.lst qvs0)) = H7 at hB7 e7 c7 d7 L7 k7 ⊢
      have hya7 := e7 _ _ hya0
      walk_at "w"
      refine ⟨c, _, rfl, DPut.k (k := Sum.inr t0.1) c7 (Nat.lt_of_le_of_lt (m := 100) (by omega) (by decide)), ?_⟩
      rw [putK_new (rent_none k7 nrs)]
      have cb7 : (del b H7) c = some (.dK kvs) := by rw [del_ne bc.symm]; exact c7
      have u7 : Paired (RowAt K (del b H7)) qvs0 r0.2 := paired_imp (fun _ _ h => h.ext (ex_dd e7)) u3
      refine ⟨td ++ [t0], tr, rd ++ [r0], rr, kvs ++ [(Sum.inr t0.1, .ref L)], mk ++ [(Sum.inr t0.1, .int (r0.2.length : Nat))], _, _, _, _, _, by rw [ets, List.append_assoc]; rfl, hr2, by rw [ers, List.append_assoc]; rfl, by rw [List.map_append, List.map_append, enm]; show _ ++ [r0.1] = _ ++ [t0.1]; rw [er0], hB7.upd bc, e7.mut cX, upd_same, ?_, by rw [upd_ne dc]; exact d7, ?_, rfl⟩
      · rw [del_upd bc]
        exact paired_app (paired_imp (fun _ _ h => h.putD cb7) k7) (.cons ⟨by rw [er0], L, qvs0, rfl, by rw [upd_ne Lc, del_ne Lb]; exact L7, paired_imp (fun _ _ h => h.putD cb7) u7⟩ .nil)
      · have : manyOf (rd ++ [r0]) = manyOf rd ++ [(t0.1, r0.2.length)] := by
          unfold manyOf
          rw [List.map_append, ← er0]
          rfl
        rw [this]
        exact paired_app hm (.cons ⟨rfl, rfl⟩ .nil)
    · obtain ⟨td, tr, rd, rr, kvs, mk, x8, x9, x10, x11, x12, ets, hr', ers, enm, hB', e, hc', hk, hd', hm, rfl⟩ := h
      have etr : tr = [] := by cases hr'; rfl
      subst etr
      rw [List.append_nil] at ets
      subst ets
      have err : rr = [] := by
        have z := nm
        rw [ers, List.map_append, enm] at z
        have z := congrArg List.length z
        rw [List.length_append, List.length_map, List.length_map] at z
        exact List.eq_nil_of_length_eq_zero (by omega)
      subst err
      rw [List.append_nil] at ers
      subst ers
      have qpos : 0 < qvs.length := by cases qvs with | nil => cases hqe | cons _ _ => simp
      have cpos : 0 < cvs.length := by cases cvs with | nil => cases hce | cons _ _ => simp
      have rl100 : (rowsD rs (.str t.1)).length ≤ 100 := cnt_le lrs
      have cl6 := hG.cols t tin
      walk_at "w"
      refine ⟨q, .ref ql, rfl, q1 ▸ DGet.k (k := Sum.inr t.1) (e _ _ hq), ?_⟩
      have hql := e _ _ q2
      walk_at "w"
      refine ⟨b, qvs.length, _, rfl, hB', by omega, by omega, by omega, fun z H8 z0 z1 hB8 e8 => ?_⟩
      obtain ⟨i, rfl⟩ : ∃ i : Nat, z = (i : Int) := ⟨z.toNat, by omega⟩
      have hcl8 := e8 _ _ (ex_dd e _ _ hcl)
      walk_at "w"
      refine ⟨b, cvs.length, _, rfl, hB8, by omega, by omega, by omega, fun z2 H9 y0 y1 hB9 e9 => ?_⟩
      obtain ⟨j, rfl⟩ : ∃ j : Nat, z2 = (j : Int) := ⟨z2.toNat, by omega⟩
      have e89 := ex_dtrans e8 e9
      have e09 := ex_dtrans e e89
      walk_at "w"
      refine ⟨q, .ref ql, rfl, q1 ▸ DGet.k (k := Sum.inr t.1) (e09 _ _ hq), ?_⟩
      have hqi : qvs[i]? = some (qvs[i]'(by omega)) := List.getElem?_eq_getElem _
      obtain ⟨r0, hr0, ra, era, hra⟩ := paired_ix q3 hqi
      rw [era] at hqi
      have hcj : cvs[j]? = some (cvs[j]'(by omega)) := List.getElem?_eq_getElem _
      obtain ⟨cj, hcj0, hcol⟩ := paired_ix hcv hcj
      generalize hcvj : cvs[j]'(by omega) = cvj at hcj hcol
      have rin : r0 ∈ rowsD rs (.str t.1) := List.mem_of_getElem? hr0
      have cin : cj ∈ t.2 := List.mem_of_getElem? hcj0
      have okr := fill_at hF hG t tin r0 rin
      have lr0 := (row_all okr).1
      walk_at "w"
      refine w_ixL (SqL.of (e09 _ _ q2)) (atI_nat hqi) ?_
      walk_at "w"
      refine w_slA (Evl.ex_t e09 hra) fun R1 H10 e10 s10 => ?_
      rw [cutT7 _ _ (by rw [List.length_map]; omega)] at s10
      have hB10 := hB9.ext e10
      have e010 := e09.trans e10
      walk_at "w"
      refine w_ixL (SqL.of (e010 _ _ hcl)) (atI_nat hcj) ?_
      have hd10 : H10 d = some (.dK mk) := e10 _ _ (e89 _ _ (by rw [del_ne bd.symm]; exact hd'))
      have hc10 : H10 c = some (.dK kvs) := e10 _ _ (e89 _ _ (by rw [del_ne bc.symm]; exact hc'))
      walk_at "w"
      refine ⟨b, d, wa, cvj, cj, n + 1 + 1 + 1, manyOf rs, ws, rs, rfl, hB10, by omega, hcol.ext (ex_dd e010), ⟨mk, by rw [del_ne bd.symm]; exact hd10, hm⟩, Evl.ex_l (ex_dd e010) hwa, wne, wl, wok, fun lk => ⟨many_cnt (by rw [nm]; exact good_tgs7 hG t tin cj cin lk), fun ho => ?_, Nat.le_trans (cnt_le lrs) (by omega)⟩, fun x H11 fx hB11 e11 => ?_⟩
      · obtain ⟨r', er', l', hf'⟩ := row_fits okr
        cases er'
        obtain ⟨hjc, ecj⟩ := List.getElem?_eq_some_iff.mp hcj0
        have fits := hf' (t.2[j], r0[j]'(by omega)) (List.mem_iff_getElem.mpr ⟨j, by rw [List.length_zip]; omega, by rw [List.getElem_zip]⟩)
        have fits : fitD rs t.2[j] (r0[j]'(by omega)) = true := fits
        rw [ecj] at fits
        cases cj with
        | plain _ _ => cases lk
        | word _ _ => cases lk
        | link cn tg o l =>
          have ho : o = false := ho
          show 0 < cnt rs tg
          generalize r0[j]'(by omega) = xj at fits
          cases xj with
          | int k =>
            have fits : (decide (0 ≤ k) && decide (k < (cnt rs tg : Int))) = true := fits
            rw [Bool.and_eq_true, decide_eq_true_eq, decide_eq_true_eq] at fits
            omega
          | none =>
            have fits : o = true := fits
            rw [ho] at fits
            cases fits
          | _ => cases fits
      have s11 := Evl.ex_t e11 (sqT_bag hB10 s10)
      have e011 := ex_dtrans e010 e11
      walk_at "w"
      intro T1 hT1
      have e12 : Ex H11 (upd H11 T1 (.tup [cellV x])) := Ex.new hT1
      have s12 := Evl.ex_t e12 s11
      have t12 : SqT K (upd H11 T1 (.tup [cellV x])) T1 [cellV x] := SqT.of upd_same
      generalize (upd H11 T1 (.tup [cellV x])) = H12 at e12 s12 t12 ⊢
      have big : 1000 ≤ sizeLine := by decide
      refine w_catA s12 t12 (Nat.le_trans (m := 1000) (by rw [List.length_take, List.length_map, List.length_singleton]; omega) big) fun R2 H13 e13 s13 => ?_
      have e013 := e011.trans (e12.trans e13)
      walk_at "w"
      refine w_slA (Evl.ex_t e013 hra) fun R3 H14 e14 s14 => ?_
      rw [show ((j : Int) + 1) = ((j + 1 : Nat) : Int) by omega, cutD7 _ _ (by rw [List.length_map]; omega)] at s14
      refine w_catA (Evl.ex_t e14 s13) s14 (Nat.le_trans (m := 1000) (by rw [List.length_append, List.length_take, List.length_drop, List.length_map, List.length_singleton]; omega) big) fun R4 H15 e15 s15 => ?_
      have es : (r0.map cellV).take j ++ [cellV x] ++ (r0.map cellV).drop (j + 1) = (setAt r0 j x).map cellV := by
        rw [setAt_map]
        unfold setAt
        rw [List.append_assoc]
        rfl
      rw [es] at s15
      have hB15 := ((hB11.ext e12).ext e13).ext (e14.trans e15)
      have e015 := e013.trans (e14.trans e15)
      have c15 : H15 c = some (.dK kvs) := e15 _ _ (e14 _ _ (e13 _ _ (e12 _ _ (e11 _ _ (by rw [del_ne bc.symm]; exact hc10)))))
      have k15 : Paired (RowsEnt K (del b H15)) kvs rs := by
        refine paired_imp (fun _ _ h => h.ext ?_) hk
        exact ex_dd (e89.trans (e10.trans (Ex.refl _)) |> fun z => ex_dtrans z (e11.trans (e12.trans (e13.trans (e14.trans e15)))))
      walk_at "w"
      refine ⟨q, .ref ql, rfl, q1 ▸ DGet.k (k := Sum.inr t.1) (e015 _ _ hq), ?_⟩
      walk_at "w"
      refine w_sl7 (SqL.of (e015 _ _ q2)) fun L3 hL3 => ?_
      rw [cutT7 _ _ (by omega)]
      have x16 := Ex.new (o := .lst (qvs.take i)) hL3
      have f16 : (upd H15 L3 (.lst (qvs.take i))) L3 = some (.lst (qvs.take i)) := upd_same
      generalize (upd H15 L3 (.lst (qvs.take i))) = H16 at x16 f16 ⊢
      walk_at "w"
      intro L4 hL4
      have x17 := Ex.new (o := .lst [.ref R4]) hL4
      have f17 : (upd H16 L4 (.lst [.ref R4])) L4 = some (.lst [.ref R4]) := upd_same
      have g17 := x17 _ _ f16
      generalize (upd H16 L4 (.lst [.ref R4])) = H17 at x17 f17 g17 ⊢
      refine w_cat g17 f17 (Nat.le_trans (m := 1000) (by rw [List.length_take, List.length_singleton]; omega) big) fun L5 hL5 => ?_
      have x18 := Ex.new (o := .lst (qvs.take i ++ [.ref R4])) hL5
      have f18 : (upd H17 L5 (.lst (qvs.take i ++ [.ref R4]))) L5 = some (.lst (qvs.take i ++ [.ref R4])) := upd_same
      generalize (upd H17 L5 (.lst (qvs.take i ++ [.ref R4]))) = H18 at x18 f18 ⊢
      have x15 := x16.trans (x17.trans x18)
      walk_at "w"
      refine ⟨q, .ref ql, rfl, q1 ▸ DGet.k (k := Sum.inr t.1) ((e015.trans x15) _ _ hq), ?_⟩
      walk_at "w"
      refine w_sl7 (SqL.of ((e015.trans x15) _ _ q2)) fun L6 hL6 => ?_
      rw [show ((i : Int) + 1) = ((i + 1 : Nat) : Int) by omega, cutD7 _ _ (by omega)]
      have x19 := Ex.new (o := .lst (qvs.drop (i + 1))) hL6
      have f19 : (upd H18 L6 (.lst (qvs.drop (i + 1)))) L6 = some (.lst (qvs.drop (i + 1))) := upd_same
      have g19 := x19 _ _ f18
      generalize (upd H18 L6 (.lst (qvs.drop (i + 1)))) = H19 at x19 f19 g19 ⊢
      refine w_cat g19 f19 (Nat.le_trans (m := 1000) (by rw [List.length_append, List.length_take, List.length_drop, List.length_singleton]; omega) big) fun L7 hL7 => ?_
      rw [show qvs.take i ++ [V.ref R4] ++ qvs.drop (i + 1) = setAt qvs i (.ref R4) by unfold setAt; rw [List.append_assoc]; rfl]
      have x20 := (x15.trans x19).trans (Ex.new (o := .lst (setAt qvs i (.ref R4))) hL7)
      have f20 : (upd H19 L7 (.lst (setAt qvs i (.ref R4)))) L7 = some (.lst (setAt qvs i (.ref R4))) := upd_same
      have hB20 := hB15.ext x20
      have L7b : L7 ≠ b := ((hB15.ext (x15.trans x19)).ne_none hL7).symm
      generalize (upd H19 L7 (.lst (setAt qvs i (.ref R4)))) = H20 at x20 f20 hB20 ⊢
      have e020 := e015.trans x20
      have c20 := x20 _ _ c15
      have s20 := Evl.ex_t x20 s15
      walk_at "w"
      obtain ⟨rows, hrows⟩ : ∃ rows, rowsD rs (.str t.1) = rows := ⟨_, rfl⟩
      rw [hrows] at q3 hr0 rin rl100
      obtain ⟨nk, hnk⟩ : ∃ nk, setAt r0 j x = nk := ⟨_, rfl⟩
      rw [hnk] at s20
      have tn : t.1 ∈ rs.map (·.1) := by rw [nm]; exact List.mem_map.mpr ⟨t, tin, rfl⟩
      have okn : rowF rs t.2 (.tuple nk) = none := hnk ▸ row_setAt okr hcj0 fx
      have k20 : Paired (RowsEnt K (del b H20)) kvs rs := paired_imp (fun _ _ h => h.ext (ex_dd (ex_del.trans x20))) k15
      have cb20 : (del b H20) c = some (.dK kvs) := by rw [del_ne bc.symm]; exact c20
      refine ⟨c, _, rfl, DPut.k (k := Sum.inr t.1) c20 (Nat.lt_of_le_of_lt (m := 100) (by have a1 := paired_len hk; have a2 := congrArg List.length nm; rw [List.length_map, List.length_map] at a2; omega) (by decide)), ?_⟩
      rw [putK_old k20 tn]
      have Lc : L7 ≠ c := fun z => by rw [z, c20] at f20; cases f20
      have hB21 : BagAt (upd H20 c (.dK (kvs.map fun kv => if kv.1 = (Sum.inr t.1 : Key) then (kv.1, V.ref L7) else kv))) b (n + 10) := (hB20.upd bc).mono (by omega)
      have e021 : Ex (del b H) (upd H20 c (.dK (kvs.map fun kv => if kv.1 = (Sum.inr t.1 : Key) then (kv.1, V.ref L7) else kv))) := e020.mut cX
      have w1 : RowAt K (upd H20 c (.dK (kvs.map fun kv => if kv.1 = (Sum.inr t.1 : Key) then (kv.1, V.ref L7) else kv))) (.ref R4) nk := RowAt.putD c20 ⟨R4, rfl, s20⟩
      have w2 : RowAt K (upd H20 c (.dK (kvs.map fun kv => if kv.1 = (Sum.inr t.1 : Key) then (kv.1, V.ref L7) else kv))) (.ref ra) r0 := RowAt.putD c20 ⟨ra, rfl, Evl.ex_t e020 hra⟩
      have w3 : Paired (RowsEnt K (del b (upd H20 c (.dK (kvs.map fun kv => if kv.1 = (Sum.inr t.1 : Key) then (kv.1, V.ref L7) else kv))))) (kvs.map fun kv => if kv.1 = (Sum.inr t.1 : Key) then (kv.1, V.ref L7) else kv) (setR rs t.1 (setAt rows i nk)) := by
        rw [del_upd bc]
        refine ents_put (vs := setAt qvs i (.ref R4)) (by rw [upd_ne Lc, del_ne L7b]; exact f20) (paired_setAt (paired_imp (fun _ _ h => (h.ext (ex_dd e020)).putD cb20) q3) ?_) (paired_imp (fun _ _ h => h.putD cb20) k20)
        exact RowAt.putD cb20 ⟨R4, rfl, sqT_bag hB20 s20⟩
      have c21 : (upd H20 c (.dK (kvs.map fun kv => if kv.1 = (Sum.inr t.1 : Key) then (kv.1, V.ref L7) else kv))) c = some (.dK (kvs.map fun kv => if kv.1 = (Sum.inr t.1 : Key) then (kv.1, V.ref L7) else kv)) := upd_same
      generalize (upd H20 c (.dK (kvs.map fun kv => if kv.1 = (Sum.inr t.1 : Key) then (kv.1, V.ref L7) else kv))) = H21 at hB21 e021 w1 w2 w3 c21 ⊢
      obtain ⟨_, z1, w1⟩ := w1
      cases z1
      obtain ⟨_, z2, w2⟩ := w2
      cases z2
      have fl0 : ∀ x ∈ r0, flatD x = true := fun x hx => ((row_all okr).2 x hx).1
      have fln : ∀ x ∈ nk, flatD x = true := fun x hx => ((row_all okn).2 x hx).1
      walk_at "w"
      have one : ∀ r : List PyData, (∀ x ∈ r, flatD x = true ∧ SeqAt.shaped x = true) → SeqAt.shaped (.tuple r) = true := fun r h => by
        have z := rows_shaped (rows := [r]) fun r' hr' => by rw [List.mem_singleton.1 hr']; exact h
        unfold SeqAt.shaped at z ⊢
        rw [Bool.and_eq_true, decide_eq_true_eq] at z ⊢
        obtain ⟨za, zb⟩ := z
        have za : (PyData.canLay0 (.tuple r) && true) = true := za
        have zb : max (PyData.depth (.tuple r)) 0 + 1 ≤ 64 := zb
        exact ⟨by rw [Bool.and_true] at za; exact za, by omega⟩
      refine ⟨.tuple nk, .tuple r0, .tup w1 (dp_cells fln), .tup w2 (dp_cells fl0), one nk (row_all okn).2, one r0 (row_all okr).2, ?_⟩
      cases hev : PyData.eqv (.tuple nk) (.tuple r0) with
      | true =>
        refine ⟨true, rfl, iteT ?_⟩
        exact kN _ hB21 e021
      | false =>
        refine ⟨false, rfl, iteF ?_⟩
        walk_at "w"
        have hev2 : PyData.eqv (.tuple r0) (.tuple nk) = false := by
          rw [← hev]
          exact eqvAll_flip fl0 fln
        have hown : setAt rows i r0 = rows := setAt_own hr0
        have inR : (t.1, rows) ∈ rs := by
          obtain ⟨r, hr, er⟩ := List.mem_map.mp tn
          have er : r.1 = t.1 := er
          have : rowsD rs (.str t.1) = r.2 := by
            show ((rs.lookup t.1).getD []) = r.2
            rw [← er, look_own (by rw [nm]; exact hG.nodup) r hr]
            rfl
          rw [hrows] at this
          rw [← er, this]
          exact hr
        have lrows : i < rows.length := (List.getElem?_eq_some_iff.mp hr0).1
        have mp : ∀ r, (setAt rows i r).map PyData.tuple = (rows.map PyData.tuple).take i ++ PyData.tuple r :: (rows.map PyData.tuple).drop (i + 1) := fun r => setAt_map
        have ndR : (rs.map (·.1)).Nodup := by rw [nm]; exact hG.nodup
        have n1 : PyData.eqv (.list (rows.map PyData.tuple)) (.list ((setAt rows i nk).map PyData.tuple)) = false := by
          have z : rows.map PyData.tuple = (setAt rows i r0).map PyData.tuple := by rw [hown]
          show PyData.eqvAll _ _ = false
          rw [z, mp, mp]
          exact eqvAll_mid hev2
        have n2 : PyData.eqv (.list ((setAt rows i nk).map PyData.tuple)) (.list (rows.map PyData.tuple)) = false := by
          have z : rows.map PyData.tuple = (setAt rows i r0).map PyData.tuple := by rw [hown]
          show PyData.eqvAll _ _ = false
          rw [z, mp, mp]
          exact eqvAll_mid hev
        have nmS : (setR rs t.1 (setAt rows i nk)).map (·.1) = ts.map (·.1) := by rw [setR_names, nm]
        have cntS : ∀ m, cnt (setR rs t.1 (setAt rows i nk)) m = cnt rs m := fun m => by
          unfold cnt
          rw [setR_look]
          by_cases z : m = t.1
          · rw [if_pos z]
            subst z
            have hr2 : ((rs.lookup t.1).getD []) = rows := hrows
            cases e : rs.lookup t.1 with
            | none => rfl
            | some y =>
              rw [e] at hr2
              have hr2 : y = rows := hr2
              show (setAt rows i nk).length = y.length
              rw [setAt_len lrows, hr2]
          · rw [if_neg z]
        refine kO c (setR rs t.1 (setAt rows i nk)) H21 (fill_of hG nmS fun t' ht' r hr => ?_) (setR_len lrs (by rw [setAt_len lrows]; exact rl100)) (ne_own (by rw [nmS]; exact hG.nodup) inR (setR_mem tn) n1) (ne_own ndR (setR_mem tn) inR n2) ⟨_, by rw [del_ne bc.symm]; exact c21, w3⟩ hB21 e021
        rw [rowF_congr fun c' _ _ => cntS c'.target]
        have hr5 : r ∈ ((setR rs t.1 (setAt rows i nk)).lookup t'.1).getD [] := hr
        rw [setR_look] at hr5
        by_cases z : t'.1 = t.1
        · rw [if_pos z] at hr5
          have tt : t' = t := nodup_fst hG.nodup ht' tin z
          obtain ⟨y, hy⟩ := lookup_some tn
          rw [tt] at hr5 ⊢
          rw [hy] at hr5
          rcases setAt_mem (show r ∈ setAt rows i nk from hr5) with h | h
          · rw [h]; exact okn
          · exact fill_at hF hG t tin r (by rw [hrows]; exact h)
        · rw [if_neg z] at hr5
          exact fill_at hF hG t' ht' r hr5
end
end LP
namespace LP
open PySem L2
open Evl (Ex)
def spLaw7 (K : PySem.W.Frag) : Sp := fun vs H Q _ => ∃ (p : Addr) (is : List Int), vs = [.ref p] ∧ SqL K H p (is.map V.int) ∧ is.length ≤ 1000 ∧ ∀ H', Q (.bl true) H'
/-- the dict of copied rows, while it is filled -/
structure GivInv (K : PySem.W.Frag) (B0 H : Hp) (rs : RowsD) (done : Tabs) (kvs : List (Key × V)) (gr : RowsD) : Prop where
  ent : Paired (RowsEnt K H) kvs gr
  sub : ∀ r ∈ gr, r ∈ rs
  nms : ∀ r ∈ gr, r.1 ∈ done.map (·.1)
  nd : (gr.map (·.1)).Nodup
  all : ∀ t ∈ done, t.1 ∈ gr.map (·.1) ∨ rowsD rs (.str t.1) = []
  new : ∀ kv ∈ kvs, ∀ l, kv.2 = V.ref l → B0 l = none
  apart : (kvs.map (·.2)).Nodup
theorem GivInv.nil {K : PySem.W.Frag} {B0 H : Hp} {rs : RowsD} : GivInv K B0 H rs [] [] [] := ⟨.nil, fun _ h => absurd h List.not_mem_nil, fun _ h => absurd h List.not_mem_nil, .nil, fun _ h => absurd h List.not_mem_nil, fun _ h => absurd h List.not_mem_nil, .nil⟩
theorem GivInv.ext {K : PySem.W.Frag} {B0 H H' : Hp} {rs : RowsD} {done : Tabs} {kvs : List (Key × V)} {gr : RowsD} (e : Ex H H') (h : GivInv K B0 H rs done kvs gr) : GivInv K B0 H' rs done kvs gr := ⟨paired_imp (fun _ _ h => h.ext e) h.ent, h.sub, h.nms, h.nd, h.all, h.new, h.apart⟩
theorem GivInv.putD {K : PySem.W.Frag} {B0 H : Hp} {rs : RowsD} {done : Tabs} {kvs ks : List (Key × V)} {gr : RowsD} {d : Addr} {o : HO} (hd : H d = some (.dK ks)) (h : GivInv K B0 H rs done kvs gr) : GivInv K B0 (upd H d o) rs done kvs gr := ⟨paired_imp (fun _ _ h => h.putD hd) h.ent, h.sub, h.nms, h.nd, h.all, h.new, h.apart⟩
theorem GivInv.skip {K : PySem.W.Frag} {B0 H : Hp} {rs : RowsD} {done : Tabs} {kvs : List (Key × V)} {gr : RowsD} {t : Str × List Col} (h : GivInv K B0 H rs done kvs gr) (hn : rowsD rs (.str t.1) = []) : GivInv K B0 H rs (done ++ [t]) kvs gr :=
  ⟨h.ent, h.sub, fun r hr => by rw [List.map_append]; exact List.mem_append_left _ (h.nms r hr), h.nd, fun t' ht => by
    rcases List.mem_append.1 ht with ht | ht
    · exact h.all t' ht
    · rw [List.mem_singleton.1 ht]; exact .inr hn, h.new, h.apart⟩
theorem GivInv.put {K : PySem.W.Frag} {B0 H : Hp} {rs : RowsD} {done : Tabs} {kvs : List (Key × V)} {gr : RowsD} {t : Str × List Col} {r : Str × List (List PyData)} {L : Addr} {vs : List V} (h : GivInv K B0 H rs done kvs gr) (rin : r ∈ rs) (er : r.1 = t.1) (tn : t.1 ∉ done.map (·.1)) (hL : H L = some (.lst vs)) (hv : Paired (RowAt K H) vs r.2)
    (nL : B0 L = none) (fr : ∀ kv ∈ kvs, kv.2 ≠ V.ref L) : GivInv K B0 H rs (done ++ [t]) (kvs ++ [(Sum.inr t.1, .ref L)]) (gr ++ [r]) := by
  refine ⟨paired_app h.ent (.cons ⟨by rw [er], L, vs, rfl, hL, hv⟩ .nil), fun r' hr => ?_, fun r' hr => ?_, ?_, fun t' ht => ?_, fun kv hkv l el => ?_, ?_⟩
  · rcases List.mem_append.1 hr with hr | hr
    · exact h.sub r' hr
    · rw [List.mem_singleton.1 hr]; exact rin
  · rw [List.map_append]
    rcases List.mem_append.1 hr with hr | hr
    · exact List.mem_append_left _ (h.nms r' hr)
    · rw [List.mem_singleton.1 hr, er]; exact List.mem_append_right _ List.mem_cons_self
  · rw [List.map_append,
          List.nodup_append]
    refine ⟨h.nd, by simp, fun a ha b hb e => ?_⟩
    obtain ⟨r', hr', rfl⟩ := List.mem_map.mp ha
    have hb : b = r.1 := List.mem_singleton.1 hb
    exact tn (by rw [← er, ← hb, ← e]; exact h.nms r' hr')
  · rw [List.map_append]
    rcases List.mem_append.1 ht with ht | ht
    · rcases h.all t' ht with z | z
      · exact .inl (List.mem_append_left _ z)
      · exact .inr z
    · rw [List.mem_singleton.1 ht, ← er]; exact .inl (List.mem_append_right _ List.mem_cons_self)
  · rcases List.mem_append.1 hkv with hkv | hkv
    · exact h.new kv hkv l el
    · rw [List.mem_singleton.1 hkv] at el
      cases el
      exact nL
  · rw [List.map_append,
          List.nodup_append]
    refine ⟨h.apart, by simp, fun a ha b hb e => ?_⟩
    obtain ⟨kv, hkv, rfl⟩ := List.mem_map.mp ha
    have hb : b = V.ref L := List.mem_singleton.1 hb
    exact fr kv hkv (by rw [e, hb])
theorem okAt {rs : RowsD} {ts : Tabs} {t : Str × List Col} (ok : RowsOk rs) (nm : rs.map (·.1) = ts.map (·.1)) (ht : t ∈ ts) : (∀ row ∈ rowsD rs (.str t.1), ∀ x ∈ row, flatD x = true) ∧ SeqAt.shaped (.list ((rowsD rs (.str t.1)).map PyData.tuple)) = true := by
  obtain ⟨_, en, hlr⟩ := tab_rows nm (show tabD ts (.str t.1) = true from decide_eq_true (List.mem_map.mpr ⟨t, ht, rfl⟩))
  cases en
  exact ok _ (PySem.mem_of_lookup hlr)
theorem RowsEnt.putL {K : PySem.W.Frag} {H : Hp} {L : Addr} {xs zs : List V} (hL : H L = some (.lst xs)) {kv : Key × V} {r : Str × List (List PyData)} (n : kv.2 ≠ V.ref L) (h : RowsEnt K H kv r) : RowsEnt K (upd H L (.lst zs)) kv r := by
  obtain ⟨e1, l, vs, e2, hl, hv⟩ := h
  exact ⟨e1, l, vs, e2, by rw [upd_ne (fun z => n (by rw [e2, z]))]; exact hl, paired_imp (fun _ _ h => h.putL hL) hv⟩
theorem valV_own {K : PySem.W.Frag} {H : Hp} {kvs : List (Key × V)} {gr : RowsD} (h : Paired (RowsEnt K H) kvs gr) : (gr.map (·.1)).Nodup → ∀ kv ∈ kvs, valV kvs kv.1 = some kv.2 := by
  induction h with
  | nil => exact fun _ kv h => absurd h List.not_mem_nil
  | @cons p g kvs gr h q ih =>
    intro nd kv hkv
    rw [List.map_cons,
            List.nodup_cons] at nd
    rcases List.mem_cons.1 hkv with e | hkv
    · rw [e]
      exact valV_pos (p := p) rfl
    · obtain ⟨g', hg', h'⟩ := paired_mem q kv hkv
      refine (valV_neg (p := p) fun z => ?_).trans (ih nd.2 kv hkv)
      rw [h.1, h'.1] at z
      exact nd.1 (List.mem_map.mpr ⟨g', hg', (Sum.inr.inj z).symm⟩)
theorem StoreN.ext {K : PySem.W.Frag} {CS C : Addr} {H0 H H' : Hp} {p sch : Addr} {u : Str} {ts : Tabs} {rs : RowsD} (e : Ex H H') (h : StoreN K CS C H0 H p sch u ts rs) : StoreN K CS C H0 H' p sch u ts rs := by
  obtain ⟨dr, kvs, hP, h⟩ := h
  exact ⟨dr, kvs, hP.ext e, h⟩
theorem delS_one {b : Addr} {H : Hp} : delS (fun a => decide (a = b)) H = del b H := by
  funext a
  show (if decide (a = b) = true then none else H a) = if a = b then none else H a
  by_cases h : a = b
  · rw [decide_eq_true h, if_pos rfl, if_pos h]
  · rw [decide_eq_false h, if_neg h, if_neg Bool.false_ne_true]
theorem StoreN.noBag {K : PySem.W.Frag} {CS C : Addr} {H0 H : Hp} {b n p sch : Addr} {u : Str} {ts : Tabs} {rs : RowsD} (h : StoreN K CS C H0 H p sch u ts rs) (hB : BagAt H0 b n) (e : Ex H0 H) (hS : SchAt C (del b H) sch u ts) : StoreAt K CS C (del b H) p u ts rs := by
  have z := StoreN.keep (G := fun a => decide (a = b)) h (fun a ha => ?_) (by rw [delS_one]; exact hS)
  · rw [delS_one] at z
    exact z
  · have ha : a = b := of_decide_eq_true ha
    obtain ⟨_, _, _, hb, _⟩ := hB.ex
    rw [ha]
    exact ⟨(by rw [hb]; exact fun z => nomatch z), _, e _ _ hb⟩
def OthAt (K : PySem.W.Frag) (b : Addr) (ts : Tabs) (rs : RowsD) (v : V) (H : Hp) : Prop := v = .non ∨ ∃ (o : Addr) (rs' : RowsD), v = .ref o ∧ Fill ts rs' ∧ (∀ r ∈ rs', r.2.length ≤ 100) ∧ eqMapD (dataS rs) (dataS rs') = false ∧ eqMapD (dataS rs') (dataS rs) = false ∧ RowsAt K H o rs'
theorem other_join {K : PySem.W.Frag} {H : Hp} {E : XK} {Q : VK} {b p q wa : Addr} {n : Nat} {ts : Tabs} {rs : RowsD} {ws : List Str} (hB : BagAt H b n) (hn : n < 70000000) (hT : TabsR K (del b H) p ts) (hG : GoodTabs ts) (tne : ts ≠ []) (lt : ts.length ≤ 20) (hR : RowsAt K (del b H) q rs) (hF : Fill ts rs) (lrs : ∀ r ∈ rs, r.2.length ≤ 100)
    (hw : SqL K (del b H) wa (ws.map V.str)) (wne : ws ≠ []) (wl : ws.length ≤ 1000) (wok : ∀ x ∈ ws, wordB x = true) (k : ∀ v H', OthAt K b ts rs v (del b H') → BagAt H' b (n + 10) → Ex (del b H) H' → Q v H') : spOther K [.ref b, .ref p, .ref q, .ref wa] H Q E :=
  ⟨b, p, q, wa, n, ts, rs, ws, rfl, hB, hn, hT, hG, tne, lt, hR, hF, lrs, hw, wne, wl, wok, fun H' a c => k _ _ (.inl rfl) a c, fun o rs' H' a1 a2 a3 a4 a5 a6 a7 => k _ _ (.inr ⟨o, rs', rfl, a1, a2, a3, a4, a5⟩) a6 a7⟩
theorem sto_ins {K : PySem.W.Frag} {CS C : Addr} {H : Hp} {p : Addr} {u : Str} {ts : Tabs} {rs : RowsD} (h : StoreAt K CS C H p u ts rs) : ∃ dx fs, H p = some (.ins CS dx fs) := by
  obtain ⟨⟨sch, dr, kvs, hP, hS⟩, nm⟩ := h
  obtain ⟨dx, fs, hp, _⟩ := hP.ins
  exact ⟨dx, fs, hp⟩
section
variable {K : PySem.W.Frag} {CS C : Addr} {H : Hp} {p q : Addr} {u u' : Str} {ts ts' : Tabs} {rs rs' : RowsD} {Q : VK}
theorem sto_eq (h1 : StoreAt K CS C H p u ts rs) (g1 : GoodTabs ts) (s1 : SOk u) (o1 : RowsOk rs) (h2 : StoreAt K CS C H q u' ts' rs') (g2 : GoodTabs ts') (s2 : SOk u') (o2 : RowsOk rs') (k : Q (.bl (eqSt u u' ts ts' rs rs')) H) : rOwnEq CS false (spEqSt K CS C) C8.E0 K (.ref p) (.ref q) H Q := by
  obtain ⟨dx, fs, hp⟩ := sto_ins h1
  obtain ⟨dx', fs', hq⟩ := sto_ins h2
  exact ⟨p, dx, fs, .ref CS, rfl, hp, .inl ⟨q, dx', fs', rfl, hq, rfl⟩, p, .ref q, u, ts, rs, rfl, h1, g1, s1, o1, .inl ⟨q, u', ts', rs', rfl, h2, g2, s2, o2, _, rfl, k⟩⟩
theorem sto_ne (h1 : StoreAt K CS C H p u ts rs) (g1 : GoodTabs ts) (s1 : SOk u) (o1 : RowsOk rs) (h2 : StoreAt K CS C H q u' ts' rs') (g2 : GoodTabs ts') (s2 : SOk u') (o2 : RowsOk rs') (k : Q (.bl (!eqSt u u' ts ts' rs rs')) H) : rOwnEq CS true (spEqSt K CS C) C8.E0 K (.ref p) (.ref q) H Q := by
  obtain ⟨dx, fs, hp⟩ := sto_ins h1
  obtain ⟨dx', fs', hq⟩ := sto_ins h2
  exact ⟨p, dx, fs, .ref CS, rfl, hp, .inl ⟨q, dx', fs', rfl, hq, rfl⟩, p, .ref q, u, ts, rs, rfl, h1, g1, s1, o1, .inl ⟨q, u', ts', rs', rfl, h2, g2, s2, o2, _, rfl, k⟩⟩
theorem sto_odd {v : V} (h1 : StoreAt K CS C H p u ts rs) (g1 : GoodTabs ts) (s1 : SOk u) (o1 : RowsOk rs) (hs : PySem.W.subIn K (.ref C) (.ref CS) = some false) (o : OddS K C H v) (k : Q (.bl false) H) : rOwnEqW CS false (spEqSt K CS C) C8.E0 K (.ref p) v H Q := by
  obtain ⟨dx, fs, hp⟩ := sto_ins h1
  have fin : ∀ tb, TyAtW K CS H v tb → rOwnEqW CS false (spEqSt K CS C) C8.E0 K (.ref p) v H Q := fun tb t => ⟨p, dx, fs, tb, rfl, hp, t, p, v, u, ts, rs, rfl, h1, g1, s1, o1, .inr ⟨o, _, rfl, k⟩⟩
  cases o with
  | non => exact fin _ (.inl (.inr (.inl ⟨rfl, rfl⟩)))
  | int i => exact fin _ (.inl (.inr (.inr (.inl ⟨i, rfl, rfl⟩))))
  | dict h => exact fin _ (.inr (.inl ⟨_, _, rfl, h, rfl⟩))
  | sch h c => exact fin _ (.inr (.inr ⟨_, _, _, _, rfl, h, rfl, hs⟩))
theorem eqSt_own (nd : (rs.map (·.1)).Nodup) (ok : RowsOk rs) : eqSt u u ts ts rs rs = true := by
  unfold eqSt
  rw [decide_eq_true rfl, eq_own nd ok]
  rfl
theorem eqSt_rows {b : Bool} (h : eqMapD (dataS rs) (dataS rs') = b) : eqSt u u ts ts rs rs' = b := by
  unfold eqSt
  rw [decide_eq_true rfl, h, Bool.true_and]
end
theorem paired_rev {α β : Type} {R : α → β → Prop} {xs : List α} {zs : List β} (h : Paired R xs zs) : Paired R xs.reverse zs.reverse := by
  induction h with
  | nil => exact .nil
  | cons h _ ih =>
    rw [List.reverse_cons,
            List.reverse_cons]
    exact paired_app ih (.cons h .nil)
theorem atI_last7 {xs : List V} {y : V} (h : xs.getLast? = some y) : atI xs (-1) = some y := by
  obtain ⟨d, rfl⟩ : ∃ d, xs = d ++ [y] := List.getLast?_eq_some_iff.mp h
  unfold atI
  have e : ixN (d ++ [y]).length (-1) = some d.length := by
    rw [List.length_append]
    unfold ixN
    simp
    omega
  rw [e]
  simp
theorem w_ifS7 {tt : TT} {t0 t1 : TS} {D : Ends} {σ : L2.St} {H : Hp} (h : tt σ H fun b H1 => if b = true then t0 D σ H1 else t1 D σ H1) : tIfS tt t0 t1 D σ H := h
theorem go_next {D : Ends} {σ : L2.St} {H : Hp} (h : D.nx σ H) : tNext D σ H := h
theorem joinC {tt : TT} {t0 t1 : TS} {D : Ends} {σ : L2.St} {H : Hp} {R : Bool → Hp → Prop} (h1 : ∀ Z : Bool → Hp → Prop, (∀ b H', R b H' → Z b H') → tt σ H Z) (k : ∀ b H', R b H' → if b = true then t0 D σ H' else t1 D σ H') : tIfS tt t0 t1 D σ H := h1 _ k
section
variable {base : Heap} {mg : Str → Option Value} {K : PySem.W.Frag} {w : World} {P : Program} {C CS CN CR CB ra : Addr} {mc : Value}
theorem ok_law7 {f : Addr} {fd : FuncData} (DL : C8.Def K mg "law" s_law f fd) (B : Blt mg) (T : Cns K mg ra C) (S : SchC K C) (ST : StoC K CS) (NN : NoNe K C) (NS : NoNe K CS) (nsub : PySem.W.subIn K (.ref C) (.ref CS) = some false)
    (c__law_start : C8.Cal P w K mg base 1 "_law_start" (spStart K) []) (c__law_take : C8.Cal P w K mg base 1 "_law_take" spTake []) (c__law_draw_letters : C8.Cal P w K mg base 2 "_law_draw_letters" spLetters []) (c__law_draw_tables : C8.Cal P w K mg base 6 "_law_draw_tables" (spDrawTables K) [])
    (c__law_draw_rows : C8.Cal P w K mg base 4 "_law_draw_rows" (spDrawRows K) []) (c__law_other : C8.Cal P w K mg base 4 "_law_other" (spOther K) []) (c__law_is_told : C8.Cal P w K mg base 7 "_law_is_told" (spTold7 K CS C) [])
    (m_Schema : C8.Mak P w K mg base 7 "Schema" C (spInit C) []) (m_Store : MakX P w K mg base 5 "Store" CS (spStore K CS CB C)) (m_Store0 : MakXD P w K mg base 5 "Store" CS (spStore K CS CB C) [.non])
    (m_seq : C8.Met P w K mg base 2 C "__eq__" (spEqS K C) []) (m___eq__ : C8.Met P w K mg base 3 CS "__eq__" (spEqSt K CS C) []) (m___len__ : C8.Met P w K mg base 1 CS "__len__" (spLenS K CS C) []) (m_rows : MetX P w K mg base 4 CS "rows" (spRows K CS CN C)) :
    FnOk P w K mg base C8.CX0 9 f fd ["script"] (spLaw7 K) := by
  have sc : FnScope ["script", "at", "bag", "tables", "words", "rows", "schema", "given", "name", "columns", "store", "same", "other", "odd", "changed", "empty"] ["script"] (C8.fnScope s_law) := C8.fnScope_by (by decide +kernel)
  refine C8.fn0 DL.fn sc (fun vs H Q E h => ?_) (fun cdv A outer s H vs Q E hr h => ?_)
  · obtain ⟨_, _, rfl, _⟩ := h
    rfl
  · obtain ⟨p, is, rfl, hp, hn, k⟩ := h
    refine ⟨_, (pss_cons (ps_for PassesOwn.never rfl (pi_range1 (by rfl) B.range_ (pa_cons (pe_callB (call_max2' rfl) (by rfl) B.max_ (by decide +kernel) (pa_cons pe_int (pa_cons (pe_callB (call_min2' rfl) (by rfl) B.min_ (by decide +kernel) (pa_cons pe_int (pa_cons (pe_callB (call_len_seqK (K := K) rfl) (by rfl) B.len_ (by decide +kernel) (pa_cons (pv 0) pa_nil)) pa_nil))) pa_nil))) pa_nil)) (pg_name (i := 1) sc.nd rfl (Or.inl rfl))
        (pss_cons (ps_set (i := 2) sc.nd rfl (Or.inl rfl) (C8.pe_c c__law_start hr (by decide) rfl (pa_cons (pv 0) (pa_cons (pv 1) pa_nil))))
        (pss_cons (ps_set (i := 3) sc.nd rfl (Or.inl rfl) (C8.pe_c c__law_draw_tables hr (by decide) rfl (pa_cons (pv 2) (pa_cons pe_int (pa_cons pe_int pa_nil)))))
        (pss_cons (ps_set (i := 4) sc.nd rfl (Or.inl rfl) (pe_lst (pa_cons (C8.pe_c c__law_draw_letters hr (by decide) rfl (pa_cons (pv 2) (pa_cons pe_int pa_nil))) (pa_cons (C8.pe_c c__law_draw_letters hr (by decide) rfl (pa_cons (pv 2) (pa_cons pe_int pa_nil))) (pa_cons pe_str (pa_cons pe_str pa_nil))))))
        (pss_cons (ps_set (i := 5) sc.nd rfl (Or.inl rfl) (C8.pe_c c__law_draw_rows hr (by decide) rfl (pa_cons (pv 2) (pa_cons (pv 3) (pa_cons pe_int (pa_cons (pv 4) pa_nil))))))
        (pss_cons (ps_par (i := 6) (j := 7) (by rfl) sc.nd rfl rfl (by decide) rfl rfl (pa_cons (C8.pe_mk m_Schema hr (by decide) rfl (pa_cons (pe_ix (ix_tupK (K := K) rfl) (pe_ix (ix_listK (K := K) rfl) (pv 3) (pe_un un_neg pe_int) (fun _ _ => rfl)) pe_int (fun _ _ => rfl)) (pa_cons (pv 3) pa_nil))) (pa_cons pe_dnewK pa_nil)) (by rfl))
        (pss_cons (ps_for PassesOwn.never rfl (pi_listK (K := K) rfl ((pe_revLK (K := K) rfl (pv 3)))) (pg_tupK (K := K) (n := 2) rfl rfl (pgs_cons (pg_name (i := 8) sc.nd rfl (Or.inl rfl)) (pgs_cons (pg_name (i := 9) sc.nd rfl (Or.inl rfl)) pgs_nil)))
        (pss_one (ps_if (PW.pt (pw_or (pt_cmpR (op_neDK (K := K) rfl (hu64 hr)) (pe_dget (hu_of hr) (pv 5) (pv 8) (fun _ _ => rfl)) (pe_lst pa_nil) (nomark _)) (pw_or1 (pt_cmpR op_eq (C8.pe_c c__law_take hr (by decide) rfl (pa_cons (pv 2) (pa_cons pe_int pa_nil))) pe_int (nomark _)))))
        (pss_one (ps_dput (hu_of hr) (pv 7) (pv 8) (pe_callTy (call_list_ofK (K := K) rfl) (by rfl) B.list_ (by decide +kernel) (pa_cons (pe_dget (hu_of hr) (pv 5) (pv 8) (fun _ _ => rfl)) pa_nil)) rfl))
        pss_nil)))
        (pss_cons (ps_set (i := 10) sc.nd rfl (Or.inr rfl) ((pe_mkx m_Store hr (by decide) passF rfl (pa_cons (pv 6) (pa_cons (pv 7) pa_nil)))))
        (pss_cons (ps_for PassesOwn.never rfl (pi_listK (K := K) rfl (pe_callTy (call_listD7 rfl) (by rfl) B.list_ (by decide +kernel) (pa_cons (pv 7) pa_nil))) (pg_name (i := 8) sc.nd rfl (Or.inl rfl))
        (pss_cons (ps_if (pt_cmpR (op_neDK (K := K) rfl (hu64 hr)) (pe_dget (hu_of hr) (pv 7) (pv 8) (fun _ _ => rfl)) (pe_dget (hu_of hr) (pv 5) (pv 8) (fun _ _ => rfl)) (nomark _))
        (pss_one (ps_ret pe_bl))
        pss_nil)
        (pss_one (ps_expr (pe_bmK (K := K) rfl PySem.F.plainAttrs_list PySem.F.slot_list_append PySem.F.type_list_append mt_append (pe_dget (hu_of hr) (pv 7) (pv 8) (fun _ _ => rfl)) (pa_cons (pe_tup (pa_cons pe_str pa_nil)) pa_nil))))))
        (pss_cons (ps_if (PW.pt (pw_or (pt_cmpR (op_neM (K := K) rfl NN m_seq hr (by decide)) (pe_fldK (K := K) rfl (pv 10) rfl) (pv 6) (nomark _)) (pw_or (pt_not (pt_val (C8.pe_c c__law_is_told hr (by decide) rfl (pa_cons (pv 10) (pa_cons (pv 3) (pa_cons (pv 5) pa_nil)))))) (pw_or1 (pt_not (pt_val (C8.pe_c c__law_is_told hr (by decide) rfl (pa_cons (pv 10) (pa_cons (pv 3) (pa_cons (pv 5) pa_nil))))))))))
        (pss_one (ps_ret pe_bl))
        pss_nil)
        (pss_cons (ps_par (i := 11) (j := 12) (by rfl) sc.nd rfl rfl (by decide) rfl rfl (pa_cons ((pe_mkx m_Store hr (by decide) passF rfl (pa_cons (pv 6) (pa_cons (pv 5) pa_nil)))) (pa_cons (C8.pe_c c__law_other hr (by decide) rfl (pa_cons (pv 2) (pa_cons (pv 3) (pa_cons (pv 5) (pa_cons (pv 4) pa_nil))))) pa_nil)) (by rfl))
        (pss_cons (ps_if (PW.pt (pw_or (pt_not (pt_cmpR (op_eqM (K := K) rfl m___eq__ hr (by decide)) (pv 10) (pv 11) (nomark _))) (pw_or (pt_cmpR (op_neM (K := K) rfl NS m___eq__ hr (by decide)) (pv 10) (pv 11) (nomark _)) (pw_or1 (pt_val (pe_callB (cr_anyK (K := K) rfl rfl) (by rfl) B.any_ (by decide +kernel) (pa_cons (pe_lc (own := [("odd", 13)]) (g := (gName 13)) (by rfl) sc.nd (pi_tupK (K := K) rfl (pe_tup (pa_cons pe_non (pa_cons (pv 7) (pa_cons (pv 5) (pa_cons pe_int (pa_cons (pv 6) pa_nil))))))) (blkOk_by (own := [("odd", 13)]) (N := ["script", "at", "bag", "tables", "words", "rows", "schema", "given", "name", "columns", "store", "same", "other", "odd", "changed", "empty"]) (sc := C8.fnScope s_law) (by decide +kernel)) (fun _ _ _ _ _ => (pg_name (i := 13) sc.nd rfl (Or.inl rfl))) (fun _ _ _ _ _ => pts_nil) (fun _ _ _ _ _ => (pe_cmpR (op_eqMW (K := K) rfl m___eq__ hr (by decide)) (pv 10) (pv 13) (nomark _)))) pa_nil)))))))
        (pss_one (ps_ret pe_bl))
        pss_nil)
        (pss_cons (ps_if (pt_cmpR op_notN' (pv 12) pe_non (nomark _))
        (pss_cons (ps_set (i := 14) sc.nd rfl (Or.inl rfl) ((pe_mkx m_Store hr (by decide) passF rfl (pa_cons (pv 6) (pa_cons (pv 12) pa_nil)))))
        (pss_one (ps_if (PW.pt (pw_or (pt_cmpR (op_eqM (K := K) rfl m___eq__ hr (by decide)) (pv 14) (pv 10) (nomark _)) (pw_or1 (pt_not (pt_cmpR (op_neM (K := K) rfl NS m___eq__ hr (by decide)) (pv 10) (pv 14) (nomark _))))))
        (pss_one (ps_ret pe_bl))
        pss_nil)))
        pss_nil)
        (pss_cons (ps_set (i := 15) sc.nd rfl (Or.inl rfl) ((pe_mkxd m_Store0 hr (by decide) passF rfl (pa_cons (pv 6) pa_nil))))
        (pss_cons (ps_if (PW.pt (pw_or (pt_cmpR op_ne ((pe_callB (call_lenM m___len__ hr (by decide)) (by rfl) B.len_ (by decide +kernel) (pa_cons (pv 15) pa_nil))) pe_int (nomark _)) (pw_or (pt_cmpR op_ne (pe_cmpR (op_eqM (K := K) rfl m___eq__ hr (by decide)) (pv 15) (pv 10) (nomark _)) (pe_cmpR op_eq ((pe_callB (call_lenM m___len__ hr (by decide)) (by rfl) B.len_ (by decide +kernel) (pa_cons (pv 10) pa_nil))) pe_int (nomark _)) (nomark _)) (pw_or1 (pt_cmpR (op_neDK (K := K) rfl (hu64 hr)) ((pe_mx m_rows hr (by decide) passF (pv 15) (pa_cons (pe_ix (ix_tupK (K := K) rfl) (pe_ix (ix_listK (K := K) rfl) (pv 3) pe_int (fun _ _ => rfl)) pe_int (fun _ _ => rfl)) pa_nil))) (pe_lst pa_nil) (nomark _))))))
        (pss_one (ps_ret pe_bl))
        pss_nil)
        (pss_one (ps_if (pt_cmpR op_ne (pe_cmpR (op_eqM (K := K) rfl m___eq__ hr (by decide)) ((pe_mkx m_Store hr (by decide) passF rfl (pa_cons (C8.pe_mk m_Schema hr (by decide) rfl (pa_cons (pe_ix (ix_tupK (K := K) rfl) (pe_ix (ix_listK (K := K) rfl) (pv 3) pe_int (fun _ _ => rfl)) pe_int (fun _ _ => rfl)) (pa_cons (pv 3) pa_nil))) (pa_cons (pv 5) pa_nil)))) (pv 10) (nomark _)) (pe_cmpR op_eq (pe_callB (call_len_seqK (K := K) rfl) (by rfl) B.len_ (by decide +kernel) (pa_cons (pv 3) pa_nil)) pe_int (nomark _)) (nomark _))
        (pss_one (ps_ret pe_bl))
        pss_nil)))))))))))))))))
        (pss_one
                (ps_ret pe_bl))), ?_⟩
    walk_at "w"
    generalize hN : ((if (if ((is.map V.int).length : Int) < 4 then ((is.map V.int).length : Int) else 4) > 1 then (if ((is.map V.int).length : Int) < 4 then ((is.map V.int).length : Int) else 4) else 1) : Int).toNat = N4
    have hN4 : N4 ≤ 4 := by
      rw [← hN]
      split <;> split <;> omega
    refine loopR (fun i σ' H' => ∃ x1 x2 x3 x4 x5 x6 x7 x8 x9 x10 x11 x12 x13 x14 x15, σ' = [some (.ref p), x1, x2, x3, x4, x5, x6, x7, x8, x9, x10, x11, x12, x13, x14, x15] ∧ Ex H H') ⟨_, _, _, _, _, _, _, _, _, _, _, _, _, _, _,  rfl, Ex.refl _⟩ (fun i σ' H' hi h => ?_) (fun σ' H' h => ?_)
    case refine_2 =>
      obtain ⟨x1, x2, x3, x4, x5, x6, x7, x8, x9, x10, x11, x12, x13, x14, x15, rfl, n0⟩ := h
      walk_at "w"
      exact k _
    · obtain ⟨x1, x2, x3, x4, x5, x6, x7, x8, x9, x10, x11, x12, x13, x14, x15, rfl, n0⟩ := h
      have hp1 : SqL K H' p (is.map V.int) := Evl.ex_l n0 hp
      walk_at "w"
      refine ⟨p, is, i, rfl, hp1, hn, by omega, fun b H1 hb0 hB1 e1 => ?_⟩
      walk_at "w"
      refine ⟨b, 1, 6, _, rfl, hB1, by omega, by decide, by decide, by decide, fun qt H2 ts hts hG l1 l2 hB2 e2 => ?_⟩
      walk_at "w"
      refine ⟨b, 8, _, rfl, hB2, by omega, by decide, by decide, fun w1 H3 a1 b1 c1 hB3 e3 => ?_⟩
      walk_at "w"
      refine ⟨b, 8, _, rfl, hB3, by omega, by decide, by decide, fun w2 H4 a2 b2 c2 hB4 e4 => ?_⟩
      walk_at "w"
      intro wa hwa
      have wab : wa ≠ b := (hB4.ne_none hwa).symm
      have hw5 : (upd H4 wa (.lst [.str w1, .str w2, .str (Str.ofString "some"), .str (Str.ofString "user")])) wa = some (.lst [.str w1, .str w2, .str (Str.ofString "some"), .str (Str.ofString "user")]) := upd_same
      have e5 := Ex.new (o := .lst [.str w1, .str w2, .str (Str.ofString "some"), .str (Str.ofString "user")]) hwa
      have hB5 := hB4.new (o := .lst [.str w1, .str w2, .str (Str.ofString "some"), .str (Str.ofString "user")]) hwa
      generalize (upd H4 wa (.lst [.str w1, .str w2, .str (Str.ofString "some"), .str (Str.ofString "user")])) = H5 at hw5 e5 hB5 ⊢
      obtain ⟨ws, hws⟩ : ∃ ws : List Str, ws = [w1, w2, Str.ofString "some", Str.ofString "user"] := ⟨_, rfl⟩
      have hw5 : (del b H5) wa = some (.lst (ws.map V.str)) := by rw [del_ne wab, hws]; exact hw5
      have wok : ∀ x ∈ ws, wordB x = true := fun x hx => by
        rw [hws] at hx
        simp only [List.mem_cons,
                List.not_mem_nil, or_false] at hx
        rcases hx with rfl | rfl | rfl | rfl
        · exact (wordB_iff _).2 ⟨a1, by omega, c1⟩
        · exact (wordB_iff _).2 ⟨a2, by omega, c2⟩
        · decide +kernel
        · decide +kernel
      have e25 : Ex (del b H2) H5 := (ex_dtrans e3 e4).trans e5
      have ts5 : TabsAt (del b H5) qt ts := hts.ext (ex_dd e25)
      have n5 : Ex H (del b H5) := by
        have n1 : Ex H (del b H1) := fun a o h => by
          rw [del_ne (ne_of_none (n0 _ _ h) hb0)]
          exact e1 _ _ (n0 _ _ h)
        exact n1.trans ((ex_dd e2).trans (ex_dd e25))
      walk_at "w"
      refine ⟨b, qt, wa, _, 6, ts, ws, rfl, hB5, by omega, by decide, by decide, ts5.read, hG, by omega, SqL.of hw5, by rw [hws]; simp, by rw [hws]; simp, wok, fun q rs H6 hF lrs hq0 hR hB6 e6 => ?_⟩
      walk_at "w"
      refine w_make ?_
      obtain ⟨tvs, hqt5, htv5⟩ := id ts5
      have ltv := paired_len htv5
      have vne : tvs ≠ [] := fun e => by rw [e] at ltv; have : ts.length = 0 := ltv.symm; omega
      obtain ⟨yl, hyl⟩ : ∃ yl, tvs.getLast? = some yl := ⟨_, List.getLast?_eq_some_getLast vne⟩
      obtain ⟨tl, htl, ya, cl0, rfl, hya, _⟩ := paired_ix htv5 (List.getLast?_eq_getElem? ▸ hyl : tvs[tvs.length - 1]? = some yl)
      have tlin : tl ∈ ts := List.mem_of_getElem? htl
      have hya6 := e6 _ _ hya
      have hqt6 := e6 _ _ hqt5
      walk_at "w"
      refine w_ixL (SqL.of hqt6) (atI_last7 hyl) ?_
      walk_at "w"
      intro sch dx hx hdx hnex
      have eNx : Ex H6 (upd (upd H6 dx (.own sch)) sch (.ins C dx [])) := (Ex.new hdx).trans (Ex.new (by rw [upd_ne (Ne.symm hnex)]; exact hx))
      have ts6 : TabsAt H6 qt ts := ts5.ext e6
      have tlmem : tl.1 ∈ ts.map (·.1) := List.mem_map.mpr ⟨tl, tlin, rfl⟩
      refine ⟨sch, qt, dx, tl.1, ts, rfl, upd_same, ts6.ext eNx, hG, by omega, by omega, tlmem, fun H7 hOx hSx => ⟨rfl, ?_⟩⟩
      have e67 : Ex H6 H7 := fun c o h => hOx c o (eNx c o h) fun z => by rw [List.mem_singleton.mp z, hx] at h; cases h
      have e57 : Ex (del b H5) H7 := e6.trans e67
      have hB7 := hB6.ext e67
      obtain ⟨B0, hBd⟩ : ∃ B0, B0 = del b H7 := ⟨_, rfl⟩
      have nB : Ex H B0 := hBd ▸ n5.trans (ex_dd e57)
      have tsB : TabsAt B0 qt ts := hBd ▸ ts5.ext (ex_dd e57)
      have RB : RowsAt K B0 q rs := by
        obtain ⟨kvs, a1, a2⟩ := hR
        have z : Ex (del b H6) B0 := hBd ▸ ex_dd (ex_del.trans e67)
        exact ⟨kvs, z _ _ a1, paired_imp (fun _ _ h => h.ext z) a2⟩
      have wB : SqL K B0 wa (ws.map V.str) := SqL.of ((hBd ▸ ex_dd e57 : Ex (del b H5) B0) _ _ hw5)
      have SB : SchAt C B0 sch tl.1 ts := hBd ▸ hSx.st (St.dl hB7)
      have eB7 : Ex B0 H7 := hBd ▸ ex_del
      have Bb : B0 b = none := by rw [hBd]; unfold del; rw [if_pos rfl]
      clear hBd hSx hOx
      walk_at "w"
      intro d hd
      have bd : b ≠ d := hB7.ne_none hd
      have dB : B0 d = none := by
        cases z : B0 d with
        | none => rfl
        | some o => rw [eB7 _ _ z] at hd; cases hd
      have e8 : Ex B0 (upd H7 d (.dK [])) := eB7.trans (Ex.new hd)
      have hB8 := hB7.new (o := .dK []) hd
      have d8 : (upd H7 d (.dK [])) d = some (.dK []) := upd_same
      generalize (upd H7 d (.dK [])) = H8 at e8 hB8 d8 ⊢
      obtain ⟨tvs8, hqt8, htv8⟩ := id tsB
      have ltv8 := paired_len htv8
      walk_at "w"
      obtain ⟨qkvs, hq8, hqk⟩ := id RB
      have nm := hF.names
      have ndR : (rs.map (·.1)).Nodup := by rw [nm]; exact hG.nodup
      have geq : ∀ t ∈ ts, ∃ ql qvs, valV qkvs (Sum.inr t.1 : Key) = some (.ref ql) ∧ B0 ql = some (.lst qvs) ∧ Paired (RowAt K B0) qvs (rowsD rs (.str t.1)) := fun t ht => by
        obtain ⟨_, en, hlr⟩ := tab_rows nm (show tabD ts (.str t.1) = true from decide_eq_true (List.mem_map.mpr ⟨t, ht, rfl⟩))
        cases en
        exact ent_get hqk hlr
      have okR := fill_ok hG hF
      have hB8' : BagAt H8 b 170000 := by
        have t8 : (8 : Int).toNat = 8 := rfl
        rw [t8] at hB8
        exact hB8.mono (by decide)
      clear hB8 hB7 hB6 hB5 hB4 hB3 hB2 hB1
      unfold tRevL
      walk_at "w"
      refine ⟨qt, tvs8, rfl, SqL.of (e8 _ _ hqt8), fun RL hRL => ?_⟩
      have e9 : Ex B0 (upd H8 RL (.lst tvs8.reverse)) := e8.trans (Ex.new hRL)
      have hB9 := hB8'.new (o := .lst tvs8.reverse) hRL
      have r9 : (upd H8 RL (.lst tvs8.reverse)) RL = some (.lst tvs8.reverse) := upd_same
      have d9 : (upd H8 RL (.lst tvs8.reverse)) d = some (.dK []) := Ex.new hRL _ _ d8
      have RLb : RL ≠ b := (hB8'.ne_none hRL).symm
      have RLd : RL ≠ d := (ne_of_none d8 hRL).symm
      generalize (upd H8 RL (.lst tvs8.reverse)) = H9 at e9 hB9 r9 d9 ⊢
      refine w_kList (SqL.of r9) ?_
      refine loopL (xs := tvs8.reverse) (fun dn r σ' H' => ∃ td tr kvs gr x8 x9 x10 x11 x12 x13 x14 x15, td ++ tr = ts.reverse ∧ td.length = dn.length ∧ TabsV B0 r tr ∧ BagAt H' b (170000 + dn.length) ∧ Ex B0 H' ∧ H' RL = some (.lst tvs8.reverse) ∧ H' d = some (.dK kvs) ∧ GivInv K B0 (del b H') rs td kvs gr ∧
          σ' = [some (.ref p), some (.int (i : Nat)), some (.ref b), some (.ref qt), some (.ref wa), some (.ref q), some (.ref sch), some (.ref d), x8, x9, x10, x11, x12, x13, x14, x15])
        ⟨[], ts.reverse, [], [], _, _, _, _, _, _, _, _, rfl, rfl, paired_rev htv8, hB9, e9, r9, d9, GivInv.nil, rfl⟩ (fun dn r σ' H' _ h => ?_) (fun dn y r σ' H' hdd h => ?_) (fun σ' H' h => ?_)
      · obtain ⟨_, _, _, _, _, _, _, _, _, _, _, _, _, _, _, _, _, hr9, _⟩ := h
        exact SqL.of hr9
      · obtain ⟨td, tr, kvs, gr, x8, x9, x10, x11, x12, x13, x14, x15, ets, ltd, hr', hB', e, hr9, hd', hI, rfl⟩ := h
        obtain ⟨t0, tr, rfl, ⟨ya0, cl0, rfl, hya0, _⟩, hr2⟩ := paired_cons hr'
        have hya' := e _ _ hya0
        refine w_gTup (SqT.of hya') rfl ⟨_, _, rfl, _, _, rfl, rfl, ?_⟩
        have tin0 : t0 ∈ ts := by
          have : t0 ∈ ts.reverse := by rw [← ets]; simp
          exact List.mem_reverse.mp this
        obtain ⟨ql0, qvs0, u1, u2, u3⟩ := geq t0 tin0
        have lq0 := paired_len u3
        have ldn : dn.length ≤ 5 := by
          have z := congrArg List.length ets
          rw [List.length_append, List.length_cons, List.length_reverse] at z
          omega
        have tn0 : t0.1 ∉ td.map (·.1) := by
          have z : (ts.reverse.map (·.1)).Nodup := by rw [List.map_reverse]; exact List.pairwise_reverse.mpr (hG.nodup.imp Ne.symm)
          rw [← ets, List.map_append, List.nodup_append] at z
          exact fun h => z.2.2 _ h _ List.mem_cons_self rfl
        obtain ⟨r0, rin0, er0⟩ : ∃ r0 ∈ rs, r0.1 = t0.1 := by
          have z : t0.1 ∈ rs.map (·.1) := by rw [nm]; exact List.mem_map.mpr ⟨t0, tin0, rfl⟩
          obtain ⟨r, hr, e⟩ := List.mem_map.mp z
          exact ⟨r, hr, e⟩
        have ro0 : rowsD rs (.str t0.1) = r0.2 := by
          show ((rs.lookup t0.1).getD []) = r0.2
          rw [← er0, look_own ndR r0 rin0]
          rfl
        refine joinC (R := fun bv H'' => Ex B0 H'' ∧ BagAt H'' b (170000 + dn.length + 1) ∧ Ex (del b H') H'' ∧ (bv = false → rowsD rs (.str t0.1) = [])) (fun Z hZ => ?_) (fun bv H'' h2 => ?_)
        · unfold tOr
          walk_at "w"
          refine ⟨q, .ref ql0, rfl, u1 ▸ DGet.k (k := Sum.inr t0.1) (e _ _ hq8), ?_⟩
          walk_at "w"
          intro L0 hL0
          have e10 : Ex B0 (upd H' L0 (.lst [])) := e.trans (Ex.new hL0)
          have hB10 := hB'.new (o := .lst []) hL0
          have f10 : (upd H' L0 (.lst [])) L0 = some (.lst []) := upd_same
          have d10 : Ex (del b H') (upd H' L0 (.lst [])) := ex_del.trans (Ex.new hL0)
          generalize (upd H' L0 (.lst [])) = H10 at e10 hB10 f10 d10 ⊢
          refine ⟨_, _, .lst (SqL.of (e10 _ _ u2)) (dp_rows (paired_imp (fun _ _ h => h.ext e10) u3) (okAt okR nm tin0).1), .lst (SqL.of f10) .nil, (okAt okR nm tin0).2, rfl, ?_⟩
          cases hrw : rowsD rs (.str t0.1) with
          | cons r0 rr =>
            refine ⟨true, rfl, iteT ?_⟩
            exact hZ _ _ ⟨e10, hB10.mono (by omega), d10, fun z => nomatch z⟩
          | nil =>
            refine ⟨false, rfl, iteF ?_⟩
            walk_at "w"
            refine ⟨b, 2, _, rfl, hB10, by omega, by decide, by decide, fun z H11 z0 z1 hB11 e11 => ?_⟩
            walk_at "w"
            exact hZ _ _ ⟨fun a o ha => e11 _ _ (by rw [del_ne (ne_of_none ha Bb)]; exact e10 _ _ ha), hB11, (ex_dd d10).trans e11, fun _ => hrw⟩
        · obtain ⟨e12, hB12, d12, hbv⟩ := h2
          have dd' : (del b H') d = some (.dK kvs) := by rw [del_ne bd.symm]; exact hd'
          have rr' : (del b H') RL = some (.lst tvs8.reverse) := by rw [del_ne RLb]; exact hr9
          have dH := d12 _ _ dd'
          have rH := d12 _ _ rr'
          have hI12 := hI.ext (ex_dd d12)
          cases bv with
          | false =>
            refine iteF ?_
            exact ⟨td ++ [t0], tr, kvs, gr, _, _, _, _, _, _, _, _, by rw [← ets, List.append_assoc]; rfl, by rw [List.length_append, List.length_append, ltd]; rfl, hr2, by rw [List.length_append]; exact hB12, e12, rH, dH, hI12.skip (hbv rfl), rfl⟩
          | true =>
            refine iteT ?_
            walk_at "w"
            refine ⟨q, .ref ql0, rfl, u1 ▸ DGet.k (k := Sum.inr t0.1) (e12 _ _ hq8), ?_⟩
            walk_at "w"
            refine w_listL (SqL.of (e12 _ _ u2)) fun L hL => ?_
            have Lb : L ≠ b := (hB12.ne_none hL).symm
            have Ld : L ≠ d := (ne_of_none dH hL).symm
            have nL : B0 L = none := by
              cases z : B0 L with
              | none => rfl
              | some o => rw [e12 _ _ z] at hL; cases hL
            have x13 := Ex.new (o := .lst qvs0) hL
            have hB13 := hB12.new (o := .lst qvs0) hL
            have e13 := e12.trans x13
            have d13 := x13 _ _ dH
            have r13 := x13 _ _ rH
            have L13 : (upd H'' L (.lst qvs0)) L = some (.lst qvs0) := upd_same
            have hI13 : GivInv K B0 (del b (upd H'' L (.lst qvs0))) rs td kvs gr := by
              rw [del_upd Lb.symm]
              exact hI12.ext (Ex.new (by rw [del_ne Lb]; exact hL))
            have frL : ∀ kv ∈ kvs, kv.2 ≠ V.ref L := fun kv hkv el => by
              obtain ⟨g, hg, _, l, vs, e2, hl, _⟩ := paired_mem hI12.ent kv hkv
              rw [el] at e2
              cases e2
              rw [(del_some hl).2] at hL
              cases hL
            generalize (upd H'' L (.lst qvs0)) = H13 at hB13 e13 d13 r13 L13 hI13 ⊢
            walk_at "w"
            have lkv : kvs.length ≤ 6 := by
              have a1 := paired_len hI13.ent
              have a2 : (gr.map (·.1)).length ≤ (rs.map (·.1)).length := List.Nodup.length_le_of_subset hI13.nd fun x hx => by
                obtain ⟨r, hr, rfl⟩ := List.mem_map.mp hx
                exact List.mem_map.mpr ⟨r, hI13.sub r hr, rfl⟩
              rw [nm, List.length_map, List.length_map] at a2
              omega
            refine ⟨d, _, rfl, DPut.k (k := Sum.inr t0.1) d13 (Nat.lt_of_le_of_lt (m := 100) (by omega) (by decide)), ?_⟩
            have ngr : t0.1 ∉ gr.map (·.1) := fun h => by
              obtain ⟨r, hr, e⟩ := List.mem_map.mp h
              exact tn0 (by rw [← e]; exact hI13.nms r hr)
            rw [putK_new (rent_none hI13.ent ngr)]
            have db13 : (del b H13) d = some (.dK kvs) := by rw [del_ne bd.symm]; exact d13
            have u13 : Paired (RowAt K (del b H13)) qvs0 r0.2 := by
              rw [← ro0]
              exact paired_imp (fun _ _ h => h.ext fun a o ha => by rw [del_ne (ne_of_none ha Bb)]; exact e13 _ _ ha) u3
            refine ⟨td ++ [t0], tr, kvs ++ [(Sum.inr t0.1, .ref L)], gr ++ [r0], _, _, _, _, _, _, _, _, by rw [← ets, List.append_assoc]; rfl, by rw [List.length_append, List.length_append, ltd]; rfl, hr2, by rw [List.length_append]; exact hB13.upd bd, e13.mut dB, by rw [upd_ne RLd]; exact r13, upd_same, ?_, rfl⟩
            rw [del_upd bd]
            exact (GivInv.put hI13 rin0 er0 tn0 (by rw [del_ne Lb]; exact L13) u13 nL frL).putD db13
      · obtain ⟨td, tr, kvs, gr, x8, x9, x10, x11, x12, x13, x14, x15, ets, ltd, hr', hB', e, hr9, hd', hI, rfl⟩ := h
        have etr : tr = [] := by cases hr'; rfl
        subst etr
        rw [List.append_nil] at ets
        subst ets
        have ldn : tvs8.reverse.length ≤ 6 := by rw [List.length_reverse]; omega
        clear ltd
        replace hB' := hB'.mono (show 170000 + tvs8.reverse.length ≤ 170006 by omega)
        have szR := fill_sz hG hF
        have gvn : GivenAt K H' (.ref d) (givD gr) := giv_rows ⟨kvs, hd', (hI.ext ex_del).ent⟩ fun r hr => szR r (hI.sub r hr)
        have hst : storeF (givD gr) [] ts = .inr rs := fill_store hF fun r hr => by
          obtain ⟨t, ht, et, er⟩ := fill_in hG hF r hr
          by_cases z : r.1 ∈ gr.map (·.1)
          · obtain ⟨r', hr', e'⟩ := List.mem_map.mp z
            have e' : r'.1 = r.1 := e'
            have l1 := look_own ndR r hr
            have l2 := look_own ndR r' (hI.sub r' hr')
            rw [e', l1] at l2
            injection l2 with l2
            have := giv_look hI.nd r' hr'
            rw [e', ← l2] at this
            exact this
          · have e0 : r.2 = [] := by
              rcases hI.all t (List.mem_reverse.mpr ht) with w | w
              · exact absurd (et ▸ w) z
              · rw [← er, w]
            rw [e0, lookup_out (l := givD gr) (n := r.1) (by unfold givD; rw [List.map_map]; exact z)]
            rfl
        have few : ∀ g ∈ givD gr, g.2.length ≤ 10000 := giv_few (k := 6) (fun r hr => lrs r (hI.sub r hr)) (by decide)
        walk_at "w"
        refine w_make ?_
        walk_at "w"
        intro st dx2 hst0 hdx2 hne2
        refine mk_store (SB.ext e) hG (by omega) gvn few hst nm (fun H1 e1 hN => ?_) hst0 hdx2 hne2
        walk_at "w"
        have d1 := e1 _ _ hd'
        refine w_listD7 d1 fun KL hKL => ?_
        have x2 := Ex.new (o := .lst (kvs.map fun kv => kV kv.1)) hKL
        have hB2 := (hB'.ext e1).new (o := .lst (kvs.map fun kv => kV kv.1)) hKL
        have e2 := e1.trans x2
        have KL2 : (upd H1 KL (.lst (kvs.map fun kv => kV kv.1))) KL = some (.lst (kvs.map fun kv => kV kv.1)) := upd_same
        have d2 := x2 _ _ d1
        have hN2 := hN.ext x2
        generalize (upd H1 KL (.lst (kvs.map fun kv => kV kv.1))) = H2 at x2 hB2 e2 KL2 d2 hN2 ⊢
        obtain ⟨G, hGd⟩ : ∃ G : Addr → Bool, ∀ a, G a = true ↔ (a = b ∨ V.ref a ∈ kvs.map (·.2)) := ⟨fun a => @decide _ (Classical.propDecidable (a = b ∨ V.ref a ∈ kvs.map (·.2))), fun a => by simp⟩
        have GB : ∀ a, G a = true → B0 a = none := fun a ha => by
          rcases (hGd a).1 ha with h | h
          · rw [h]; exact Bb
          · obtain ⟨kv, hkv, el⟩ := List.mem_map.mp h
            exact hI.new kv hkv a el
        have Lls : ∀ kv ∈ kvs, ∀ l, kv.2 = V.ref l → l ≠ b ∧ ∃ vs, H' l = some (.lst vs) := fun kv hkv l el => by
          obtain ⟨g, _, _, l', vs, e', hl, _⟩ := paired_mem hI.ent kv hkv
          rw [el] at e'
          cases e'
          exact ⟨(del_some hl).1, vs, (del_some hl).2⟩
        have GH : ∀ a, G a = true → H' a ≠ none ∧ ∃ xs, H2 a = some (.lst xs) := fun a ha => by
          rcases (hGd a).1 ha with h | h
          · obtain ⟨_, _, _, hb, _⟩ := hB'.ex
            rw [h]
            exact ⟨(by rw [hb]; exact fun z => nomatch z), _, e2 _ _ hb⟩
          · obtain ⟨kv, hkv, el⟩ := List.mem_map.mp h
            obtain ⟨_, vs, hl⟩ := Lls kv hkv a el
            exact ⟨(by rw [hl]; exact fun z => nomatch z), _, e2 _ _ hl⟩
        have eBE : Ex B0 (delS G H2) := ex_inS (e.trans e2) GB
        have hSt : StoreAt K CS C (delS G H2) st tl.1 ts rs := hN2.keep GH (SB.ext eBE)
        have Gd : G d = false := by
          cases z : G d with
          | false => rfl
          | true => obtain ⟨_, xs, h⟩ := GH d z; rw [d2] at h; cases h
        have GK : G KL = false := by
          cases z : G KL with
          | false => rfl
          | true =>
            have h := (GH KL z).1
            cases y : H' KL with
            | none => exact absurd y h
            | some o => rw [e1 _ _ y] at hKL; cases hKL
        have Eb : delS G H2 b = none := by unfold delS; rw [(hGd b).2 (.inl rfl)]; rfl
        have EL : ∀ kv ∈ kvs, ∀ l, kv.2 = V.ref l → delS G H2 l = none := fun kv hkv l el => by
          unfold delS
          rw [(hGd l).2 (.inr (List.mem_map.mpr ⟨kv, hkv, el⟩))]
          rfl
        have Ed : delS G H2 d = some (.dK kvs) := by rw [delS_ne Gd]; exact d2
        have EK : delS G H2 KL = some (.lst (kvs.map fun kv => kV kv.1)) := by rw [delS_ne GK]; exact KL2
        have eE2 : Ex (delS G H2) H2 := ex_delS
        have ent2 : Paired (RowsEnt K H2) kvs gr := paired_imp (fun _ _ h => h.ext (ex_del.trans e2)) hI.ent
        generalize delS G H2 = E0 at eBE hSt Eb EL Ed EK eE2
        refine w_kList (SqL.of KL2) ?_
        refine loopL (xs := kvs.map fun kv => kV kv.1) (fun dn r σ' H3 => ∃ kr grr x8, r = kr.map (fun kv => kV kv.1) ∧ Ex E0 H3 ∧ BagAt H3 b 170006 ∧ Paired (RowsEnt K H3) kr grr ∧ (∀ kv ∈ kr, kv ∈ kvs) ∧ (∀ r ∈ grr, r ∈ rs) ∧ (kr.map (·.2)).Nodup ∧
            σ' = [some (.ref p), some (.int (i : Nat)), some (.ref b), some (.ref qt), some (.ref wa), some (.ref q), some (.ref sch), some (.ref d), x8, x9, some (.ref st), x11, x12, x13, x14, x15])
          ⟨kvs, gr, _, rfl, eE2, hB2, ent2, fun _ h => h, hI.sub, hI.apart, rfl⟩ (fun dn r σ' H3 _ h => ?_) (fun dn y r σ' H3 hdd h => ?_) (fun σ' H3 h => ?_)
        · obtain ⟨_, _, _, _, e3, _⟩ := h
          exact SqL.of (e3 _ _ EK)
        · obtain ⟨kr, grr, y8, ekr, e3, hB3, hr3, sub3, subr, nd3, rfl⟩ := h
          cases kr with
          | nil => cases ekr
          | cons kv kr =>
          rw [List.map_cons] at ekr
          injection ekr with ey er
          cases hr3 with
          | @cons _ g _ grr hkv hr3 =>
          have ey : y = V.str g.1 := by rw [ey, hkv.1]; rfl
          subst ey
          have kin := sub3 kv List.mem_cons_self
          have gin := subr g List.mem_cons_self
          obtain ⟨f1, L, vs, f2, hL, hv⟩ := id hkv
          have vv := valV_own hI.ent hI.nd kv kin
          rw [f1, f2] at vv
          obtain ⟨t, ht, et, eg⟩ := fill_in hG hF g gin
          obtain ⟨ql, qvs, u1, u2, u3⟩ := geq t ht
          have oo := okAt okR nm ht
          rw [et] at u1 u3 oo eg
          rw [eg] at u3 oo
          have eB3 := eBE.trans e3
          have llv := paired_len hv
          have l6 := lrs g gin
          have same : PyData.eqv (.list (g.2.map PyData.tuple)) (.list (g.2.map PyData.tuple)) = true := PySem.SeqAt.eqv_refl _ (SeqAt.canLay_of_shaped oo.2)
          walk_at "w"
          refine ⟨d, .ref L, rfl, vv ▸ DGet.k (k := Sum.inr g.1) (e3 _ _ Ed), ?_⟩
          walk_at "w"
          refine ⟨q, .ref ql, rfl, u1 ▸ DGet.k (k := Sum.inr g.1) (eB3 _ _ hq8), ?_⟩
          refine ⟨_, _, .lst (SqL.of hL) (dp_rows hv oo.1), .lst (SqL.of (eB3 _ _ u2)) (dp_rows (paired_imp (fun _ _ h => h.ext eB3) u3) oo.1), oo.2, oo.2, ?_⟩
          rw [same]
          walk_at "w"
          refine ⟨d, .ref L, rfl, vv ▸ DGet.k (k := Sum.inr g.1) (e3 _ _ Ed), w_tyL hL ?_⟩
          walk_at "w"
          intro T hT
          have LT : L ≠ T := ne_of_none hL hT
          have e4 : Ex E0 (upd H3 T (.tup [.str (Str.ofString "late")])) := e3.trans (Ex.new hT)
          have hB4 := hB3.new (o := .tup [.str (Str.ofString "late")]) hT
          have L4 := Ex.new (o := .tup [.str (Str.ofString "late")]) hT _ _ hL
          have ent4 : Paired (RowsEnt K (upd H3 T (.tup [.str (Str.ofString "late")]))) kr grr := paired_imp (fun _ _ h => h.ext (Ex.new hT)) hr3
          generalize (upd H3 T (.tup [.str (Str.ofString "late")])) = H4 at e4 hB4 L4 ent4 ⊢
          walk_at "ws"
          rw [List.map_cons, List.nodup_cons] at nd3
          have Lb := (Lls kv kin L f2).1
          refine ⟨kr, grr, _, er, e4.mut (EL kv kin L f2), hB4.upd Lb.symm, ?_, fun q hq => sub3 q (List.mem_cons_of_mem _ hq), fun q hq => subr q (List.mem_cons_of_mem _ hq), nd3.2, rfl⟩
          have z : ∀ {kr : List (Key × V)} {grr : RowsD}, Paired (RowsEnt K H4) kr grr → (∀ q ∈ kr, q.2 ≠ V.ref L) → Paired (RowsEnt K (upd H4 L (.lst (vs ++ [.ref T])))) kr grr := fun {kr grr} h => by
            induction h with
            | nil => exact fun _ => .nil
            | cons h _ ih => exact fun f => .cons (h.putL L4 (f _ List.mem_cons_self)) (ih fun q hq => f q (List.mem_cons_of_mem _ hq))
          exact z ent4 fun q hq eq => nd3.1 (List.mem_map.mpr ⟨q, hq, by rw [eq, f2]⟩)
        · obtain ⟨kr, grr, y8, ekr, e3, hB3, hr3, sub3, subr, nd3, rfl⟩ := h
          clear hr3 sub3 subr nd3 ekr
          obtain ⟨⟨sch', dr, skvs, hPS, hSS⟩, _⟩ := id hSt
          obtain ⟨dxS, fsS, hpS, hfS1, hfS2, hfS3⟩ := hPS.ins
          walk_at "w"
          refine w_kFld (e3 _ _ hpS) ST.cls ST.schema_ hfS1 ?_
          have uok : SOk tl.1 := (hG.names tl tlin).ok
          walk_at "w"
          refine sch_ne (hSS.ext e3) hG uok (SB.ext (eBE.trans e3)) hG uok ?_
          rw [decide_eq_true rfl]
          walk_at "w"
          have eB3 := eBE.trans e3
          have tsR : TabsR K B0 qt ts := tsB.read
          have few : Few ts := hG.few (by omega)
          have fit : RowsFit ts rs := fill_fit hG hF lrs (by decide)
          have nds : ∀ t ∈ ts, (t.2.map Col.name).Nodup := fun t ht => by
            obtain ⟨td, tr, e⟩ := List.append_of_mem ht
            exact (hG.split td t tr e).2.2.2.nd
          have shs : ∀ t ∈ ts, ∀ c ∈ t.2, SeqAt.shaped (.str c.name) = true := fun t ht c hc => by
            obtain ⟨td, tr, e⟩ := List.append_of_mem ht
            exact sh_str ((hG.split td t tr e).2.2.2.nm c hc).ok
          have lcs : ∀ t ∈ ts, t.2.length ≤ 1000 := fun t ht => Nat.le_trans (hG.cols t ht) (by decide)
          have lz : lenS rs ≤ 90000 := by
            have z : ∀ l : RowsD, (∀ r ∈ l, r.2.length ≤ 6) → lenS l ≤ 6 * l.length := fun l => by
              induction l with
              | nil => exact fun _ => Nat.zero_le _
              | cons r l ih =>
                intro h
                have a := h r List.mem_cons_self
                have b := ih fun x hx => h x (List.mem_cons_of_mem _ hx)
                have e : lenS (r :: l) = r.2.length + lenS l := by
                  unfold lenS
                  rw [List.map_cons,
                          List.sum_cons]
                rw [e, List.length_cons]
                omega
            have a := z rs lrs
            have b := congrArg List.length nm
            rw [List.length_map, List.length_map] at b
            omega
          have rows_at : ∀ {H' : Hp}, Ex B0 H' → RowsAt K H' q rs := fun e => ⟨qkvs, e _ _ hq8, paired_imp (fun _ _ h => h.ext e) hqk⟩
          refine ⟨st, qt, q, tl.1, ts, rs, rfl, hSt.ext e3, tsR.ext eB3, few, hG, rows_at eB3, fit, okR, nds, shs, lcs, hG.nodup, lz, fun H5 e5 => ?_⟩
          have e35 := e3.trans e5
          have eB5 := eBE.trans e35
          walk_at "w"
          refine ⟨st, qt, q, tl.1, ts, rs, rfl, hSt.ext e35, tsR.ext eB5, few, hG, rows_at eB5, fit, okR, nds, shs, lcs, hG.nodup, lz, fun H6 e6 => ?_⟩
          have e06 := e35.trans e6
          have eB6 := eBE.trans e06
          have hB6 := hB3.ext (e5.trans e6)
          clear e35 eB5 e5 e6 hB3 eB3 e3 hSS
          walk_at "w"
          refine w_make ?_
          walk_at "w"
          intro sm dx3 hsm hdx3 hne3
          refine mk_store (SB.ext eB6) hG (by omega) (giv_rows (rows_at eB6) szR) (giv_few lrs (by decide)) (fill_store hF fun r hr => giv_look ndR r hr) nm (fun H7 e7 hN7 => ?_) hsm hdx3 hne3
          have eB7 := eB6.trans e7
          have hB7 := hB6.ext e7
          have toB : ∀ {H' : Hp}, Ex B0 H' → Ex B0 (del b H') := fun e a o h => by rw [del_ne (ne_of_none h Bb)]; exact e _ _ h
          have e07 : Ex E0 (del b H7) := fun a o h => by rw [del_ne (ne_of_none h Eb)]; exact e7 _ _ (e06 _ _ h)
          have hSm : StoreAt K CS C (del b H7) sm tl.1 ts rs := hN7.noBag hB6 e7 (SB.ext (toB eB7))
          walk_at "w"
          refine other_join (n := 170006) (ts := ts) (rs := rs) (ws := ws) hB7 (by decide) (tsR.ext (toB eB7)) hG (fun z => by rw [z] at l1; simp at l1) (by omega) (rows_at (toB eB7)) hF (fun r hr => Nat.le_trans (lrs r hr) (by decide)) (Evl.ex_l (toB eB7) wB) (by rw [hws]; simp) (by rw [hws]; simp) wok fun ov H8 hO hB8 e8 => ?_
          walk_at "w"
          have e08 := e07.trans e8
          have eB8 := (toB eB7).trans e8
          have hSt8 := hSt.ext e08
          have hSm8 := hSm.ext e8
          refine sto_eq hSt8 hG uok okR hSm8 hG uok okR ?_
          rw [eqSt_own ndR okR]
          refine ⟨true, rfl, iteF ?_⟩
          walk_at "w"
          refine sto_ne hSt8 hG uok okR hSm8 hG uok okR ?_
          rw [eqSt_own ndR okR]
          refine ⟨false, rfl, iteF ?_⟩
          walk_at "w"
          have hX : ∃ X, X = [V.non, V.ref d, V.ref q, V.int 0, V.ref sch] := ⟨_, rfl⟩
          obtain ⟨X, hX⟩ := hX
          rw [← hX]
          intro T9 hT9
          have x9 := Ex.new (o := .tup X) hT9
          have f9 : (upd H8 T9 (.tup X)) T9 = some (.tup X) := upd_same
          generalize (upd H8 T9 (.tup X)) = H9 at x9 f9 ⊢
          refine w_kTup (SqT.of f9) ?_
          have hd8 := e08 _ _ Ed
          have hS8 := SB.ext eB8
          obtain ⟨dxc, fsc, hsc⟩ := hS8.ins
          have odd : ∀ v ∈ X, OddS K C H8 v := fun v hv => by
            rw [hX] at hv
            simp only [List.mem_cons, List.not_mem_nil, or_false] at hv
            rcases hv with rfl | rfl | rfl | rfl | rfl
            · exact .non
            · exact .dict hd8
            · exact .dict (eB8 _ _ hq8)
            · exact .int 0
            · exact .sch hsc S.cls
          have oddE : ∀ {H' : Hp} {v : V}, Ex H8 H' → OddS K C H8 v → OddS K C H' v := fun e o => by
            cases o with
            | non => exact .non
            | int i => exact .int i
            | dict h => exact .dict (e _ _ h)
            | sch h c => exact .sch (e _ _ h) c
          intro D9 hD9
          refine compQT X (fun v z => v = z) (fun _ => some false) (fun v y => v = V.bl y) hD9 (SqT.of f9) (by rw [hX]; simp) (by rw [hX]; exact .cons rfl (.cons rfl (.cons rfl (.cons rfl (.cons rfl .nil))))) (fun y z hy hm H10 e10 kk kn hk hkn => ?_) (fun acc H10 e10 hacc hp2 => ?_)
          · subst hy
            walk_at "w"
            refine sto_odd (hSt8.ext (x9.trans e10)) hG uok okR nsub (oddE (x9.trans e10) (odd y hm)) ?_
            exact hk _ _ _ (Ex.refl _) rfl rfl
          rw [filterMap_some] at hp2
          have ev2 := vals_bls hp2
          walk_at "w"
          refine w_any (bs := X.map fun _ => false) (SqL.of (ev2 ▸ hacc)) ?_
          have none_ : (X.map fun _ => false).any id = false := by
            rw [List.any_eq_false]
            intro x hx
            obtain ⟨_, _, rfl⟩ := List.mem_map.mp hx
            decide
          refine ⟨_, rfl, ?_⟩
          rw [none_]
          refine iteF ?_
          have x10 := x9.trans e10
          have hSt10 := hSt8.ext x10
          have eB10 := eB8.trans x10
          have hO10 : OthAt K b ts rs ov H10 := by
            rcases hO with h | ⟨o, rs', h1, h2, h3, h4, h5, kv, h6, h7⟩
            · exact .inl h
            · exact .inr ⟨o, rs', h1, h2, h3, h4, h5, kv, (ex_del.trans x10) _ _ h6, paired_imp (fun _ _ h => h.ext (ex_del.trans x10)) h7⟩
          clear hO odd oddE hacc hp2 ev2 none_ x9 f9 e10 hX hSm8 hSm hSt8
          refine go_next ?_
          with_reducible refine' joinI (R := fun σ' H11 => ∃ y14, σ' = [some (.ref p), some (.int (i : Nat)), some (.ref b), some (.ref qt), some (.ref wa), some (.ref q), some (.ref sch), some (.ref d), y8, x9, some (.ref st), some (.ref sm), some ov, x13, y14, x15] ∧ Ex H10 H11) (fun Z hZ => ?_) (fun σ' H11 h11 => ?_)
          · refine w_ifS7 ?_
            walk_at "w"
            rcases hO10 with rfl | ⟨o, rs', rfl, hF', lrs', n1, n2, hR'⟩
            · refine iteND (fun h => absurd rfl h) (fun _ => ?_)
              exact hZ _ _ ⟨_, rfl, Ex.refl _⟩
            · refine iteND (fun _ => ?_) (fun h => nomatch h)
              have nm' := hF'.names
              have ndR' : (rs'.map (·.1)).Nodup := by rw [nm']; exact hG.nodup
              have okR' := fill_ok hG hF'
              walk_at "w"
              refine w_make ?_
              walk_at "w"
              intro ch dx4 hch hdx4 hne4
              refine mk_store (SB.ext eB10) hG (by omega) (giv_rows hR' (fill_sz hG hF')) (giv_few lrs' (by decide)) (fill_store hF' fun r hr => giv_look ndR' r hr) nm' (fun H11 e11 hN11 => ?_) hch hdx4 hne4
              have hCh := hN11.at e11
              have hSt11 := hSt10.ext e11
              walk_at "w"
              refine sto_eq hCh hG uok okR' hSt11 hG uok okR ?_
              rw [eqSt_rows n2]
              refine ⟨false, rfl, iteF ?_⟩
              walk_at "w"
              refine sto_ne hSt11 hG uok okR hCh hG uok okR' ?_
              rw [eqSt_rows n1]
              refine ⟨true, rfl, iteF ?_⟩
              exact hZ _ _ ⟨_, rfl, e11⟩
          · obtain ⟨y14, rfl, e11⟩ := h11
            clear hO10
            have hSt11 := hSt10.ext e11
            have eB11 := eB10.trans e11
            walk_at "w"
            refine w_make ?_
            walk_at "w"
            intro em dx5 hem hdx5 hne5
            refine mk_store (given := []) (SB.ext eB11) hG (by omega) (.inl ⟨rfl, rfl⟩) (fun _ h => nomatch h) (bare_store hG) (bare_names ts) (fun H12 e12 hN12 => ?_) hem hdx5 hne5
            have hEm := hN12.at e12
            have hSt12 := hSt11.ext e12
            have eB12 := eB11.trans e12
            obtain ⟨dxE, fsE, hiE⟩ := sto_ins hEm
            obtain ⟨dxS2, fsS2, hiS⟩ := sto_ins hSt12
            walk_at "w"
            refine ⟨em, dxE, fsE, rfl, hiE, em, tl.1, ts, bare7 ts, rfl, hEm, hG.nodup, by rw [bare_len]; decide, fun H13 e13 => ⟨_, rfl, by rw [bare_len]; decide, ?_⟩⟩
            rw [bare_len]
            walk_at "w"
            refine iteND (fun h => absurd rfl h) (fun _ => ?_)
            have hEm13 := hEm.ext e13
            have hSt13 := hSt12.ext e13
            have okE : RowsOk (bare7 ts) := fun r hr => by
              rw [bare_rows ts r hr]
              exact ⟨fun row h => (nomatch h), rfl⟩
            walk_at "w"
            refine sto_eq hEm13 hG uok okE hSt13 hG uok okR ?_
            rw [eqSt_rows (bare_eq hG.nodup nm)]
            refine ⟨_, rfl, ?_⟩
            walk_at "w"
            refine ⟨st, dxS2, fsS2, rfl, e13 _ _ hiS, st, tl.1, ts, rs, rfl, hSt13, hG.nodup, lz, fun H14 e14 => ⟨_, rfl, Nat.le_trans lz (by decide), ?_⟩⟩
            walk_at "w"
            have eB14 := eB12.trans (e13.trans e14)
            have hEm14 := hEm13.ext e14
            have same0 : V.bl (decide (lenS rs = 0)) = V.bl (decide (V.int (lenS rs : Nat) = V.int 0)) := by
              by_cases h : lenS rs = 0
              · rw [decide_eq_true h, h]
                rfl
              · rw [decide_eq_false h, decide_eq_false]
                intro z
                injection z with z
                omega
            refine iteND (fun h => absurd same0 h) (fun _ => ?_)
            obtain ⟨y0, hy0⟩ : ∃ y0, tvs8[0]? = some y0 := ⟨_, List.getElem?_eq_getElem (by omega)⟩
            obtain ⟨t0, ht0, ya0, cl00, rfl, hya0, _⟩ := paired_ix htv8 hy0
            have t0in : t0 ∈ ts := List.mem_of_getElem? ht0
            obtain ⟨⟨schE, drE, kvE, hPE, hSE⟩, _⟩ := id hEm14
            obtain ⟨dxE2, fsE2, hiE2, _, _, hnE⟩ := hPE.ins
            have hqt14 := eB14 _ _ hqt8
            have hya14 := eB14 _ _ hya0
            walk_at "w"
            refine w_kMeth hiE2 (hnE _ (by decide +kernel) (by decide +kernel)) ?_
            walk_at "w"
            refine w_ixL (SqL.of hqt14) (atI_nat (j := 0) hy0) ?_
            walk_at "w"
            refine ⟨em, .str t0.1, .str t0.1, tl.1, ts, bare7 ts, rfl, hEm14, .str _, by rw [bare_D]; exact Nat.zero_le _, .inl ⟨decide_eq_true (List.mem_map.mpr ⟨t0, t0in, rfl⟩), fun L15 xs15 H15 e15 hL15 hLx15 hxs15 => ?_⟩⟩
            rw [bare_D] at hxs15
            cases hxs15
            walk_at "w"
            intro L16 hL16
            have x16 := Ex.new (o := .lst []) hL16
            have f16 : (upd H15 L16 (.lst [])) L16 = some (.lst []) := upd_same
            generalize (upd H15 L16 (.lst [])) = H16 at x16 f16 ⊢
            refine ⟨_, _, .lst (SqL.of (x16 _ _ hLx15)) .nil, .lst (SqL.of f16) .nil, rfl, rfl, ?_⟩
            refine ⟨false, rfl, iteF ?_⟩
            have e416 := e15.trans x16
            have eB16 := eB14.trans e416
            have hSt16 := (hSt13.ext e14).ext e416
            have hqt16 := eB16 _ _ hqt8
            have hya16 := eB16 _ _ hya0
            walk_at "w"
            refine w_make ?_
            walk_at "w"
            refine w_make ?_
            walk_at "w"
            refine w_ixL (SqL.of hqt16) (atI_nat (j := 0) hy0) ?_
            walk_at "w"
            intro sc2 dx6 hsc2 hdx6 hne6
            have eNx6 : Ex H16 (upd (upd H16 dx6 (.own sc2)) sc2 (.ins C dx6 [])) := (Ex.new hdx6).trans (Ex.new (by rw [upd_ne (Ne.symm hne6)]; exact hsc2))
            refine ⟨sc2, qt, dx6, t0.1, ts, rfl, upd_same, (tsB.ext eB16).ext eNx6, hG, by omega, by omega, List.mem_map.mpr ⟨t0, t0in, rfl⟩, fun H17 hOx7 hSc2 => ⟨rfl, ?_⟩⟩
            have e17 : Ex H16 H17 := fun c o h => hOx7 c o (eNx6 c o h) fun z => by rw [List.mem_singleton.mp z, hsc2] at h; cases h
            have eB17 := eB16.trans e17
            walk_at "w"
            intro la dx7 hla hdx7 hne7
            refine mk_store hSc2 hG (by omega) (giv_rows (rows_at eB17) szR) (giv_few lrs (by decide)) (fill_store hF fun r hr => giv_look ndR r hr) nm (fun H18 e18 hN18 => ?_) hla hdx7 hne7
            have hLa := hN18.at e18
            have uok0 : SOk t0.1 := (hG.names t0 t0in).ok
            walk_at "w"
            refine sto_eq hLa hG uok0 okR ((hSt16.ext e17).ext e18) hG uok okR ?_
            have users : eqSt t0.1 tl.1 ts ts rs rs = decide (ts.length = 1) := by
              unfold eqSt
              rw [eq_own ndR okR, Bool.and_true]
              by_cases h1 : ts.length = 1
              · rw [decide_eq_true h1, decide_eq_true]
                rw [ltv, h1] at htl
                have z : t0 = tl := by
                  have a : ts[0]? = some tl := htl
                  rw [ht0] at a
                  exact Option.some.inj a
                rw [z]
              · rw [decide_eq_false h1, decide_eq_false]
                rw [user_lines]
                intro z
                rw [ltv] at htl
                obtain ⟨g1, g2⟩ := List.getElem?_eq_some_iff.mp ht0
                obtain ⟨g3, g4⟩ := List.getElem?_eq_some_iff.mp htl
                have pw := List.pairwise_iff_getElem.1 hG.nodup 0 (ts.length - 1) (by rw [List.length_map]; omega) (by rw [List.length_map]; omega) (by omega)
                rw [List.getElem_map, List.getElem_map, g2, g4] at pw
                exact pw z
            rw [users]
            refine ⟨_, rfl, ?_⟩
            have hqt18 := (eB17.trans e18) _ _ hqt8
            walk_at "w"
            have same1 : V.bl (decide (ts.length = 1)) = V.bl (decide (V.int (tvs8.length : Nat) = V.int 1)) := by
              rw [ltv8]
              by_cases h : ts.length = 1
              · rw [decide_eq_true h, h]
                rfl
              · rw [decide_eq_false h, decide_eq_false]
                intro z
                injection z with z
                omega
            refine iteND (fun h => absurd same1 h) (fun _ => ?_)
            exact ⟨_, _, _, _, _, _, _, _, _, _, _, _, _, _, _, rfl, nB.trans (eB17.trans e18)⟩
end
end LP
namespace LP
open PySem.Spec PyProof.Rows PySem L2
theorem k07_facts {w : World} {K : PySem.W.Frag} {h : Heap} {mg : Str → Option Value} {f : Addr} (X : K.In h) (G : h.Ns mainGlobals mg) (hfa : mg ("law" : Str) = some (.ref f)) (c : k07_tell.Ok w h K) :
    LamX.LawAtS PySem.Challenge.rw_listandpage_k07_stores_made w K C8.CX0 9 63 "script" mg f h := by
  have exq : ∀ (i : Nat) (e : PySem.W.Frag → Bool), k07_ex[i]? = some e → e K = true := fun i e hi => List.all_eq_true.mp (show (k07_ex.all fun e => e K) = true from c.x.more) e (List.mem_of_getElem? hi)
  obtain ⟨fd_is_integer, D_is_integer, df_is_integer⟩ := told_def c.x.t.d 0 (x := "is_integer") (st := s_is_integer) rfl (He.glo_ok X G (c.x.t.d.fact 0 (f := .glo "is_integer") rfl))
  have b_is_integer : Binds K fd_is_integer ["value"] [] := D_is_integer.fn.binds df_is_integer (ps := ["value"]) fun _ _ _ _ _ _ us hl => match us, hl with | [_], _ => rfl
  obtain ⟨fd_is_index, D_is_index, df_is_index⟩ := told_def c.x.t.d 1 (x := "is_index") (st := s_is_index) rfl (He.glo_ok X G (c.x.t.d.fact 1 (f := .glo "is_index") rfl))
  have b_is_index : Binds K fd_is_index ["value", "count"] [] := D_is_index.fn.binds df_is_index (ps := ["value", "count"]) fun _ _ _ _ _ _ us hl => match us, hl with | [_, _], _ => rfl
  obtain ⟨fd_is_letters, D_is_letters, df_is_letters⟩ := told_def c.x.t.d 2 (x := "is_letters") (st := s_is_letters) rfl (He.glo_ok X G (c.x.t.d.fact 2 (f := .glo "is_letters") rfl))
  have b_is_letters : Binds K fd_is_letters ["value"] [] := D_is_letters.fn.binds df_is_letters (ps := ["value"]) fun _ _ _ _ _ _ us hl => match us, hl with | [_], _ => rfl
  obtain ⟨fd_is_word, D_is_word, df_is_word⟩ := told_def c.x.t.d 3 (x := "is_word") (st := s_is_word) rfl (He.glo_ok X G (c.x.t.d.fact 3 (f := .glo "is_word") rfl))
  have b_is_word : Binds K fd_is_word ["value"] [] := D_is_word.fn.binds df_is_word (ps := ["value"]) fun _ _ _ _ _ _ us hl => match us, hl with | [_], _ => rfl
  obtain ⟨fd_is_link, D_is_link, df_is_link⟩ := told_def c.x.t.d 4 (x := "is_link") (st := s_is_link) rfl (He.glo_ok X G (c.x.t.d.fact 4 (f := .glo "is_link") rfl))
  have b_is_link : Binds K fd_is_link ["column"] [] := D_is_link.fn.binds df_is_link (ps := ["column"]) fun _ _ _ _ _ _ us hl => match us, hl with | [_], _ => rfl
  obtain ⟨fd_has_list, D_has_list, df_has_list⟩ := told_def c.x.t.d 5 (x := "has_list") (st := s_has_list) rfl (He.glo_ok X G (c.x.t.d.fact 5 (f := .glo "has_list") rfl))
  have b_has_list : Binds K fd_has_list ["column"] [] := D_has_list.fn.binds df_has_list (ps := ["column"]) fun _ _ _ _ _ _ us hl => match us, hl with | [_], _ => rfl
  obtain ⟨fd_may_lack, D_may_lack, df_may_lack⟩ := told_def c.x.t.d 6 (x := "may_lack") (st := s_may_lack) rfl (He.glo_ok X G (c.x.t.d.fact 6 (f := .glo "may_lack") rfl))
  have b_may_lack : Binds K fd_may_lack ["column"] [] := D_may_lack.fn.binds df_may_lack (ps := ["column"]) fun _ _ _ _ _ _ us hl => match us, hl with | [_], _ => rfl
  obtain ⟨fd_write_lines, D_write_lines, df_write_lines⟩ := told_def c.x.t.d 7 (x := "write_lines") (st := s_write_lines) rfl (He.glo_ok X G (c.x.t.d.fact 7 (f := .glo "write_lines") rfl))
  have b_write_lines : Binds K fd_write_lines ["user", "columns"] [] := D_write_lines.fn.binds df_write_lines (ps := ["user", "columns"]) fun _ _ _ _ _ _ us hl => match us, hl with | [_, _], _ => rfl
  obtain ⟨fd__write_column, D__write_column, df__write_column⟩ := told_def c.x.t.d 8 (x := "_write_column") (st := s__write_column) rfl (He.glo_ok X G (c.x.t.d.fact 8 (f := .glo "_write_column") rfl))
  have b__write_column : Binds K fd__write_column ["column"] [] := D__write_column.fn.binds df__write_column (ps := ["column"]) fun _ _ _ _ _ _ us hl => match us, hl with | [_], _ => rfl
  obtain ⟨fd__meets, D__meets, df__meets⟩ := told_def c.x.t.d 9 (x := "_meets") (st := s__meets) rfl (He.glo_ok X G (c.x.t.d.fact 9 (f := .glo "_meets") rfl))
  have b__meets : Binds K fd__meets ["index", "columns", "meeting"] [] := D__meets.fn.binds df__meets (ps := ["index", "columns", "meeting"]) fun _ _ _ _ _ _ us hl => match us, hl with | [_, _, _], _ => rfl
  obtain ⟨fd__law_start, D__law_start, df__law_start⟩ := told_def c.x.t.d 10 (x := "_law_start") (st := s__law_start) rfl (He.glo_ok X G (c.x.t.d.fact 10 (f := .glo "_law_start") rfl))
  have b__law_start : Binds K fd__law_start ["script", "at"] [] := D__law_start.fn.binds df__law_start (ps := ["script", "at"]) fun _ _ _ _ _ _ us hl => match us, hl with | [_, _], _ => rfl
  obtain ⟨fd__law_take, D__law_take, df__law_take⟩ := told_def c.x.t.d 11 (x := "_law_take") (st := s__law_take) rfl (He.glo_ok X G (c.x.t.d.fact 11 (f := .glo "_law_take") rfl))
  have b__law_take : Binds K fd__law_take ["bag", "many"] [] := D__law_take.fn.binds df__law_take (ps := ["bag", "many"]) fun _ _ _ _ _ _ us hl => match us, hl with | [_, _], _ => rfl
  obtain ⟨fd__law_of, D__law_of, df__law_of⟩ := told_def c.x.t.d 12 (x := "_law_of") (st := s__law_of) rfl (He.glo_ok X G (c.x.t.d.fact 12 (f := .glo "_law_of") rfl))
  have b__law_of : Binds K fd__law_of ["bag", "some"] [] := D__law_of.fn.binds df__law_of (ps := ["bag", "some"]) fun _ _ _ _ _ _ us hl => match us, hl with | [_, _], _ => rfl
  obtain ⟨fd__law_reserved, D__law_reserved, df__law_reserved⟩ := told_def c.x.t.d 13 (x := "_law_reserved") (st := s__law_reserved) rfl (He.glo_ok X G (c.x.t.d.fact 13 (f := .glo "_law_reserved") rfl))
  have b__law_reserved : Binds K fd__law_reserved [] [] := D__law_reserved.fn.binds df__law_reserved (ps := []) fun _ _ _ _ _ _ us hl => match us, hl with | [], _ => rfl
  obtain ⟨fd__law_draw_letters, D__law_draw_letters, df__law_draw_letters⟩ := told_def c.x.t.d 14 (x := "_law_draw_letters") (st := s__law_draw_letters) rfl (He.glo_ok X G (c.x.t.d.fact 14 (f := .glo "_law_draw_letters") rfl))
  have b__law_draw_letters : Binds K fd__law_draw_letters ["bag", "most"] [] := D__law_draw_letters.fn.binds df__law_draw_letters (ps := ["bag", "most"]) fun _ _ _ _ _ _ us hl => match us, hl with | [_, _], _ => rfl
  obtain ⟨fd__law_new_name, D__law_new_name, df__law_new_name⟩ := told_def c.x.t.d 15 (x := "_law_new_name") (st := s__law_new_name) rfl (He.glo_ok X G (c.x.t.d.fact 15 (f := .glo "_law_new_name") rfl))
  have b__law_new_name : Binds K fd__law_new_name ["bag", "taken"] [] := D__law_new_name.fn.binds df__law_new_name (ps := ["bag", "taken"]) fun _ _ _ _ _ _ us hl => match us, hl with | [_, _], _ => rfl
  obtain ⟨fd__law_all_links, D__law_all_links, df__law_all_links⟩ := told_def c.x.t.d 16 (x := "_law_all_links") (st := s__law_all_links) rfl (He.glo_ok X G (c.x.t.d.fact 16 (f := .glo "_law_all_links") rfl))
  have b__law_all_links : Binds K fd__law_all_links ["columns"] [] := D__law_all_links.fn.binds df__law_all_links (ps := ["columns"]) fun _ _ _ _ _ _ us hl => match us, hl with | [_], _ => rfl
  obtain ⟨fd__law_reach, D__law_reach, df__law_reach⟩ := told_def c.x.t.d 17 (x := "_law_reach") (st := s__law_reach) rfl (He.glo_ok X G (c.x.t.d.fact 17 (f := .glo "_law_reach") rfl))
  have b__law_reach : Binds K fd__law_reach ["tables", "name"] [] := D__law_reach.fn.binds df__law_reach (ps := ["tables", "name"]) fun _ _ _ _ _ _ us hl => match us, hl with | [_, _], _ => rfl
  obtain ⟨fd__law_is_listed, D__law_is_listed, df__law_is_listed⟩ := told_def c.x.t.d 18 (x := "_law_is_listed") (st := s__law_is_listed) rfl (He.glo_ok X G (c.x.t.d.fact 18 (f := .glo "_law_is_listed") rfl))
  have b__law_is_listed : Binds K fd__law_is_listed ["columns"] [] := D__law_is_listed.fn.binds df__law_is_listed (ps := ["columns"]) fun _ _ _ _ _ _ us hl => match us, hl with | [_], _ => rfl
  obtain ⟨fd__law_is_heavy, D__law_is_heavy, df__law_is_heavy⟩ := told_def c.x.t.d 19 (x := "_law_is_heavy") (st := s__law_is_heavy) rfl (He.glo_ok X G (c.x.t.d.fact 19 (f := .glo "_law_is_heavy") rfl))
  have b__law_is_heavy : Binds K fd__law_is_heavy ["tables", "column"] [] := D__law_is_heavy.fn.binds df__law_is_heavy (ps := ["tables", "column"]) fun _ _ _ _ _ _ us hl => match us, hl with | [_, _], _ => rfl
  obtain ⟨fd__law_names_taken, D__law_names_taken, df__law_names_taken⟩ := told_def c.x.t.d 20 (x := "_law_names_taken") (st := s__law_names_taken) rfl (He.glo_ok X G (c.x.t.d.fact 20 (f := .glo "_law_names_taken") rfl))
  have b__law_names_taken : Binds K fd__law_names_taken ["tables", "columns", "target"] [] := D__law_names_taken.fn.binds df__law_names_taken (ps := ["tables", "columns", "target"]) fun _ _ _ _ _ _ us hl => match us, hl with | [_, _, _], _ => rfl
  obtain ⟨fd__law_allowed, D__law_allowed, df__law_allowed⟩ := told_def c.x.t.d 21 (x := "_law_allowed") (st := s__law_allowed) rfl (He.glo_ok X G (c.x.t.d.fact 21 (f := .glo "_law_allowed") rfl))
  have b__law_allowed : Binds K fd__law_allowed ["tables", "columns"] [] := D__law_allowed.fn.binds df__law_allowed (ps := ["tables", "columns"]) fun _ _ _ _ _ _ us hl => match us, hl with | [_, _], _ => rfl
  obtain ⟨fd__law_draw_columns, D__law_draw_columns, df__law_draw_columns⟩ := told_def c.x.t.d 22 (x := "_law_draw_columns") (st := s__law_draw_columns) rfl (He.glo_ok X G (c.x.t.d.fact 22 (f := .glo "_law_draw_columns") rfl))
  have b__law_draw_columns : Binds K fd__law_draw_columns ["bag", "tables", "most"] [] := D__law_draw_columns.fn.binds df__law_draw_columns (ps := ["bag", "tables", "most"]) fun _ _ _ _ _ _ us hl => match us, hl with | [_, _, _], _ => rfl
  obtain ⟨fd__law_draw_tables, D__law_draw_tables, df__law_draw_tables⟩ := told_def c.x.t.d 23 (x := "_law_draw_tables") (st := s__law_draw_tables) rfl (He.glo_ok X G (c.x.t.d.fact 23 (f := .glo "_law_draw_tables") rfl))
  have b__law_draw_tables : Binds K fd__law_draw_tables ["bag", "least", "most"] [] := D__law_draw_tables.fn.binds df__law_draw_tables (ps := ["bag", "least", "most"]) fun _ _ _ _ _ _ us hl => match us, hl with | [_, _, _], _ => rfl
  obtain ⟨fd__law_draw_cell, D__law_draw_cell, df__law_draw_cell⟩ := told_def c.x.t.d 24 (x := "_law_draw_cell") (st := s__law_draw_cell) rfl (He.glo_ok X G (c.x.t.d.fact 24 (f := .glo "_law_draw_cell") rfl))
  have b__law_draw_cell : Binds K fd__law_draw_cell ["bag", "column", "many", "words"] [] := D__law_draw_cell.fn.binds df__law_draw_cell (ps := ["bag", "column", "many", "words"]) fun _ _ _ _ _ _ us hl => match us, hl with | [_, _, _, _], _ => rfl
  obtain ⟨fd__law_draw_rows, D__law_draw_rows, df__law_draw_rows⟩ := told_def c.x.t.d 25 (x := "_law_draw_rows") (st := s__law_draw_rows) rfl (He.glo_ok X G (c.x.t.d.fact 25 (f := .glo "_law_draw_rows") rfl))
  have b__law_draw_rows : Binds K fd__law_draw_rows ["bag", "tables", "most", "words"] [] := D__law_draw_rows.fn.binds df__law_draw_rows (ps := ["bag", "tables", "most", "words"]) fun _ _ _ _ _ _ us hl => match us, hl with | [_, _, _, _], _ => rfl
  obtain ⟨fd__law_in_list, D__law_in_list, df__law_in_list⟩ := told_def c.x.t.d 26 (x := "_law_in_list") (st := s__law_in_list) rfl (He.glo_ok X G (c.x.t.d.fact 26 (f := .glo "_law_in_list") rfl))
  have b__law_in_list : Binds K fd__law_in_list ["tables", "rows", "name", "at", "listed"] [] := D__law_in_list.fn.binds df__law_in_list (ps := ["tables", "rows", "name", "at", "listed"]) fun _ _ _ _ _ _ us hl => match us, hl with | [_, _, _, _, _], _ => rfl
  obtain ⟨fd__law_list_names, D__law_list_names, df__law_list_names⟩ := told_def c.x.t.d 27 (x := "_law_list_names") (st := s__law_list_names) rfl (He.glo_ok X G (c.x.t.d.fact 27 (f := .glo "_law_list_names") rfl))
  have b__law_list_names : Binds K fd__law_list_names ["tables", "name"] [] := D__law_list_names.fn.binds df__law_list_names (ps := ["tables", "name"]) fun _ _ _ _ _ _ us hl => match us, hl with | [_, _], _ => rfl
  obtain ⟨fd__law_same, D__law_same, df__law_same⟩ := told_def c.x.t.d 28 (x := "_law_same") (st := s__law_same) rfl (He.glo_ok X G (c.x.t.d.fact 28 (f := .glo "_law_same") rfl))
  have b__law_same : Binds K fd__law_same ["one", "other"] [] := D__law_same.fn.binds df__law_same (ps := ["one", "other"]) fun _ _ _ _ _ _ us hl => match us, hl with | [_, _], _ => rfl
  obtain ⟨fd__law_is_table_told, D__law_is_table_told, df__law_is_table_told⟩ := told_def c.x.t.d 29 (x := "_law_is_table_told") (st := s__law_is_table_told) rfl (He.glo_ok X G (c.x.t.d.fact 29 (f := .glo "_law_is_table_told") rfl))
  have b__law_is_table_told : Binds K fd__law_is_table_told ["store", "tables", "rows", "name", "columns"] [] := D__law_is_table_told.fn.binds df__law_is_table_told (ps := ["store", "tables", "rows", "name", "columns"]) fun _ _ _ _ _ _ us hl => match us, hl with | [_, _, _, _, _], _ => rfl
  obtain ⟨fd__law_is_told, D__law_is_told, df__law_is_told⟩ := told_def c.x.t.d 30 (x := "_law_is_told") (st := s__law_is_told) rfl (He.glo_ok X G (c.x.t.d.fact 30 (f := .glo "_law_is_told") rfl))
  have b__law_is_told : Binds K fd__law_is_told ["store", "tables", "rows"] [] := D__law_is_told.fn.binds df__law_is_told (ps := ["store", "tables", "rows"]) fun _ _ _ _ _ _ us hl => match us, hl with | [_, _, _], _ => rfl
  obtain ⟨fd__law_other, D__law_other, df__law_other⟩ := told_def c.x.t.d 31 (x := "_law_other") (st := s__law_other) rfl (He.glo_ok X G (c.x.t.d.fact 31 (f := .glo "_law_other") rfl))
  have b__law_other : Binds K fd__law_other ["bag", "tables", "rows", "words"] [] := D__law_other.fn.binds df__law_other (ps := ["bag", "tables", "rows", "words"]) fun _ _ _ _ _ _ us hl => match us, hl with | [_, _, _, _], _ => rfl
  obtain ⟨fd_law, D_law, df_law⟩ := told_def c.x.t.d 32 (x := "law") (st := s_law) rfl (He.glo_ok X G (c.x.t.d.fact 32 (f := .glo "law") rfl))
  have b_law : Binds K fd_law ["script"] [] := D_law.fn.binds df_law (ps := ["script"]) fun _ _ _ _ _ _ us hl => match us, hl with | [_], _ => rfl
  obtain ⟨fd_Schema___init__, F_Schema___init__, df_Schema___init__⟩ := told_meth c.x.t.d 33 (C := "Schema") (m := "__init__") (q := "Schema.__init__") (st := s_Schema___init__) rfl
  have b_Schema___init__ : Binds K fd_Schema___init__ ["self", "user", "tables"] [] := F_Schema___init__.binds df_Schema___init__ (ps := ["self", "user", "tables"]) fun _ _ _ _ _ _ us hl => match us, hl with | [_, _, _], _ => rfl
  obtain ⟨fd_Schema__take_columns, F_Schema__take_columns, df_Schema__take_columns⟩ := told_meth c.x.t.d 34 (C := "Schema") (m := "_take_columns") (q := "Schema._take_columns") (st := s_Schema__take_columns) rfl
  have b_Schema__take_columns : Binds K fd_Schema__take_columns ["self", "index", "table", "columns"] [] := F_Schema__take_columns.binds df_Schema__take_columns (ps := ["self", "index", "table", "columns"]) fun _ _ _ _ _ _ us hl => match us, hl with | [_, _, _, _], _ => rfl
  obtain ⟨fd_Schema__is_column, F_Schema__is_column, df_Schema__is_column⟩ := told_meth c.x.t.d 35 (C := "Schema") (m := "_is_column") (q := "Schema._is_column") (st := s_Schema__is_column) rfl
  have b_Schema__is_column : Binds K fd_Schema__is_column ["self", "column", "names"] [] := F_Schema__is_column.binds df_Schema__is_column (ps := ["self", "column", "names"]) fun _ _ _ _ _ _ us hl => match us, hl with | [_, _, _], _ => rfl
  obtain ⟨fd_Schema__is_list, F_Schema__is_list, df_Schema__is_list⟩ := told_meth c.x.t.d 36 (C := "Schema") (m := "_is_list") (q := "Schema._is_list") (st := s_Schema__is_list) rfl
  have b_Schema__is_list : Binds K fd_Schema__is_list ["self", "table", "name"] [] := F_Schema__is_list.binds df_Schema__is_list (ps := ["self", "table", "name"]) fun _ _ _ _ _ _ us hl => match us, hl with | [_, _, _], _ => rfl
  obtain ⟨fd_Schema_columns, F_Schema_columns, df_Schema_columns⟩ := told_meth c.x.t.d 37 (C := "Schema") (m := "columns") (q := "Schema.columns") (st := s_Schema_columns) rfl
  have b_Schema_columns : Binds K fd_Schema_columns ["self", "table"] [] := F_Schema_columns.binds df_Schema_columns (ps := ["self", "table"]) fun _ _ _ _ _ _ us hl => match us, hl with | [_, _], _ => rfl
  obtain ⟨fd_Schema_lists, F_Schema_lists, df_Schema_lists⟩ := told_meth c.x.t.d 38 (C := "Schema") (m := "lists") (q := "Schema.lists") (st := s_Schema_lists) rfl
  have b_Schema_lists : Binds K fd_Schema_lists ["self", "table"] [] := F_Schema_lists.binds df_Schema_lists (ps := ["self", "table"]) fun _ _ _ _ _ _ us hl => match us, hl with | [_, _], _ => rfl
  obtain ⟨fd_Schema___contains__, F_Schema___contains__, df_Schema___contains__⟩ := told_meth c.x.t.d 39 (C := "Schema") (m := "__contains__") (q := "Schema.__contains__") (st := s_Schema___contains__) rfl
  have b_Schema___contains__ : Binds K fd_Schema___contains__ ["self", "thing"] [] := F_Schema___contains__.binds df_Schema___contains__ (ps := ["self", "thing"]) fun _ _ _ _ _ _ us hl => match us, hl with | [_, _], _ => rfl
  obtain ⟨fd_Schema___eq__, F_Schema___eq__, df_Schema___eq__⟩ := told_meth c.x.t.d 40 (C := "Schema") (m := "__eq__") (q := "Schema.__eq__") (st := s_Schema___eq__) rfl
  have b_Schema___eq__ : Binds K fd_Schema___eq__ ["self", "other"] [] := F_Schema___eq__.binds df_Schema___eq__ (ps := ["self", "other"]) fun _ _ _ _ _ _ us hl => match us, hl with | [_, _], _ => rfl
  obtain ⟨fd_Store__check_row, F_Store__check_row, df_Store__check_row⟩ := told_meth c.x.t.d 41 (C := "Store") (m := "_check_row") (q := "Store._check_row") (st := s_Store__check_row) rfl
  have b_Store__check_row : Binds K fd_Store__check_row ["self", "table", "at", "row"] [] := F_Store__check_row.binds df_Store__check_row (ps := ["self", "table", "at", "row"]) fun _ _ _ _ _ _ us hl => match us, hl with | [_, _, _, _], _ => rfl
  obtain ⟨fd_Store__fits, F_Store__fits, df_Store__fits⟩ := told_meth c.x.t.d 42 (C := "Store") (m := "_fits") (q := "Store._fits") (st := s_Store__fits) rfl
  have b_Store__fits : Binds K fd_Store__fits ["self", "column", "value"] [] := F_Store__fits.binds df_Store__fits (ps := ["self", "column", "value"]) fun _ _ _ _ _ _ us hl => match us, hl with | [_, _, _], _ => rfl
  obtain ⟨fd_Store__need_table, F_Store__need_table, df_Store__need_table⟩ := told_meth c.x.t.d 43 (C := "Store") (m := "_need_table") (q := "Store._need_table") (st := s_Store__need_table) rfl
  have b_Store__need_table : Binds K fd_Store__need_table ["self", "table"] [] := F_Store__need_table.binds df_Store__need_table (ps := ["self", "table"]) fun _ _ _ _ _ _ us hl => match us, hl with | [_, _], _ => rfl
  obtain ⟨fd_Store__need_row, F_Store__need_row, df_Store__need_row⟩ := told_meth c.x.t.d 44 (C := "Store") (m := "_need_row") (q := "Store._need_row") (st := s_Store__need_row) rfl
  have b_Store__need_row : Binds K fd_Store__need_row ["self", "table", "at"] [] := F_Store__need_row.binds df_Store__need_row (ps := ["self", "table", "at"]) fun _ _ _ _ _ _ us hl => match us, hl with | [_, _, _], _ => rfl
  obtain ⟨fd_Store__place, F_Store__place, df_Store__place⟩ := told_meth c.x.t.d 45 (C := "Store") (m := "_place") (q := "Store._place") (st := s_Store__place) rfl
  have b_Store__place : Binds K fd_Store__place ["self", "table", "column"] [] := F_Store__place.binds df_Store__place (ps := ["self", "table", "column"]) fun _ _ _ _ _ _ us hl => match us, hl with | [_, _, _], _ => rfl
  obtain ⟨fd_Store_rows, F_Store_rows, df_Store_rows⟩ := told_meth c.x.t.d 46 (C := "Store") (m := "rows") (q := "Store.rows") (st := s_Store_rows) rfl
  have b_Store_rows : Binds K fd_Store_rows ["self", "table"] [] := F_Store_rows.binds df_Store_rows (ps := ["self", "table"]) fun _ _ _ _ _ _ us hl => match us, hl with | [_, _], _ => rfl
  obtain ⟨fd_Store_value, F_Store_value, df_Store_value⟩ := told_meth c.x.t.d 47 (C := "Store") (m := "value") (q := "Store.value") (st := s_Store_value) rfl
  have b_Store_value : Binds K fd_Store_value ["self", "table", "at", "column"] [] := F_Store_value.binds df_Store_value (ps := ["self", "table", "at", "column"]) fun _ _ _ _ _ _ us hl => match us, hl with | [_, _, _, _], _ => rfl
  obtain ⟨fd_Store_listed, F_Store_listed, df_Store_listed⟩ := told_meth c.x.t.d 48 (C := "Store") (m := "listed") (q := "Store.listed") (st := s_Store_listed) rfl
  have b_Store_listed : Binds K fd_Store_listed ["self", "table", "at", "name"] [] := F_Store_listed.binds df_Store_listed (ps := ["self", "table", "at", "name"]) fun _ _ _ _ _ _ us hl => match us, hl with | [_, _, _, _], _ => rfl
  obtain ⟨fd_Store___len__, F_Store___len__, df_Store___len__⟩ := told_meth c.x.t.d 49 (C := "Store") (m := "__len__") (q := "Store.__len__") (st := s_Store___len__) rfl
  have b_Store___len__ : Binds K fd_Store___len__ ["self"] [] := F_Store___len__.binds df_Store___len__ (ps := ["self"]) fun _ _ _ _ _ _ us hl => match us, hl with | [_], _ => rfl
  obtain ⟨fd_Store___contains__, F_Store___contains__, df_Store___contains__⟩ := told_meth c.x.t.d 50 (C := "Store") (m := "__contains__") (q := "Store.__contains__") (st := s_Store___contains__) rfl
  have b_Store___contains__ : Binds K fd_Store___contains__ ["self", "pair"] [] := F_Store___contains__.binds df_Store___contains__ (ps := ["self", "pair"]) fun _ _ _ _ _ _ us hl => match us, hl with | [_, _], _ => rfl
  obtain ⟨fd_Store___eq__, F_Store___eq__, df_Store___eq__⟩ := told_meth c.x.t.d 51 (C := "Store") (m := "__eq__") (q := "Store.__eq__") (st := s_Store___eq__) rfl
  have b_Store___eq__ : Binds K fd_Store___eq__ ["self", "other"] [] := F_Store___eq__.binds df_Store___eq__ (ps := ["self", "other"]) fun _ _ _ _ _ _ us hl => match us, hl with | [_, _], _ => rfl
  obtain ⟨fd_NoName___init__, F_NoName___init__, df_NoName___init__⟩ := told_meth c.x.t.d 52 (C := "NoName") (m := "__init__") (q := "NoName.__init__") (st := s_NoName___init__) rfl
  have b_NoName___init__ : Binds K fd_NoName___init__ ["self", "name"] [] := F_NoName___init__.binds df_NoName___init__ (ps := ["self", "name"]) fun _ _ _ _ _ _ us hl => match us, hl with | [_, _], _ => rfl
  obtain ⟨fd_NoRow___init__, F_NoRow___init__, df_NoRow___init__⟩ := told_meth c.x.t.d 53 (C := "NoRow") (m := "__init__") (q := "NoRow.__init__") (st := s_NoRow___init__) rfl
  have b_NoRow___init__ : Binds K fd_NoRow___init__ ["self", "table", "at"] [] := F_NoRow___init__.binds df_NoRow___init__ (ps := ["self", "table", "at"]) fun _ _ _ _ _ _ us hl => match us, hl with | [_, _, _], _ => rfl
  obtain ⟨fd_BadStore___init__, F_BadStore___init__, df_BadStore___init__⟩ := told_meth c.x.t.d 54 (C := "BadStore") (m := "__init__") (q := "BadStore.__init__") (st := s_BadStore___init__) rfl
  have b_BadStore___init__ : Binds K fd_BadStore___init__ ["self", "table", "at", "column"] [] := F_BadStore___init__.binds df_BadStore___init__ (ps := ["self", "table", "at", "column"]) fun _ _ _ _ _ _ us hl => match us, hl with | [_, _, _, _], _ => rfl
  obtain ⟨fd_Store___init__, FD⟩ := told_methD c.x.t.d 55 (C := "Store") (m := "__init__") (q := "Store.__init__") (st := s_Store___init__) (df := [.non]) rfl
  have F_Store___init__ := funD_fun FD
  obtain ⟨dsA, vA, bA⟩ := FD.binds1 (ps := ["self", "schema", "rows"]) 3 1 (by simp) (by rfl) (fun T kV doc pm an cdv ct us its h1 h2 => match us, its, h1, h2 with | [_, _, _], [_], _, _ => ⟨_, rfl, rfl⟩)
  cases vA
  obtain ⟨dsB, vB, bB⟩ := FD.binds1 (ps := ["self", "schema", "rows"]) 2 0 (by simp) (by rfl) (fun T kV doc pm an cdv ct us its h1 h2 => match us, its, h1, h2 with | [_, _], [_], _, _ => ⟨_, rfl, rfl⟩)
  have vB : Vals [.non] dsB := vB
  have B : Blt mg := ⟨(He.free_ok X G (c.x.t.d.fact 33 (f := .free "len") rfl)), (He.free_ok X G (c.x.t.d.fact 34 (f := .free "int") rfl)), (He.free_ok X G (c.x.t.d.fact 35 (f := .free "abs") rfl)), (He.free_ok X G (c.x.t.d.fact 36 (f := .free "max") rfl)), (He.free_ok X G (c.x.t.d.fact 37 (f := .free "min") rfl)), (He.free_ok X G (c.x.t.d.fact 38 (f := .free "any") rfl)), (He.free_ok X G (c.x.t.d.fact 39 (f := .free "all") rfl)), (He.free_ok X G (c.x.t.d.fact 40 (f := .free "str") rfl)), (He.free_ok X G (c.x.t.d.fact 41 (f := .free "bool") rfl)), (He.free_ok X G (c.x.t.d.fact 42 (f := .free "list") rfl)), (He.free_ok X G (c.x.t.d.fact 43 (f := .free "tuple") rfl)), (He.free_ok X G (c.x.t.d.fact 44 (f := .free "dict") rfl)), (He.free_ok X G (c.x.t.d.fact 45 (f := .free "isinstance") rfl)), (He.free_ok X G (c.x.t.d.fact 46 (f := .free "range") rfl)), (He.free_ok X G (c.x.t.d.fact 47 (f := .free "reversed") rfl)), (He.free_ok X G (c.x.t.d.fact 48 (f := .free "enumerate") rfl)), (He.free_ok X G (c.x.t.d.fact 49 (f := .free "zip") rfl))⟩
  have Bs : mg "sum" = none := (He.free_ok X G (c.x.t.d.fact 50 (f := .free "sum") rfl))
  have T : Cns K mg (He.ga K "RESERVED") (He.ga K "Schema") := ⟨(is_int (He.int_ok X G (c.x.t.d.fact 51 (f := .int "MOST_LETTERS" 8) rfl))), (is_int (He.int_ok X G (c.x.t.d.fact 52 (f := .int "MOST_TABLES" 6) rfl))), (is_int (He.int_ok X G (c.x.t.d.fact 53 (f := .int "MOST_COLUMNS" 6) rfl))), (is_ref (He.glo_ok X G (c.x.t.d.fact 54 (f := .glo "RESERVED") rfl))), fun H => (by have z := He.tupB_ok (exq 0 _ rfl) H; rw [List.map_map] at z; exact z), (is_ref (He.glo_ok X G (c.x.t.d.fact 55 (f := .glo "Schema") rfl)))⟩
  have TS : CnsS K mg (He.ga K "Store") := ⟨(is_int (He.int_ok X G (c.x.t.d.fact 56 (f := .int "TOO_LARGE" 1000000000000000000000000000000) rfl))), (is_ref (He.glo_ok X G (c.x.t.d.fact 57 (f := .glo "Store") rfl)))⟩
  have S : SchC K (He.ga K "Schema") := ⟨He.cls_ok (c.x.t.d.fact 58 (f := .cls "Schema") rfl), (He.noat_ok (c.x.t.d.fact 59 (f := .noat "Schema" "_columns") rfl)), (He.noat_ok (c.x.t.d.fact 60 (f := .noat "Schema" "_lists") rfl)), (He.noat_ok (c.x.t.d.fact 61 (f := .noat "Schema" "user") rfl)), (He.noat_ok (c.x.t.d.fact 62 (f := .noat "Schema" "tables") rfl)), (He.noat_ok (c.x.t.d.fact 63 (f := .noat "Schema" "_lines") rfl))⟩
  have ST : StoC K (He.ga K "Store") := ⟨He.cls_ok (c.x.t.d.fact 64 (f := .cls "Store") rfl), (He.noat_ok (c.x.t.d.fact 65 (f := .noat "Store" "schema") rfl)), (He.noat_ok (c.x.t.d.fact 66 (f := .noat "Store" "_rows") rfl))⟩
  obtain ⟨⟨fd_is_name, F_is_name, df_is_name⟩, cr, sm, si⟩ := SDef.all (d := (⟨"Schema", "is_name", "Schema.is_name", s_Schema_is_name⟩ : SDef)) (c.static 0 rfl) (exq 1 _ rfl)
  have b_is_name : Binds K fd_is_name ["value"] [] := F_is_name.binds df_is_name (ps := ["value"]) fun _ _ _ _ _ _ us hl => match us, hl with | [_], _ => rfl
  obtain ⟨es, ne, LD⟩ := c.x.t.tab 0 (t := (fun K => He.ga K "LENGTHS", ["flag", "number", "word", "link"])) rfl
  have LN : LenC K mg (He.ga K "LENGTHS") := ⟨(is_ref (He.glo_ok X G (c.x.t.d.fact 67 (f := .glo "LENGTHS") rfl))), fun c0 => by
      have hv := (exq 2 _ rfl)
      cases c0 with
      | plain fl x =>
        cases fl
        · exact He.valsB_ok hv (q := ("number", .int 2)) (by simp)
        · exact He.valsB_ok hv (q := ("flag", .int 2)) (by simp)
      | word x o => exact He.valsB_ok hv (q := ("word", .int 3)) (by simp)
      | link x y o l => exact He.valsB_ok hv (q := ("link", .int 5)) (by simp)⟩
  have OX : OexL K (He.ga K "NoName") := oexB_ok (exq 3 _ rfl)
  obtain ⟨iX, tX⟩ := oinB_ok (exq 4 _ rfl)
  have OR : OexL K (He.ga K "NoRow") := oexB_ok (exq 5 _ rfl)
  obtain ⟨iR, tR⟩ := oinB_ok (exq 6 _ rfl)
  have OV : OexC K (He.ga K "BadStore") := oxvB_ok (exq 7 _ rfl)
  obtain ⟨iV, tV⟩ := oinB_ok (exq 8 _ rfl)
  have IC : IsC K (He.ga K "Schema") := ⟨He.eqO_ok (exq 9 _ rfl), He.eqO_ok (exq 10 _ rfl), of_decide_eq_true (exq 11 _ rfl), of_decide_eq_true (exq 12 _ rfl), fun t ht => of_decide_eq_true (List.all_eq_true.mp (exq 13 _ rfl) t ht)⟩
  have NN : NoNe K (He.ga K "Schema") := ⟨He.eqO_ok (exq 14 _ rfl), of_decide_eq_true (exq 12 _ rfl)⟩
  have IT : IsC K (He.ga K "Store") := ⟨He.eqO_ok (exq 15 _ rfl), He.eqO_ok (exq 10 _ rfl), of_decide_eq_true (exq 11 _ rfl), of_decide_eq_true (exq 16 _ rfl), fun t ht => of_decide_eq_true (List.all_eq_true.mp (exq 17 _ rfl) t ht)⟩
  have NS : NoNe K (He.ga K "Store") := ⟨He.eqO_ok (exq 18 _ rfl), of_decide_eq_true (exq 16 _ rfl)⟩
  have IS : IsS K (He.ga K "Store") (He.ga K "Schema") := ⟨IT, IC, of_decide_eq_true (exq 19 _ rfl), of_decide_eq_true (exq 20 _ rfl)⟩
  have nsub : PySem.W.subIn K (.ref (He.ga K "Schema")) (.ref (He.ga K "Store")) = some false := of_decide_eq_true (exq 21 _ rfl)
  have M : Mk K (He.ga K "Schema") (He.ma K (He.ga K "Schema") "__init__") := He.mkr_ok (c.x.t.d.fact 68 (f := .mkr "Schema") rfl)
  have MS : Mk K (He.ga K "Store") (He.ma K (He.ga K "Store") "__init__") := He.mkr_ok (c.x.t.d.fact 69 (f := .mkr "Store") rfl)
  have me___contains__ := (He.meth_ok (c.x.t.d.fact 70 (f := .meth "Schema" "__contains__") rfl))
  have me__is_list := (He.meth_ok (c.x.t.d.fact 71 (f := .meth "Schema" "_is_list") rfl))
  have me__is_column := (He.meth_ok (c.x.t.d.fact 72 (f := .meth "Schema" "_is_column") rfl))
  have me__take_columns := (He.meth_ok (c.x.t.d.fact 73 (f := .meth "Schema" "_take_columns") rfl))
  have me_columns := (He.meth_ok (c.x.t.d.fact 74 (f := .meth "Schema" "columns") rfl))
  have me_lists := (He.meth_ok (c.x.t.d.fact 75 (f := .meth "Schema" "lists") rfl))
  have me___eq__ := (He.meth_ok (c.x.t.d.fact 76 (f := .meth "Schema" "__eq__") rfl))
  have ms__check_row := (He.meth_ok (c.x.t.d.fact 77 (f := .meth "Store" "_check_row") rfl))
  have ms__fits := (He.meth_ok (c.x.t.d.fact 78 (f := .meth "Store" "_fits") rfl))
  have ms__need_table := (He.meth_ok (c.x.t.d.fact 79 (f := .meth "Store" "_need_table") rfl))
  have ms__need_row := (He.meth_ok (c.x.t.d.fact 80 (f := .meth "Store" "_need_row") rfl))
  have ms__place := (He.meth_ok (c.x.t.d.fact 81 (f := .meth "Store" "_place") rfl))
  have ms_rows := (He.meth_ok (c.x.t.d.fact 82 (f := .meth "Store" "rows") rfl))
  have ms_value := (He.meth_ok (c.x.t.d.fact 83 (f := .meth "Store" "value") rfl))
  have ms_listed := (He.meth_ok (c.x.t.d.fact 84 (f := .meth "Store" "listed") rfl))
  have ms___len__ := (He.meth_ok (c.x.t.d.fact 85 (f := .meth "Store" "__len__") rfl))
  have ms___contains__ := (He.meth_ok (c.x.t.d.fact 86 (f := .meth "Store" "__contains__") rfl))
  have ms___eq__ := (He.meth_ok (c.x.t.d.fact 87 (f := .meth "Store" "__eq__") rfl))
  have e := hfa.symm.trans D_law.mgf
  cases e
  have mgS := (He.glo_ok X G (c.x.t.d.fact 55 (f := .glo "Schema") rfl))
  have mgT := (He.glo_ok X G (c.x.t.d.fact 57 (f := .glo "Store") rfl))
  have mgN := (He.glo_ok X G (c.x.t.d.fact 94 (f := .glo "NoName") rfl))
  have mgR := (He.glo_ok X G (c.x.t.d.fact 95 (f := .glo "NoRow") rfl))
  have mgB := (He.glo_ok X G (c.x.t.d.fact 96 (f := .glo "BadStore") rfl))
  have nN := (He.noat_ok (c.x.t.d.fact 88 (f := .noat "NoName" "name") rfl))
  have nR1 := (He.noat_ok (c.x.t.d.fact 89 (f := .noat "NoRow" "table") rfl))
  have nR2 := (He.noat_ok (c.x.t.d.fact 90 (f := .noat "NoRow" "at") rfl))
  have nB1 := (He.noat_ok (c.x.t.d.fact 91 (f := .noat "BadStore" "table") rfl))
  have nB2 := (He.noat_ok (c.x.t.d.fact 92 (f := .noat "BadStore" "at") rfl))
  have nB3 := (He.noat_ok (c.x.t.d.fact 93 (f := .noat "BadStore" "column") rfl))
  refine ⟨fd_law, [], spLaw7 K, fun p hp => absurd hp List.not_mem_nil, fun p hp => absurd hp List.not_mem_nil, fun p hp => absurd hp List.not_mem_nil, fun s u => ?_, fun H a ns hl _ hH hS => ?_, fun base Xb Gb hTB => ?_⟩
  · exact bindLaw D_law.fn df_law s u
  · exact ⟨a, ns, rfl, hS, by omega, fun _ => rfl⟩
  · generalize PySem.Challenge.rw_listandpage_k07_stores_made.prog = P
    have c_is_integer := ok_is_integer (P := P) (w := w) (base := base) D_is_integer b_is_integer B
    have c_is_index := ok_is_index D_is_index b_is_index c_is_integer
    have c_is_letters := ok_is_letters (P := P) (w := w) (base := base) D_is_letters b_is_letters B
    have c_is_word := ok_is_word (P := P) (w := w) (base := base) D_is_word b_is_word B T c_is_letters
    have c_is_link := ok_is_link (P := P) (w := w) (base := base) D_is_link b_is_link
    have c_has_list := ok_has_list D_has_list b_has_list c_is_link
    have c_may_lack := ok_may_lack D_may_lack b_may_lack c_is_link
    have c__write_column := ok_write_column D__write_column b__write_column c_is_link c_has_list c_may_lack
    have c_write_lines := ok_write_lines D_write_lines b_write_lines c__write_column
    have c__meets := ok_meets D__meets b__meets B c_is_link c_has_list
    have c_is_name := ok_is_name cr sm si F_is_name b_is_name B T c_is_word
    have m___contains__ := ok_contains (P := P) (w := w) (base := base) S me___contains__ F_Schema___contains__ b_Schema___contains__ B
    have m__is_list := ok_is_list S me__is_list F_Schema__is_list b_Schema__is_list B T c_is_name
    have m__is_column := ok_is_column S me__is_column F_Schema__is_column b_Schema__is_column B T LD LN c_is_name c_is_link m___contains__ m__is_list
    have m__take_columns := ok_take_columns S me__take_columns F_Schema__take_columns b_Schema__take_columns B c_has_list m__is_column
    have m_Schema := ok_init S M F_Schema___init__ b_Schema___init__ B T mgS c_is_name m___contains__ m__take_columns c__meets c_write_lines
    have NX : ExC P w K mg base "NoName" (He.ga K "NoName") (He.ma K (He.ga K "NoName") "__init__") fd_NoName___init__ ["self", "name"] 1 (spExI (He.ga K "NoName") "name") := ⟨OX, iX, tX, ok_noname OX nN F_NoName___init__ b_NoName___init__, b_NoName___init__, mgN⟩
    have RX : ExC P w K mg base "NoRow" (He.ga K "NoRow") (He.ma K (He.ga K "NoRow") "__init__") fd_NoRow___init__ ["self", "table", "at"] 1 (spEx2 (He.ga K "NoRow") "table" "at") := ⟨OR, iR, tR, ok_norow OR nR1 nR2 F_NoRow___init__, b_NoRow___init__, mgR⟩
    have VX : ExV P w K mg base "BadStore" (He.ga K "BadStore") (He.ma K (He.ga K "BadStore") "__init__") fd_BadStore___init__ ["self", "table", "at", "column"] 1 (spEx3 (He.ga K "BadStore") "table" "at" "column") := ⟨OV, iV, tV, ok_badstore OV nB1 nB2 nB3 F_BadStore___init__, b_BadStore___init__, mgB⟩
    have m_columns : MetX P w K mg base 3 (He.ga K "Schema") "columns" (spColumns K (He.ga K "Schema") (He.ga K "NoName")) := ⟨_, _, _, S.cls, me_columns, ok_columns S F_Schema_columns B NX m___contains__, b_Schema_columns⟩
    have m_lists : MetX P w K mg base 3 (He.ga K "Schema") "lists" (spLists K (He.ga K "Schema") (He.ga K "NoName")) := ⟨_, _, _, S.cls, me_lists, ok_lists S F_Schema_lists B NX m___contains__, b_Schema_lists⟩
    have m_seq : C8.Met P w K mg base 2 (He.ga K "Schema") "__eq__" (spEqS K (He.ga K "Schema")) [] := ⟨_, _, _, _, S.cls, me___eq__, ok_eq S IC F_Schema___eq__ B T, b_Schema___eq__, .nil⟩
    have c__fits := ok_fits7 ST ms__fits F_Store__fits b_Store__fits B TS c_may_lack c_is_integer c_is_word c_is_index
    have m__check_row := ok_check_row ST ms__check_row F_Store__check_row b_Store__check_row B VX m_columns c__fits
    have FI := ok_store ST S MS F_Store___init__ B m__check_row
    have m_Store : MakX P w K mg base 5 "Store" (He.ga K "Store") (spStore K (He.ga K "Store") (He.ga K "BadStore") (He.ga K "Schema")) := ⟨_, _, _, MS, FI, mgT, bA⟩
    have m_Store0 : MakXD P w K mg base 5 "Store" (He.ga K "Store") (spStore K (He.ga K "Store") (He.ga K "BadStore") (He.ga K "Schema")) [.non] := ⟨_, _, _, _, MS, FI, mgT, bB, vB⟩
    have m__need_table := ok_need_table ST ms__need_table F_Store__need_table b_Store__need_table B NX m___contains__
    have m__need_row := ok_need_row ST ms__need_row F_Store__need_row b_Store__need_row B RX c_is_index m__need_table
    have m__place := ok_place ST ms__place F_Store__place b_Store__place B NX m_columns
    have m_rows := ok_rows ST ms_rows F_Store_rows b_Store_rows B m__need_table
    have m_value := ok_value ST ms_value F_Store_value b_Store_value B m__need_row m__place
    have m_listed := ok_listed ST ms_listed F_Store_listed b_Store_listed B NX m__need_row m__place m_lists
    have m___len__ := ok_len_store (P := P) (w := w) (base := base) ST S ms___len__ F_Store___len__ b_Store___len__ B
    have m_shas := ok_has_store ST S ms___contains__ F_Store___contains__ b_Store___contains__ B m___contains__ c_is_index
    have m___eq__ := ok_eq_store ST IS ms___eq__ F_Store___eq__ b_Store___eq__ B TS m_seq
    have c__law_start := ok_start (P := P) (w := w) (base := base) D__law_start b__law_start B
    have c__law_take := ok_take (P := P) (w := w) (base := base) D__law_take b__law_take B
    have c__law_takeB := ok_takeB (P := P) (w := w) (base := base) D__law_take b__law_take B
    have c__law_of := ok_of D__law_of b__law_of B c__law_take
    have c__law_reserved := ok_reserved (P := P) (w := w) (base := base) D__law_reserved b__law_reserved
    have c__law_draw_letters := ok_letters D__law_draw_letters b__law_draw_letters B c__law_take
    have c__law_new_name := ok_new_name D__law_new_name b__law_new_name c__law_draw_letters c__law_reserved
    have c__law_all_links := ok_all_links (P := P) (w := w) (base := base) D__law_all_links b__law_all_links
    have c__law_reach := ok_reach D__law_reach b__law_reach B c__law_all_links
    have c__law_is_listed := ok_is_listed D__law_is_listed b__law_is_listed B c__law_all_links
    have c__law_is_heavy := ok_is_heavy D__law_is_heavy b__law_is_heavy B c__law_reach c__law_is_listed
    have c__law_names_taken := ok_names_taken D__law_names_taken b__law_names_taken c__law_all_links
    have c__law_allowed := ok_allowed D__law_allowed b__law_allowed B c__law_all_links c__law_is_heavy
    have c__law_draw_columns := ok_draw_columns D__law_draw_columns b__law_draw_columns B c__law_take c__law_of c__law_new_name c__law_names_taken c__law_allowed
    have c__law_draw_tables := ok_draw_tables D__law_draw_tables b__law_draw_tables B c__law_take c__law_of c__law_new_name c__law_draw_columns
    have c__law_draw_cell := ok_draw_cell D__law_draw_cell b__law_draw_cell B c__law_takeB c__law_of
    have c__law_draw_rows := ok_draw_rows D__law_draw_rows b__law_draw_rows B c__law_takeB c__law_all_links c__law_draw_cell
    have c__law_list_names := ok_list_names D__law_list_names b__law_list_names c__law_all_links
    have c__law_in_list := ok_in_list (P := P) (w := w) (base := base) D__law_in_list b__law_in_list B
    have c__law_same := ok_same (P := P) (w := w) (base := base) D__law_same b__law_same B
    have c__law_is_table_told := ok_table_told D__law_is_table_told b__law_is_table_told B m_rows m_value m_listed c__law_same c__law_list_names c__law_in_list
    have c__law_is_told := ok_told7 D__law_is_told b__law_is_told B Bs m___len__ m_shas c__law_is_table_told
    have c__law_other := ok_other D__law_other b__law_other B c__law_take c__law_of c__law_draw_cell
    exact ok_law7 D_law B T S ST NN NS nsub c__law_start c__law_take c__law_draw_letters c__law_draw_tables c__law_draw_rows c__law_other c__law_is_told m_Schema m_Store m_Store0 m_seq m___eq__ m___len__ m_rows
end LP
open PyProof.Rows PySem PySem.W PySem.Calls
theorem PySem.Challenge.cw_listandpage_k07_stores_made_holds : PySem.Challenge.rw_listandpage_k07_stores_made.Holds := by
  w_on; o_law
  refine HandSHeadRun.head_any (r := OpenLaw.row PySem.Challenge.rw_listandpage_k07_stores_made) (q := view (OpenLaw.row PySem.Challenge.rw_listandpage_k07_stores_made).prog [58]) (H := LP.k07_tell.hook) (ob := LP.k07_ob) (M := 9000) (loose := LP.k07_names) (d := HandSHeadRun.topDef (OpenLaw.row PySem.Challenge.rw_listandpage_k07_stores_made).prog 58) (kwd := []) LP.k07_ob_eq
    (by kernel_rfl) (fun s => by kernel_rfl) LP.k07_run (by kernel_rfl) (by kernel_rfl) (by kernel_rfl) (by rfl) (by first | assumption | decide +kernel) (by decide +kernel) ⟨rfl, rfl, rfl, rfl, rfl, by decide +kernel⟩ ?hw ?hc
  case hw => w_witness2
  case hc =>
    refine LamX.walk_ofTsE (l := PySem.Challenge.rw_listandpage_k07_stores_made) (n := 63) (k := 9) (x := "script") (CX := fun _ => C8.CX0) rfl (by decide) (by kernel_rfl) ⟨rfl, by decide, by decide⟩ ?F (fun _ _ _ _ _ z => z)
    intro w mg fa h Y G hmg0
    obtain ⟨K, KX, c⟩ := Y
    have hmg : mg
            ("law" : PySem.Str) = some (.ref fa) := by
      have e : (HandSHeadRun.topDef (OpenLaw.row PySem.Challenge.rw_listandpage_k07_stores_made).prog 58).name = ("law" : PySem.Str) := by kernel_rfl
      rw [← e]
      exact hmg0
    exact ⟨K, KX, LP.k07_facts KX G hmg c⟩
