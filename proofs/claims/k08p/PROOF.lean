import PyProof.Rows.All
import Wide.All
import OpenK.AllK
import Wide.FinOn
import HandS.AnyAll
import HandS.Codes
import HandS.Conv
import HandS.Defaults
import HandS.Ends
import HandS.Evl
import HandS.ExcField
import HandS.ExcInit
import HandS.ExcIs
import HandS.ExcOwn
import HandS.FStr
import HandS.ForMost
import HandS.Head0
import HandS.Head1
import HandS.Head2
import HandS.HeadEnd
import HandS.HeadHook1
import HandS.HeadHook2
import HandS.HeadHook3
import HandS.HeadHook4
import HandS.HeadWalk
import HandS.HotCalls
import HandS.IsInst
import HandS.MakeKw
import HandS.MakeKwOnly
import HandS.More
import HandS.Property
import HandS.SortInts
import HandS.Star
import HandS.Steps
import HandS.Strs
import HandS.Walk
import HandS.Wide
import HandS.Words
import HandS.WordsExc
import HandS.Zip
import KE.GoesNew
import KE.KExcIs
import PySem.Challenge.RW_wardwork_k08_code_and_back
set_option Elab.async false
set_option linter.all false
set_option maxRecDepth 100000
set_option maxHeartbeats 4000000
/-! Wk: rules that the layer lacks, and steps that read a term from the left. -/
namespace Wk
open PySem PySem.Spec PyProof.Rows L2

/-! ### rules -/
section
variable {X : Cx}
theorem get_list : PGet X (rIxL X.K) := by
  intro pins s σ H o i ov iv Q I ro ri h
  obtain ⟨p, xs, k, z, rfl, rfl, hq, he, q⟩ := h
  cases ro
  obtain ⟨t, rfl⟩ := ri
  obtain ⟨its, r, pl, hz⟩ := I.list hq
  obtain ⟨j, e1, e2, e3, e4, e5⟩ := atI_get he
  obtain ⟨w, ew, rw'⟩ := r.get e2
  have hl := r.length
  have hn := line63
  have done : EP X pins σ Q w s := ⟨z, H, I, rw', q⟩
  by_cases h0 : 0 ≤ k
  · have hj : k.toNat = j := by
      rw [seqIndex_of h0 e5] at e1
      exact Option.some.inj e1
    exact wpAny_getItem_list pl.isList h0 (by omega) (by rw [hj]; simpa using ew) done
  · have hj : (k + (its.toArray.size : Int)).toNat = j := by
      rw [seqIndex_neg (by omega) e4] at e1
      rw [List.size_toArray, ← hl]
      exact Option.some.inj e1
    exact wpAny_getItem_list_neg pl.isList (by omega) (by rw [List.size_toArray] <;> omega) (by omega) (by rw [hj]; simpa using ew) done
end

/-- the built-in names that the module leaves as they are -/
structure Bt (mg : Str → Option Value) : Prop where
  b_int : mg "int" = none
  b_len : mg "len" = none
  b_range : mg "range" = none
  b_list : mg "list" = none
  b_abs : mg "abs" = none
  b_min : mg "min" = none
  b_max : mg "max" = none
  b_isinstance : mg "isinstance" = none
  b_bool : mg "bool" = none
  b_str : mg "str" = none
  b_tuple : mg "tuple" = none
  b_dict : mg "dict" = none
  b_sorted : mg "sorted" = none
  b_all : mg "all" = none
  b_any : mg "any" = none
  b_zip : mg "zip" = none
  b_enumerate : mg "enumerate" = none
  b_sum : mg "sum" = none
/-! ### heaps: how they may change -/
/-- all that H knows outside S stands in H' -/
def Upt (S : List Addr) (H H' : Hp) : Prop := ∀ b o, b ∉ S → H b = some o → H' b = some o
theorem Upt.refl {S : List Addr} (H : Hp) : Upt S H H := fun _ _ _ h => h
theorem Upt.trans {S : List Addr} {H H1 H2 : Hp} (a : Upt S H H1) (b : Upt S H1 H2) : Upt S H H2 := fun c o n h => b c o n (a c o n h)
theorem Upt.mono {S T : List Addr} {H H1 : Hp} (h : ∀ b ∈ S, b ∈ T) (a : Upt S H H1) : Upt T H H1 := fun c o n e => a c o (fun z => n (h c z)) e
theorem Upt.at1 {s b : Addr} {o : HO} {H H1 : Hp} (a : Upt [s] H H1) (n : b ≠ s) (e : H b = some o) : H1 b = some o := a b o (fun z => n (List.mem_singleton.mp z)) e
theorem Upt.at0 {b : Addr} {o : HO} {H H1 : Hp} (a : Upt [] H H1) (e : H b = some o) : H1 b = some o := a b o (fun z => by cases z) e
theorem Upt.free {S : List Addr} {H H1 : Hp} {b : Addr} (a : Upt S H H1) (n : b ∉ S) (e : H1 b = none) : H b = none := by
  cases q : H b with
  | none => rfl
  | some o => rw [a b o n q] at e; cases e
theorem Upt.upd {s : Addr} {o : HO} {H : Hp} : Upt [s] H (upd H s o) := fun b u n e => by
  rw [upd_ne (fun z => n (List.mem_singleton.mpr z))]; exact e
theorem Upt.seqL {S : List Addr} {K : PySem.W.Frag} {H H1 : Hp} {a : Addr} {xs : List V} (u : Upt S H H1) (n : a ∉ S) (h : SqL K H a xs) : SqL K H1 a xs := by
  rcases h with (h | ⟨o, h⟩) | h
  · exact .inl (.inl (u _ _ n h))
  · exact .inl (.inr ⟨o, u _ _ n h⟩)
  · exact .inr h
theorem Upt.seqT {S : List Addr} {K : PySem.W.Frag} {H H1 : Hp} {a : Addr} {xs : List V} (u : Upt S H H1) (n : a ∉ S) (h : SqT K H a xs) : SqT K H1 a xs := by
  rcases h with (h | ⟨o, h⟩) | h
  · exact .inl (.inl (u _ _ n h))
  · exact .inl (.inr ⟨o, u _ _ n h⟩)
  · exact .inr h
theorem _root_.L2.SqL.upt {K : PySem.W.Frag} {H H1 : Hp} {a : Addr} {xs : List V} (h : SqL K H a xs) (u : Upt [] H H1) : SqL K H1 a xs := u.seqL (by simp) h
theorem _root_.L2.SqT.upt {K : PySem.W.Frag} {H H1 : Hp} {a : Addr} {xs : List V} (h : SqT K H a xs) (u : Upt [] H H1) : SqT K H1 a xs := u.seqT (by simp) h
/-- o is new at p -/
structure New (H H' : Hp) (p : Addr) (o : HO) : Prop where
  no : H p = none
  at_ : H' p = some o
  keep : Upt [] H H'
theorem New.of {H : Hp} {p : Addr} {o : HO} (h : H p = none) : New H (upd H p o) p o := ⟨h, upd_same, fun b u _ e => by rw [upd_ne (ne_of_none e h)]; exact e⟩
theorem New.ne {H H' : Hp} {p b : Addr} {o u : HO} (n : New H H' p o) (h : H b = some u) : b ≠ p := ne_of_none h n.no
theorem New.ne' {H H' : Hp} {p b : Addr} {o u : HO} (n : New H H' p o) (h : H b = some u) : p ≠ b := Ne.symm (n.ne h)
/-- o stands at l now, nothing else has changed -/
structure Chg (H H' : Hp) (l : Addr) (o : HO) : Prop where
  at_ : H' l = some o
  keep : Upt [l] H H'
theorem Chg.of {H : Hp} {p : Addr} {o : HO} : Chg H (upd H p o) p o := ⟨upd_same, Upt.upd⟩

/-! ### steps -/
section
variable {K : PySem.W.Frag} {σ : L2.St} {H : Hp} {Q : VK} {QA : List V → Hp → Prop} {QT : Bool → Hp → Prop} {ta tb tc te tv : TE} {tt tu : TT} {t tr : TA} {u1 u2 : TS} {D : Ends} {v x y : V} {i j : Int} {r : R2}
theorem w_var {n : Nat} (h : σ[n]? = some (some v)) (q : Q v H) : tVar n σ H Q := ⟨v, h, q⟩
theorem w_c (q : Q v H) : tC v σ H Q := q
theorem w_op (h : ta σ H fun x H1 => tb σ H1 fun y H2 => r x y H2 Q) : tOp r ta tb σ H Q := h
theorem w_un {g : V → Hp → VK → Prop} (h : ta σ H fun x H1 => g x H1 Q) : tUn g ta σ H Q := h
theorem w_I0 {g : Int → Int → V} (q : Q (g i j) H) : rI0 g (.int i) (.int j) H Q := ⟨i, j, rfl, rfl, q⟩
theorem w_I {C : Int → Int → Prop} {g : Int → Int → V} (c : C i j) (q : Q (g i j) H) : rI C g (.int i) (.int j) H Q := ⟨i, j, rfl, rfl, c, q⟩
theorem w_U {g : Int → V} (q : Q (g i) H) : rU g (.int i) H Q := ⟨i, rfl, q⟩
theorem w_eq (h : scal x y = true) (q : Q (.bl (decide (x = y))) H) : rEq x y H Q := ⟨h, q⟩
theorem w_ne (h : scal x y = true) (q : Q (.bl (!decide (x = y))) H) : rNe x y H Q := ⟨h, q⟩
theorem dec_int (i j : Int) : decide (V.int i = V.int j) = decide (i = j) := by
  by_cases h : i = j
  · subst h; simp
  · rw [decide_eq_false h, decide_eq_false (fun e => h (V.int.inj e))]
theorem dec_str (i j : Str) : decide (V.str i = V.str j) = decide (i = j) := by
  by_cases h : i = j
  · subst h; simp
  · rw [decide_eq_false h, decide_eq_false (fun e => h (V.str.inj e))]
theorem w_eqI (q : Q (.bl (decide (i = j))) H) : rEq (.int i) (.int j) H Q := ⟨rfl, by rw [dec_int]; exact q⟩
theorem w_neI (q : Q (.bl (!decide (i = j))) H) : rNe (.int i) (.int j) H Q := ⟨rfl, by rw [dec_int]; exact q⟩
theorem w_eqS {a b : Str} (q : Q (.bl (decide (a = b))) H) : rEq (.str a) (.str b) H Q := ⟨rfl, by rw [dec_str]; exact q⟩
theorem w_neS {a b : Str} (q : Q (.bl (!decide (a = b))) H) : rNe (.str a) (.str b) H Q := ⟨rfl, by rw [dec_str]; exact q⟩
theorem w_test (h : te σ H fun x H' => ∃ k, x = .bl k ∧ QT k H') : tTest te σ H QT := h
theorem w_tB (h : te σ H fun x H' => ∃ k, x = .bl k ∧ QT k H') : tB te σ H QT := h
theorem w_k {b : Bool} {P : Bool → Prop} (q : P b) : ∃ k, V.bl b = .bl k ∧ P k := ⟨b, rfl, q⟩
theorem w_not (h : tt σ H fun c H1 => QT (!c) H1) : tNot tt σ H QT := h
theorem w_and (h : tt σ H fun c H1 => if c = true then tu σ H1 QT else QT false H1) : tAnd tt tu σ H QT := h
theorem w_or (h : tt σ H fun c H1 => if c = true then QT true H1 else tu σ H1 QT) : tOr tt tu σ H QT := h
theorem w_andV (h : ta σ H fun x H1 => ∃ c, x = .bl c ∧ if c = true then tb σ H1 Q else Q (.bl false) H1) : tAndV ta tb σ H Q := h
theorem w_orV (h : ta σ H fun x H1 => ∃ c, x = .bl c ∧ if c = true then Q (.bl true) H1 else tb σ H1 Q) : tOrV ta tb σ H Q := h
theorem w_notV (h : ta σ H fun x H1 => ∃ c, x = .bl c ∧ Q (.bl (!c)) H1) : tNotV ta σ H Q := h
theorem w_ifE (h : tt σ H fun c H1 => if c = true then ta σ H1 Q else tb σ H1 Q) : tIf tt ta tb σ H Q := h
theorem w_next (h : D.nx σ H) : tNext D σ H := h
theorem w_seq (h : u1 { D with nx := u2 D } σ H) : tSeq u1 u2 D σ H := h
theorem w_ifS (h : tt σ H fun b H1 => if b = true then u1 D σ H1 else u2 D σ H1) : tIfS tt u1 u2 D σ H := h
theorem w_ret (h : te σ H D.rt) : tRet te D σ H := h
theorem w_retN (h : D.rt .non H) : tRetN D σ H := h
theorem w_drop (h : te σ H fun _ H1 => D.nx σ H1) : tDrop te D σ H := h
theorem w_set {n : Nat} (h : te σ H fun x H1 => D.nx (σ.set n (some x)) H1) : tAsg te (gName n) D σ H := h
theorem w_asg {g : TG} (h : te σ H fun x H1 => g x σ H1 D.nx) : tAsg te g D σ H := h
theorem w_nil (q : QA [] H) : tNil σ H QA := q
theorem w_cons (h : ta σ H fun x H1 => tr σ H1 fun xs H2 => QA (x :: xs) H2) : tCons ta tr σ H QA := h
/-- a new object, and what follows with its address -/
def KNew (n : Nat) (H : Hp) (o : HO) (Q : VK) : Prop := n ≤ sizeLine ∧ ∀ p, H p = none → Q (.ref p) (upd H p o)
theorem w_tup (h : t σ H fun xs H1 => KNew xs.length H1 (.tup xs) Q) : tTup t σ H Q := h
theorem w_lst (h : t σ H fun xs H1 => KNew xs.length H1 (.lst xs) Q) : tLst t σ H Q := h
theorem w_new {n : Nat} {o : HO} (hs : n ≤ sizeLine) (h : ∀ p H2, New H H2 p o → Q (.ref p) H2) : KNew n H o Q := ⟨hs, fun p hp => h p _ (New.of hp)⟩
theorem w_dnew (h : ∀ p H2, New H H2 p (.dK []) → Q (.ref p) H2) : tDNewK σ H Q := fun p hp => h p _ (New.of hp)
/-- an attribute read -/
def KFld (K : PySem.W.Frag) (f : Str) (x : V) (H : Hp) (Q : VK) : Prop := ∃ a C dx fs v, x = .ref a ∧ H a = some (.ins C dx fs) ∧ Cls K C ∧ NoAttr K C f ∧ fs.lookup f = some v ∧ Q v H
theorem w_fld {f : Str} (h : ta σ H fun x H1 => KFld K f x H1 Q) : tFld K ta f σ H Q := h
theorem w_kfld {f : Str} {a C dx : Addr} {fs : List (Str × V)} (ho : H a = some (.ins C dx fs)) (c : Cls K C) (n : NoAttr K C f) (l : fs.lookup f = some v) (q : Q v H) : KFld K f (.ref a) H Q := ⟨a, C, dx, fs, v, rfl, ho, c, n, l, q⟩
/-- calls of built-ins -/
def CB (g : List V → Hp → VK → Prop) (vs : List V) (H : Hp) (Q : VK) : Prop := g vs H Q
theorem w_cb {g : List V → Hp → VK → Prop} (h : t σ H fun vs H1 => CB g vs H1 Q) : tCB g t σ H Q := h
/-- calls of defs -/
theorem w_call {sp : Sp} {E : XK} (h : t σ H fun vs H1 => sp vs H1 Q E) : tCall sp [] E t σ H Q := by
  show t σ H fun vs H1 => sp (vs ++ []) H1 Q E
  simpa only [List.append_nil] using h
theorem w_callD {sp : Sp} {E : XK} {dvs : List V} (h : t σ H fun vs H1 => sp (vs ++ dvs) H1 Q E) : tCall sp dvs E t σ H Q := h
/-- methods of lists, texts -/
def KBM (K : PySem.W.Frag) (T : String) (g : V → List V → Hp → VK → Prop) (t : TA) (σ : L2.St) (x : V) (H : Hp) (Q : VK) : Prop := tyV K T x H ∧ t σ H fun xs H2 => g x xs H2 Q
theorem w_bm {T : String} {g : V → List V → Hp → VK → Prop} (h : ta σ H fun x H1 => KBM K T g t σ x H1 Q) : tBM K T g ta t σ H Q := h
theorem w_kbm {T : String} {g : V → List V → Hp → VK → Prop} (ty : tyV K T x H) (h : t σ H fun xs H2 => g x xs H2 Q) : KBM K T g t σ x H Q := ⟨ty, h⟩
def KBM0 (K : PySem.W.Frag) (T : String) (g : V → List V → Hp → VK → Prop) (x : V) (H : Hp) (Q : VK) : Prop := tyV K T x H ∧ g x [] H Q
theorem w_bm0 {T : String} {g : V → List V → Hp → VK → Prop} (h : ta σ H fun x H1 => KBM0 K T g x H1 Q) : tBM0 K T g ta σ H Q := h
theorem w_kbm0 {T : String} {g : V → List V → Hp → VK → Prop} (ty : tyV K T x H) (h : g x [] H Q) : KBM0 K T g x H Q := ⟨ty, h⟩
theorem ty_list {p : Addr} {xs : List V} (h : SqL K H p xs) : tyV K "list" (.ref p) H := Or.inl ⟨rfl, _, h⟩
theorem w_append {l : Addr} {xs : List V} (h : H l = some (.lst xs)) (hz : xs.length < sizeLine) (q : ∀ H2, Chg H H2 l (.lst (xs ++ [y])) → Q .non H2) : rAppend (.ref l) [y] H Q := ⟨l, xs, y, rfl, rfl, h, hz, q _ Chg.of⟩
theorem w_popAt {l : Addr} {xs : List V} {n : Nat} (h : H l = some (.lst xs)) (hn : n < xs.length) (hb : n < 2 ^ 62) (hv : xs[n]? = some y) (q : ∀ H2, Chg H H2 l (.lst (xs.eraseIdx n)) → Q y H2) : rPopAt (.ref l) [.int (n : Int)] H Q :=
  ⟨l, xs, (n : Int), n, y, rfl, rfl, h, by omega, by omega, by rw [seqIndex_of (by omega) (by omega)]; simp, hv, q _ Chg.of⟩
/-- items -/
theorem w_ixL {p : Addr} {xs : List V} (h : SqL K H p xs) (ha : atI xs i = some v) (q : Q v H) : rIxL K (.ref p) (.int i) H Q := ⟨p, xs, i, v, rfl, rfl, h, ha, q⟩
theorem w_ixT {p : Addr} {xs : List V} (h : SqT K H p xs) (ha : atI xs i = some v) (q : Q v H) : rIxT K (.ref p) (.int i) H Q := ⟨p, xs, i, v, rfl, rfl, h, ha, q⟩
theorem w_ixS {z : Str} {c : Nat} (hz : z.length ≤ sizeLine) (ha : atI z.cps.toList i = some c) (q : Q (.str ⟨#[c]⟩) H) : rIxS (.str z) (.int i) H Q := ⟨z, i, c, rfl, rfl, hz, ha, q⟩
theorem w_setI {p : Addr} {xs : List V} {n : Nat} {P : Hp → Prop} (h : H p = some (.lst xs)) (hn : ixN xs.length i = some n) (q : ∀ H2, Chg H H2 p (.lst (xs.set n v)) → P H2) : rSetL (.ref p) (.int i) v H P := ⟨p, xs, i, n, rfl, rfl, h, hn, q _ Chg.of⟩
theorem w_gsub {t0 t1 : TE} {ts : TSet} {P : L2.St → Hp → Prop} (h : t0 σ H fun o H1 => t1 σ H1 fun i H2 => ts o i v H2 fun H3 => P σ H3) : gSub t0 t1 ts v σ H P := h
theorem w_aug {n : Nat} {ti : TIp} (hx : σ[n]? = some (some x)) (h : te σ H fun y H1 => ti x y H1 fun z H2 => D.nx (σ.set n (some z)) H2) : tAug n te ti D σ H := ⟨x, hx, h⟩
theorem w_augS {t0 t1 : TE} {tg : V → V → Hp → VK → Prop} {ti : TIp} {ts : TSet} (h : t0 σ H fun o H1 => t1 σ H1 fun i H2 => tg o i H2 fun x H3 => te σ H3 fun y H4 => ti x y H4 fun z H5 => ts o i z H5 fun H6 => D.nx σ H6) : tAugS t0 t1 te tg ti ts D σ H := h
theorem w_ipI {f : Int → Int → Int} (q : Q (.int (f i j)) H) : ipI f (.int i) (.int j) H Q := ⟨i, j, rfl, rfl, q⟩
theorem w_ixAny {p : Addr} {xs : List V} (h : SqL K H p xs ∨ SqT K H p xs) (ha : atI xs i = some v) (q : Q v H) : rIx K (.ref p) (.int i) H Q := by
  rcases h with h | h
  · exact .inl (w_ixL h ha q)
  · exact .inr (.inl (w_ixT h ha q))
theorem w_ixAnyS {z : Str} {c : Nat} (hz : z.length ≤ sizeLine) (ha : atI z.cps.toList i = some c) (q : Q (.str ⟨#[c]⟩) H) : rIx K (.str z) (.int i) H Q := .inr (.inr (w_ixS hz ha q))
/-- ways -/
theorem w_ite {p : Prop} [Decidable p] {A B : Prop} (h1 : p → A) (h2 : ¬ p → B) : if decide p = true then A else B := by
  by_cases h : p
  · rw [decide_eq_true h]; exact h1 h
  · rw [decide_eq_false h]; exact h2 h
theorem w_iteN {p : Prop} [Decidable p] {A B : Prop} (h1 : ¬ p → A) (h2 : p → B) : if (!decide p) = true then A else B := by
  by_cases h : p
  · rw [decide_eq_true h]; exact h2 h
  · rw [decide_eq_false h]; exact h1 h
theorem w_iteT {p : Prop} [Decidable p] {A B : Prop} (hp : p) (h : A) : if decide p = true then A else B := by rw [decide_eq_true hp]; exact h
theorem w_iteF {p : Prop} [Decidable p] {A B : Prop} (hp : ¬ p) (h : B) : if decide p = true then A else B := by rw [decide_eq_false hp]; exact h
theorem w_iteNT {p : Prop} [Decidable p] {A B : Prop} (hp : ¬ p) (h : A) : if (!decide p) = true then A else B := by rw [decide_eq_false hp]; exact h
theorem w_iteNF {p : Prop} [Decidable p] {A B : Prop} (hp : p) (h : B) : if (!decide p) = true then A else B := by rw [decide_eq_true hp]; exact h
theorem w_true {A B : Prop} (h : A) : if true = true then A else B := h
theorem w_false {A B : Prop} (h : B) : if false = true then A else B := h
theorem w_ntrue {A B : Prop} (h : B) : if (!true) = true then A else B := h
theorem w_nfalse {A B : Prop} (h : A) : if (!false) = true then A else B := h
end
theorem w_cut {u1 u2 : TS} {D : Ends} {σ : L2.St} {H : Hp} (Mid : L2.St → Hp → Prop) (h1 : u1 { D with nx := Mid } σ H) (h2 : ∀ σ' H', Mid σ' H' → u2 D σ' H') : C8.tCut u1 u2 D σ H := ⟨Mid, h1, h2⟩
theorem log2_lt {m : Int} (h0 : 0 < m) (h1 : m ≤ 4611686018427387904) : CDivW 0 m := ⟨h0, by
  have h : m.natAbs < 2 ^ 63 := by omega
  have := Nat.log2_lt (n := m.natAbs) (k := 63) (by omega)
  omega⟩
theorem item_int {ns : List Int} {i : Nat} {y : V} (h : (ns.map V.int)[i]? = some y) : ∃ n, y = V.int n := by
  rw [List.getElem?_map] at h
  cases e : ns[i]? with
  | none => rw [e] at h; cases h
  | some n => rw [e] at h; exact ⟨n, (Option.some.inj h).symm⟩
theorem atI_ints {ns : List Int} {i : Int} (h0 : 0 ≤ i) (h1 : i < ns.length) : ∃ n, n ∈ ns ∧ atI (ns.map V.int) i = some (V.int n) := by
  obtain ⟨j, rfl⟩ := Int.eq_ofNat_of_zero_le h0
  have hj : j < ns.length := by omega
  exact ⟨ns[j], List.getElem_mem hj, atI_nat (by rw [List.getElem?_map, List.getElem?_eq_getElem hj]; rfl)⟩
/-! ### what kind a value is of -/
section
variable {K : PySem.W.Frag} {H : Hp} {Q : VK} {x : V}
theorem w_isN (q : Q (.bl (decide (x = .non))) H) : rIsN x .non H Q := ⟨rfl, q⟩
theorem w_notN (q : Q (.bl (!decide (x = .non))) H) : rNotN x .non H Q := ⟨rfl, q⟩
theorem c_isi {t T : String} {b : Bool} (ty : TyX K H x (.type t)) (h : kitB t T = some b) (q : Q (.bl b) H) : CB (rIsi K) [x, .ty T] H Q := ⟨x, .ty T, .type t, .type T, b, rfl, .ty T, ty, kit_ty h, q⟩
theorem ty_non : TyX K H .non (.type "NoneType") := .base .non
theorem ty_bl {b : Bool} : TyX K H (.bl b) (.type "bool") := .base (.bl b)
theorem ty_int {i : Int} : TyX K H (.int i) (.type "int") := .base (.int i)
theorem ty_str {z : Str} : TyX K H (.str z) (.type "str") := .base (.str z)
theorem ty_L {a : Addr} {xs : List V} (h : SqL K H a xs) : TyX K H (.ref a) (.type "list") := by
  rcases h with (h | ⟨o, h⟩) | ⟨o, its, n, h1, h2, _⟩
  · exact .base (.lst h)
  · exact .base (.frz h)
  · exact .kList h1 h2
theorem ty_T {a : Addr} {xs : List V} (h : SqT K H a xs) : TyX K H (.ref a) (.type "tuple") := by
  rcases h with (h | ⟨o, h⟩) | ⟨o, its, n, h1, h2, _⟩
  · exact .base (.tup h)
  · exact .fTuple h
  · exact .kTuple h1 h2
theorem k_nn : kitB "NoneType" "bool" = some false := by decide +kernel
theorem k_bb : kitB "bool" "bool" = some true := by decide +kernel
theorem k_bi : kitB "bool" "int" = some true := by decide +kernel
theorem k_ib : kitB "int" "bool" = some false := by decide +kernel
theorem k_ii : kitB "int" "int" = some true := by decide +kernel
theorem k_is : kitB "int" "str" = some false := by decide +kernel
theorem k_il : kitB "int" "list" = some false := by decide +kernel
theorem k_it : kitB "int" "tuple" = some false := by decide +kernel
theorem k_bs : kitB "bool" "str" = some false := by decide +kernel
theorem k_bl : kitB "bool" "list" = some false := by decide +kernel
theorem k_bt : kitB "bool" "tuple" = some false := by decide +kernel
theorem k_sb : kitB "str" "bool" = some false := by decide +kernel
theorem k_si : kitB "str" "int" = some false := by decide +kernel
theorem k_ss : kitB "str" "str" = some true := by decide +kernel
theorem k_sl : kitB "str" "list" = some false := by decide +kernel
theorem k_st : kitB "str" "tuple" = some false := by decide +kernel
theorem k_lb : kitB "list" "bool" = some false := by decide +kernel
theorem k_li : kitB "list" "int" = some false := by decide +kernel
theorem k_ls : kitB "list" "str" = some false := by decide +kernel
theorem k_ll : kitB "list" "list" = some true := by decide +kernel
theorem k_lt : kitB "list" "tuple" = some false := by decide +kernel
theorem k_tb : kitB "tuple" "bool" = some false := by decide +kernel
theorem k_ti : kitB "tuple" "int" = some false := by decide +kernel
theorem k_ts : kitB "tuple" "str" = some false := by decide +kernel
theorem k_tl : kitB "tuple" "list" = some false := by decide +kernel
theorem k_tt : kitB "tuple" "tuple" = some true := by decide +kernel
theorem k_ni : kitB "NoneType" "int" = some false := by decide +kernel
theorem k_ns : kitB "NoneType" "str" = some false := by decide +kernel
theorem k_nl : kitB "NoneType" "list" = some false := by decide +kernel
theorem k_nt : kitB "NoneType" "tuple" = some false := by decide +kernel
end
/-! ### data -/
/-- what is no list and no tuple -/
inductive Sc : V → PyData → Prop where
  | non : Sc .non .none
  | bl (b : Bool) : Sc (.bl b) (.bool b)
  | int (i : Int) : Sc (.int i) (.int i)
  | str (x : Str) : Sc (.str x) (.str x)
/-- v is the datum d, lists and tuples nested at most n deep, none of them in S -/
def Dn (K : PySem.W.Frag) (S : List Addr) (H : Hp) : Nat → V → PyData → Prop
  | 0, v, d => Sc v d
  | n + 1, v, d => Sc v d ∨ (∃ a xs ds, v = .ref a ∧ d = .list ds ∧ a ∉ S ∧ SqL K H a xs ∧ xs.length ≤ 100000 ∧ Paired (Dn K S H n) xs ds) ∨
      (∃ a xs ds, v = .ref a ∧ d = .tuple ds ∧ a ∉ S ∧ SqT K H a xs ∧ xs.length ≤ 100000 ∧ Paired (Dn K S H n) xs ds)
section
variable {K : PySem.W.Frag} {S S' : List Addr} {H H' : Hp}
theorem Dn.sc {v : V} {d : PyData} (h : Sc v d) : ∀ {n : Nat}, Dn K S H n v d
  | 0 => h
  | _ + 1 => .inl h
theorem Dn.upt (u : Upt S' H H') (hs : ∀ a ∈ S', a ∈ S) : ∀ {n : Nat} {v : V} {d : PyData}, Dn K S H n v d → Dn K S H' n v d
  | 0, _, _, h => h
  | n + 1, v, d, h => by
    rcases h with h | ⟨a, xs, ds, e1, e2, ha, hq, hl, p⟩ | ⟨a, xs, ds, e1, e2, ha, hq, hl, p⟩
    · exact .inl h
    · exact .inr (.inl ⟨a, xs, ds, e1, e2, ha, u.seqL (fun z => ha (hs a z)) hq, hl, Paired.mapP p fun x y q => Dn.upt u hs q⟩)
    · exact .inr (.inr ⟨a, xs, ds, e1, e2, ha, u.seqT (fun z => ha (hs a z)) hq, hl, Paired.mapP p fun x y q => Dn.upt u hs q⟩)
theorem Dn.weak (hs : ∀ a ∈ S', a ∈ S) : ∀ {n : Nat} {v : V} {d : PyData}, Dn K S H n v d → Dn K S' H n v d
  | 0, _, _, h => h
  | n + 1, v, d, h => by
    rcases h with h | ⟨a, xs, ds, e1, e2, ha, hq, hl, p⟩ | ⟨a, xs, ds, e1, e2, ha, hq, hl, p⟩
    · exact .inl h
    · exact .inr (.inl ⟨a, xs, ds, e1, e2, fun z => ha (hs a z), hq, hl, Paired.mapP p fun x y q => Dn.weak hs q⟩)
    · exact .inr (.inr ⟨a, xs, ds, e1, e2, fun z => ha (hs a z), hq, hl, Paired.mapP p fun x y q => Dn.weak hs q⟩)
theorem Dn.up : ∀ {n m : Nat} {v : V} {d : PyData}, n ≤ m → Dn K S H n v d → Dn K S H m v d
  | 0, 0, _, _, _, h => h
  | 0, _ + 1, _, _, _, h => .inl h
  | n + 1, 0, _, _, l, _ => absurd l (by omega)
  | n + 1, m + 1, v, d, l, h => by
    rcases h with h | ⟨a, xs, ds, e1, e2, ha, hq, hl, p⟩ | ⟨a, xs, ds, e1, e2, ha, hq, hl, p⟩
    · exact .inl h
    · exact .inr (.inl ⟨a, xs, ds, e1, e2, ha, hq, hl, Paired.mapP p fun x y q => Dn.up (by omega) q⟩)
    · exact .inr (.inr ⟨a, xs, ds, e1, e2, ha, hq, hl, Paired.mapP p fun x y q => Dn.up (by omega) q⟩)
theorem Dn.tup {n : Nat} {a : Addr} {xs : List V} {ds : List PyData} (h : SqT K H a xs) (ha : a ∉ S) (hl : xs.length ≤ 100000) (p : Paired (Dn K S H n) xs ds) : Dn K S H (n + 1) (.ref a) (.tuple ds) := .inr (.inr ⟨a, xs, ds, rfl, rfl, ha, h, hl, p⟩)
theorem Dn.lst {n : Nat} {a : Addr} {xs : List V} {ds : List PyData} (h : SqL K H a xs) (ha : a ∉ S) (hl : xs.length ≤ 100000) (p : Paired (Dn K S H n) xs ds) : Dn K S H (n + 1) (.ref a) (.list ds) := .inr (.inl ⟨a, xs, ds, rfl, rfl, ha, h, hl, p⟩)
theorem Dn.int {n : Nat} {i : Int} : Dn K S H n (.int i) (.int i) := .sc (.int i)
theorem Dn.str {n : Nat} {z : Str} : Dn K S H n (.str z) (.str z) := .sc (.str z)
theorem Dn.non {n : Nat} : Dn K S H n .non .none := .sc .non
theorem Dn.bl {n : Nat} {b : Bool} : Dn K S H n (.bl b) (.bool b) := .sc (.bl b)
theorem Dn.ints {n : Nat} : ∀ {ns : List Int}, Paired (Dn K S H n) (ns.map V.int) (ns.map PyData.int)
  | [] => .nil
  | _ :: _ => .cons Dn.int Dn.ints
end
theorem paired_at {α β : Type} {F : α → β → Prop} : ∀ {xs : List α} {ys : List β} {i : Nat} {x : α}, Paired F xs ys → xs[i]? = some x → ∃ y, ys[i]? = some y ∧ F x y
  | _, _, _, _, .nil, e => by simp at e
  | _, _, 0, _, .cons r _, e => by simp at e; subst e; exact ⟨_, rfl, r⟩
  | _, _, i + 1, x, .cons _ t, e => by
    obtain ⟨u, h1, h2⟩ := paired_at (i := i) (x := x) t (by simpa using e)
    exact ⟨u, by simpa using h1, h2⟩
/-! ### loops -/
section
variable {K : PySem.W.Frag} {σ : L2.St} {H : Hp} {Q : VK} {tl : TE} {ta : TA} {tb : TS} {D : Ends} {g : TG}
/-- the loop's own part of a for over J -/
def KFor (J : It) (g : TG) (tb : TS) (D : Ends) (σ : L2.St) (H : Hp) : Prop := ∃ W : Nat → Nat → L2.St → Hp → Prop, (∃ m, W 0 m σ H) ∧ ∀ i m σ H, W i m σ H →
  (J.stop i H ∧ D.nx σ H) ∨ (J.go i H ∧ ∃ N : L2.St → Hp → Prop, (∀ σ' H', N σ' H' → ∃ m', m' < m ∧ W (i + 1) m' σ' H') ∧ ∀ x H', J.yld i H x H' → g x σ H' fun σ2 H2 => tb { D with nx := N, ct := N, bk := D.nx } σ2 H2)
def KForL (K : PySem.W.Frag) (g : TG) (tb : TS) (D : Ends) (σ : L2.St) (x : V) (H : Hp) : Prop := ∃ a, x = .ref a ∧ (∃ xs, SqL K H a xs) ∧ KFor (Itl K a) g tb D σ H
def KForT (K : PySem.W.Frag) (g : TG) (tb : TS) (D : Ends) (σ : L2.St) (x : V) (H : Hp) : Prop := ∃ a, x = .ref a ∧ (∃ xs, SqT K H a xs) ∧ KFor (Itt K a) g tb D σ H
def KForS (g : TG) (tb : TS) (D : Ends) (σ : L2.St) (v : V) (H : Hp) : Prop := ∃ x, v = .str x ∧ KFor (Its x) g tb D σ H
def KForR (g : TG) (tb : TS) (D : Ends) (σ : L2.St) (vs : List V) (H : Hp) : Prop := ∃ j : Int, vs = [.int j] ∧ -(2 ^ 62) ≤ j ∧ j < 2 ^ 62 ∧ KFor (Itr 0 j.toNat) g tb D σ H
theorem w_forL (h : tl σ H fun x H1 => KForL K g tb D σ x H1) : tFor (iList K tl) g tb D σ H := h
theorem w_forT (h : tl σ H fun x H1 => KForT K g tb D σ x H1) : tFor (iTup K tl) g tb D σ H := h
theorem w_forS (h : tl σ H fun x H1 => KForS g tb D σ x H1) : tFor (iStr tl) g tb D σ H := h
theorem w_forR (h : ta σ H fun vs H1 => KForR g tb D σ vs H1) : tFor (iRng1 ta) g tb D σ H := h
theorem l_list {a : Addr} {xs : List V} {n : Nat} (h : SqL K H a xs) (Pv : Nat → L2.St → Hp → Prop) (h0 : Pv 0 σ H) (hl : ∀ i σ H, i ≤ xs.length → Pv i σ H → SqL K H a xs)
    (hs : ∀ i y σ H, xs[i]? = some y → Pv i σ H → tb { D with nx := Pv (i + 1), ct := Pv (i + 1), bk := D.nx } (σ.set n (some y)) H) (hd : ∀ σ H, Pv xs.length σ H → D.nx σ H) : KForL K (gName n) tb D σ (.ref a) H :=
  ⟨a, rfl, ⟨xs, h⟩, for_list (K := K) (a := a) (xs := xs) Pv h0 hl hs hd⟩
theorem l_tup {a : Addr} {xs : List V} {n : Nat} (h : SqT K H a xs) (Pv : Nat → L2.St → Hp → Prop) (h0 : Pv 0 σ H) (hl : ∀ i σ H, i ≤ xs.length → Pv i σ H → SqT K H a xs)
    (hs : ∀ i y σ H, xs[i]? = some y → Pv i σ H → tb { D with nx := Pv (i + 1), ct := Pv (i + 1), bk := D.nx } (σ.set n (some y)) H) (hd : ∀ σ H, Pv xs.length σ H → D.nx σ H) : KForT K (gName n) tb D σ (.ref a) H :=
  ⟨a, rfl, ⟨xs, h⟩, for_tup (K := K) (a := a) (xs := xs) Pv h0 hl hs hd⟩
theorem l_range {j : Int} {n m : Nat} (hj : j = (m : Int)) (hb : m ≤ 1000000) (Pv : Nat → L2.St → Hp → Prop) (h0 : Pv 0 σ H)
    (hs : ∀ (i : Nat) σ H, i < m → Pv i σ H → tb { D with nx := Pv (i + 1), ct := Pv (i + 1), bk := D.nx } (σ.set n (some (.int (i : Int)))) H) (hd : ∀ σ H, Pv m σ H → D.nx σ H) : KForR (gName n) tb D σ [.int j] H := by
  subst hj
  refine ⟨(m : Int), rfl, by omega, by omega, ?_⟩
  have e : ((m : Int)).toNat = m := by simp
  rw [e]
  refine for_range (lo := 0) (n := m) Pv h0 (fun i σ H hi p => ?_) hd
  have z : (0 : Int) + (i : Int) = (i : Int) := Int.zero_add _
  show tb _ (σ.set n (some (.int ((0 : Int) + (i : Int))))) H
  rw [z]
  exact hs i σ H hi p
theorem l_str {z : Str} {n : Nat} (Pv : Nat → L2.St → Hp → Prop) (h0 : Pv 0 σ H)
    (hs : ∀ (i c : Nat) σ H, z.cps.toList[i]? = some c → Pv i σ H → tb { D with nx := Pv (i + 1), ct := Pv (i + 1), bk := D.nx } (σ.set n (some (.str ⟨#[c]⟩))) H) (hd : ∀ σ H, Pv z.cps.toList.length σ H → D.nx σ H) : KForS (gName n) tb D σ (.str z) H := by
  have el : z.cps.toList.length = z.cps.size := by simp
  refine ⟨z, rfl, fun i m σ H => m = z.cps.size - i ∧ i ≤ z.cps.size ∧ Pv i σ H, ⟨z.cps.size, by simp, Nat.zero_le _, h0⟩, ?_⟩
  rintro i m σ H ⟨rfl, hi, p⟩
  by_cases hlt : i < z.cps.size
  · refine .inr ⟨hlt, Pv (i + 1), fun σ' H' p' => ⟨z.cps.size - (i + 1), by omega, rfl, hlt, p'⟩, fun x H' y => ?_⟩
    obtain ⟨e, c, hc, ev⟩ := y
    subst e
    subst ev
    exact hs i c σ H' (by rw [Array.getElem?_toList]; exact hc) p
  · have e2 : i = z.cps.size := by omega
    subst e2
    exact .inl ⟨Nat.le_refl _, hd _ _ (by rw [el]; exact p)⟩
/-! comprehensions -/
def KLc (J : It) (g : TG) (tt : TT) (te : TE) (vs : List Nat) (σ : L2.St) (H1 : Hp) (Q : VK) : Prop := ∀ D, H1 D = none → ∃ W : Nat → Nat → Hp → Prop, (∃ m, W 0 m (upd H1 D (.lst []))) ∧ ∀ i m H, W i m H →
  (J.stop i H ∧ Q (.ref D) H) ∨ (J.go i H ∧ ∃ Nx : Hp → Prop, (∀ H', Nx H' → ∃ m', m' < m ∧ W (i + 1) m' H') ∧ ∀ x H', J.yld i H x H' → g x (wipe σ vs) H' fun σ2 H2 => wipe σ2 vs = wipe σ vs ∧ tt σ2 H2 fun b H3 =>
    if b = true then te σ2 H3 fun y H4 => ∃ acc, H4 D = some (.lst acc) ∧ acc.length < sizeLine ∧ Nx (upd H4 D (.lst (acc ++ [y]))) else Nx H3)
def KLcR (g : TG) (tt : TT) (te : TE) (us : List Nat) (σ : L2.St) (Q : VK) (vs : List V) (H : Hp) : Prop := ∃ j : Int, vs = [.int j] ∧ -(2 ^ 62) ≤ j ∧ j < 2 ^ 62 ∧ KLc (Itr 0 j.toNat) g tt te us σ H Q
def KLcL (K : PySem.W.Frag) (g : TG) (tt : TT) (te : TE) (us : List Nat) (σ : L2.St) (Q : VK) (x : V) (H : Hp) : Prop := ∃ a, x = .ref a ∧ (∃ xs, SqL K H a xs) ∧ KLc (Itl K a) g tt te us σ H Q
def KLcT (K : PySem.W.Frag) (g : TG) (tt : TT) (te : TE) (us : List Nat) (σ : L2.St) (Q : VK) (x : V) (H : Hp) : Prop := ∃ a, x = .ref a ∧ (∃ xs, SqT K H a xs) ∧ KLc (Itt K a) g tt te us σ H Q
variable {tt : TT} {te : TE} {us : List Nat}
theorem w_lcR (h : ta σ H fun vs H1 => KLcR g tt te us σ Q vs H1) : tLc (iRng1 ta) g tt te us σ H Q := h
theorem w_lcL (h : tl σ H fun x H1 => KLcL K g tt te us σ Q x H1) : tLc (iList K tl) g tt te us σ H Q := h
theorem w_lcT (h : tl σ H fun x H1 => KLcT K g tt te us σ Q x H1) : tLc (iTup K tl) g tt te us σ H Q := h
/-- what is made stands behind the list at D -/
def KApp (D : Addr) (P : Hp → Prop) (y : V) (H : Hp) : Prop := ∃ acc, H D = some (.lst acc) ∧ acc.length < sizeLine ∧ P (upd H D (.lst (acc ++ [y])))
theorem w_kapp {D : Addr} {P : Hp → Prop} {y : V} {acc : List V} (h : H D = some (.lst acc)) (hz : acc.length < sizeLine) (q : ∀ H5, Chg H H5 D (.lst (acc ++ [y])) → P H5) : KApp D P y H := ⟨acc, h, hz, q _ Chg.of⟩
/-- [e for k in range(m)] -/
theorem lc_R {j : Int} {n m : Nat} (hj : j = (m : Int)) (hb : m ≤ 1000000) (Pv : Nat → Addr → Hp → Prop) (h0 : ∀ D H1, New H H1 D (.lst []) → Pv 0 D H1)
    (hs : ∀ (i : Nat) D H, i < m → Pv i D H → te ((σ.set n none).set n (some (.int (i : Int)))) H (KApp D (Pv (i + 1) D)))
    (hd : ∀ D H, Pv m D H → Q (.ref D) H) : KLcR (gName n) tYes te [n] σ Q [.int j] H := by
  subst hj
  refine ⟨(m : Int), rfl, by omega, by omega, fun D hD => ?_⟩
  have e : ((m : Int)).toNat = m := by simp
  rw [e]
  refine lc_range (lo := 0) (n := m) (fun i H => Pv i D H) (h0 D _ (New.of hD)) (fun i H hi p => ?_) fun H p => hd D H p
  have z : (0 : Int) + (i : Int) = (i : Int) := Int.zero_add _
  refine ⟨?_, ?_⟩
  · show List.set (List.set (List.set σ n none) n (some (V.int ((0 : Int) + (i : Int))))) n none = List.set σ n none
    simp
  · show te (List.set (List.set σ n none) n (some (V.int ((0 : Int) + (i : Int))))) H (KApp D (Pv (i + 1) D))
    rw [z]
    exact hs i D H hi p
/-- [e for x in xs] -/
theorem lc_L {a : Addr} {xs : List V} {n : Nat} (h : SqL K H a xs) (Pv : Nat → Addr → Hp → Prop) (h0 : ∀ D H1, New H H1 D (.lst []) → Pv 0 D H1) (hl : ∀ i D H, i ≤ xs.length → Pv i D H → SqL K H a xs)
    (hs : ∀ (i : Nat) x D H, xs[i]? = some x → Pv i D H → te ((σ.set n none).set n (some x)) H (KApp D (Pv (i + 1) D)))
    (hd : ∀ D H, Pv xs.length D H → Q (.ref D) H) : KLcL K (gName n) tYes te [n] σ Q (.ref a) H := by
  refine ⟨a, rfl, ⟨xs, h⟩, fun D hD => ?_⟩
  refine lc_list (K := K) (a := a) (xs := xs) (fun i H => Pv i D H) (h0 D _ (New.of hD)) (fun i H hi p => hl i D H hi p) (fun i x H hi p => ?_) fun H p => hd D H p
  refine ⟨?_, ?_⟩
  · show List.set (List.set (List.set σ n none) n (some x)) n none = List.set σ n none
    simp
  · show te (List.set (List.set σ n none) n (some x)) H (KApp D (Pv (i + 1) D))
    exact hs i x D H hi p
theorem lc_T {a : Addr} {xs : List V} {n : Nat} (h : SqT K H a xs) (Pv : Nat → Addr → Hp → Prop) (h0 : ∀ D H1, New H H1 D (.lst []) → Pv 0 D H1) (hl : ∀ i D H, i ≤ xs.length → Pv i D H → SqT K H a xs)
    (hs : ∀ (i : Nat) x D H, xs[i]? = some x → Pv i D H → te ((σ.set n none).set n (some x)) H (KApp D (Pv (i + 1) D)))
    (hd : ∀ D H, Pv xs.length D H → Q (.ref D) H) : KLcT K (gName n) tYes te [n] σ Q (.ref a) H := by
  refine ⟨a, rfl, ⟨xs, h⟩, fun D hD => ?_⟩
  refine lc_tup (K := K) (a := a) (xs := xs) (fun i H => Pv i D H) (h0 D _ (New.of hD)) (fun i H hi p => hl i D H hi p) (fun i x H hi p => ?_) fun H p => hd D H p
  refine ⟨?_, ?_⟩
  · show List.set (List.set (List.set σ n none) n (some x)) n none = List.set σ n none
    simp
  · show te (List.set (List.set σ n none) n (some x)) H (KApp D (Pv (i + 1) D))
    exact hs i x D H hi p
end
/-! ### built-ins, by names -/
section
variable {K : PySem.W.Frag} {H : Hp} {Q : VK} {i j : Int} {v : V}
def rInt1 : List V → Hp → VK → Prop := fun xs H Q => (∃ i, xs = [.int i] ∧ Q (.int i) H) ∨ ∃ k, xs = [.bl k] ∧ Q (.int (if k then 1 else 0)) H
def rAbs : List V → Hp → VK → Prop := fun xs H Q => ∃ i, xs = [.int i] ∧ Q (.int (if i < 0 then -i else i)) H
def rMax2 : List V → Hp → VK → Prop := fun xs H Q => ∃ i j, xs = [.int i, .int j] ∧ Q (.int (if j > i then j else i)) H
def rMin2 : List V → Hp → VK → Prop := fun xs H Q => ∃ i j, xs = [.int i, .int j] ∧ Q (.int (if j < i then j else i)) H
def rListOf (K : PySem.W.Frag) : List V → Hp → VK → Prop := fun xs H Q => ∃ p ys, xs = [.ref p] ∧ (SqL K H p ys ∨ SqT K H p ys) ∧ ∀ l, H l = none → Q (.ref l) (upd H l (.lst ys))
def rTupOf (K : PySem.W.Frag) : List V → Hp → VK → Prop := fun xs H Q => ∃ p ys, xs = [.ref p] ∧ ((SqL K H p ys ∧ ∀ l, H l = none → Q (.ref l) (upd H l (.tup ys))) ∨ (SqT K H p ys ∧ Q (.ref p) H))
def rLenS (K : PySem.W.Frag) : List V → Hp → VK → Prop := fun xs H Q => ∃ p ys, xs = [.ref p] ∧ (SqL K H p ys ∨ SqT K H p ys) ∧ Q (.int ys.length) H
def rLenT : List V → Hp → VK → Prop := fun xs H Q => ∃ z, xs = [.str z] ∧ z.length ≤ sizeLine ∧ Q (.int z.length) H
variable {X : Cx}
theorem b_int : CallR X (.type "int") rInt1 := call_int1
theorem b_abs : CallR X (.builtin "abs") rAbs := call_abs
theorem b_max (hc : X.calm = true) : CallR X (.builtin "max") rMax2 := call_max2 hc
theorem b_min (hc : X.calm = true) : CallR X (.builtin "min") rMin2 := call_min2 hc
theorem b_list : CallR X (.type "list") (rListOf X.K) := call_list_of
theorem b_tuple : CallR X (.type "tuple") (rTupOf X.K) := call_tuple_of
theorem b_len : CallR X (.builtin "len") (rLenS X.K) := call_len_seq
theorem b_lenT : CallR X (.builtin "len") rLenT := call_len_str
theorem c_int (q : Q (.int i) H) : CB rInt1 [.int i] H Q := Or.inl ⟨i, rfl, q⟩
theorem c_intB {b : Bool} (q : Q (.int (if b then 1 else 0)) H) : CB rInt1 [.bl b] H Q := Or.inr ⟨b, rfl, q⟩
theorem c_abs (q : Q (.int (if i < 0 then -i else i)) H) : CB rAbs [.int i] H Q := ⟨i, rfl, q⟩
theorem c_max (q : Q (.int (if j > i then j else i)) H) : CB rMax2 [.int i, .int j] H Q := ⟨i, j, rfl, q⟩
theorem c_min (q : Q (.int (if j < i then j else i)) H) : CB rMin2 [.int i, .int j] H Q := ⟨i, j, rfl, q⟩
theorem c_listL {p : Addr} {ys : List V} (h : SqL K H p ys) (q : ∀ l H2, New H H2 l (.lst ys) → Q (.ref l) H2) : CB (rListOf K) [.ref p] H Q := ⟨p, ys, rfl, .inl h, fun l hl => q l _ (New.of hl)⟩
theorem c_listT {p : Addr} {ys : List V} (h : SqT K H p ys) (q : ∀ l H2, New H H2 l (.lst ys) → Q (.ref l) H2) : CB (rListOf K) [.ref p] H Q := ⟨p, ys, rfl, .inr h, fun l hl => q l _ (New.of hl)⟩
theorem c_tupL {p : Addr} {ys : List V} (h : SqL K H p ys) (q : ∀ l H2, New H H2 l (.tup ys) → Q (.ref l) H2) : CB (rTupOf K) [.ref p] H Q := ⟨p, ys, rfl, .inl ⟨h, fun l hl => q l _ (New.of hl)⟩⟩
theorem c_lenL {p : Addr} {ys : List V} (h : SqL K H p ys) (q : Q (.int (ys.length : Int)) H) : CB (rLenS K) [.ref p] H Q := ⟨p, ys, rfl, .inl h, q⟩
theorem c_lenT {p : Addr} {ys : List V} (h : SqT K H p ys) (q : Q (.int (ys.length : Int)) H) : CB (rLenS K) [.ref p] H Q := ⟨p, ys, rfl, .inr h, q⟩
theorem c_lenA {p : Addr} {ys : List V} (h : SqL K H p ys ∨ SqT K H p ys) (q : Q (.int (ys.length : Int)) H) : CB (rLenS K) [.ref p] H Q := ⟨p, ys, rfl, h, q⟩
theorem c_lenS {z : Str} (h : z.length ≤ sizeLine) (q : Q (.int (z.length : Int)) H) : CB rLenT [.str z] H Q := ⟨z, rfl, h, q⟩
end
end Wk
set_option Elab.async false
set_option linter.all false
set_option maxRecDepth 100000
set_option maxHeartbeats 4000000
/-! Wk: small defs without effects, walked in any surroundings (for what a generator expression calls). -/
namespace Wk
open PySem PySem.Spec PyProof.Rows L2
abbrev Pins := List (Addr × Obj)
/-- the frame's names hold vals, what the top left stands, and the pinned objects too -/
structure RS (base : Heap) (env : Env) (vals : List (Str × V)) (G : Pins) (m : Str → Option Value) (s : Shared) : Prop where
  hb : ∀ b o, base.get? b = some o → s.heap.get? b = some o
  hn : s.heap.Ns env.locals m
  hm : ∀ p ∈ vals, ∃ u, m p.1 = some u ∧ RelV p.2 u
  hG : ∀ q ∈ G, s.heap.get? q.1 = some q.2
/-- the expression e gives v and keeps all that stands -/
def RE (prog : Program) (w : World) (base : Heap) (D : Nat) (env : Env) (vals : List (Str × V)) (G : Pins) (e : Expr) (v : V) : Prop :=
  ∀ (A : Around) (E : Value → Shared → Prop) (s : Shared) (m : Str → Option Value), A.handled = none → A.depth ≤ D → RS base env vals G m s → wpAny (model prog w) A (eval e env) (fun y s' => RelV v y ∧ Keeps s s') E s
/-- arguments -/
def RA (prog : Program) (w : World) (base : Heap) (D : Nat) (env : Env) (vals : List (Str × V)) (G : Pins) (es : List Expr) (vs : List V) : Prop :=
  ∀ (pos : Pos) (A : Around) (E : Value → Shared → Prop) (s : Shared) (m : Str → Option Value), A.handled = none → A.depth ≤ D → RS base env vals G m s → wpAny (model prog w) A (spliced (backTo pos (starEach es env))) (fun us s' => Vals vs us ∧ Keeps s s') E s
/-- the def at f hands back v for vs -/
def RF (prog : Program) (w : World) (base : Heap) (D : Nat) (f : Addr) (vs : List V) (G : Pins) (v : V) : Prop :=
  ∀ (A : Around) (s : Shared) (us : List Value), A.handled = none → A.depth ≤ D → (∀ b o, base.get? b = some o → s.heap.get? b = some o) → Vals vs us → (∀ q ∈ G, s.heap.get? q.1 = some q.2) →
    codeAny (model prog w) A (.call (.ref f) ⟨us, []⟩) (fun r s' => ∃ u, r = .ok (.ret u) ∧ RelV v u ∧ Keeps s s') s
/-- what is known of a frame -/
structure RC (scope : Scope) (env : Env) : Prop where
  kind : env.scope.kind = .function
  sc : env.scope = scope
  glob : env.globals = mainGlobals
  blt : env.builtins = builtinsNs
theorem keeps_trans {s s1 s2 : Shared} (a : Keeps s s1) (b : Keeps s1 s2) : Keeps s s2 := by
  obtain ⟨h1, k1, rfl, e1⟩ := a
  obtain ⟨h2, k2, rfl, e2⟩ := b
  exact ⟨h2, k2, rfl, fun b o q => e2 b o (e1 b o q)⟩
theorem keeps_tok (s : Shared) (k : Nat) : Keeps s { s with toks := k } := ⟨s.heap, k, rfl, fun _ _ e => e⟩
theorem keeps_self (s : Shared) : Keeps s s := keeps_tok s s.toks
theorem keeps_get {s s' : Shared} (a : Keeps s s') : ∀ b o, s.heap.get? b = some o → s'.heap.get? b = some o := by
  obtain ⟨h1, k1, rfl, e1⟩ := a
  exact e1
/-- the kind of a value, with what is pinned -/
inductive KV (G : Pins) : V → String → Prop
  | non : KV G .non "NoneType"
  | bl {b} : KV G (.bl b) "bool"
  | int {i} : KV G (.int i) "int"
  | str {z} : KV G (.str z) "str"
  | lst {a o} : (a, o) ∈ G → o.cls = .type "list" → KV G (.ref a) "list"
  | tup {a o} : (a, o) ∈ G → o.cls = .type "tuple" → KV G (.ref a) "tuple"
  | dct {a o} : (a, o) ∈ G → o.cls = .type "dict" → KV G (.ref a) "dict"
section
variable {prog : Program} {w : World} {K : PySem.W.Frag} {mg : Str → Option Value} {base : Heap} {D : Nat} {env : Env} {scope : Scope} {vals : List (Str × V)} {G : Pins} {e e1 e2 e3 : Expr} {es : List Expr} {v : V} {vs : List V} {p p1 p2 pos : Pos}
theorem RS.on {m : Str → Option Value} {s s' : Shared} (r : RS base env vals G m s) (k : Keeps s s') : RS base env vals G m s' :=
  ⟨fun b o q => keeps_get k b o (r.hb b o q), r.hn.keeps (keeps_get k), r.hm, fun q hq => keeps_get k _ _ (r.hG q hq)⟩
theorem re_name {x : Str} (c : RC scope env) (hl : scope.names.lookup x = some .local) (hv : (x, v) ∈ vals) (hd : (x == ("__debug__" : Str)) = false := by decide) : RE prog w base D env vals G (.Name x p) v := by
  intro A E s m hA hD r
  obtain ⟨u, hu, q⟩ := r.hm _ hv
  exact wpAny_Name (wpAny_loadName_local c.kind (show env.scope.names.lookup x = some .local by rw [c.sc]; exact hl) r.hn hu ⟨q, keeps_self _⟩) hd
theorem re_int {i : Int} {j : Nat} : RE prog w base D env vals G (.Constant (.int i) j p) (.int i) := fun A E s m hA hD r => wpAny_Constant_int ⟨⟨_, rfl⟩, keeps_tok _ _⟩
theorem re_str {z : Str} {j : Nat} : RE prog w base D env vals G (.Constant (.str z) j p) (.str z) := fun A E s m hA hD r => Calls.Constant_str ⟨⟨_, rfl⟩, keeps_tok _ _⟩
theorem ld_g {x : Str} {u : Value} {A : Around} {E : Value → Shared → Prop} {s : Shared} {m : Str → Option Value} {Q : Value → Shared → Prop} (M : Mod K mg base) (c : RC scope env) (r : RS base env vals G m s) (hg : scope.names.lookup x = some .globalImplicit) (hm : mg x = some u) (q : Q u s) (hd : (x == ("__debug__" : Str)) = false := by decide) :
    wpAny (model prog w) A (eval (.Name x p) env) Q E s :=
  Calls.Name_function_global c.kind (show env.scope.names.lookup x = some .globalImplicit by rw [c.sc]; exact hg) (Calls.loadGlobal_global (by rw [c.glob]; exact M.glob.keeps r.hb) hm q) hd
theorem ld_b {x : Str} {u : Value} {A : Around} {E : Value → Shared → Prop} {s : Shared} {m : Str → Option Value} {Q : Value → Shared → Prop} (M : Mod K mg base) (c : RC scope env) (r : RS base env vals G m s) (hg : scope.names.lookup x = some .globalImplicit) (hm : mg x = none) (hv : bootBuiltins x = some u) (q : Q u s)
    (hn0 : x ≠ "__name__" := by decide) (hd : (x == ("__debug__" : Str)) = false := by decide) : wpAny (model prog w) A (eval (.Name x p) env) Q E s := by
  obtain ⟨mb, h1, h2⟩ := M.blt
  exact Calls.Name_function_global c.kind (show env.scope.names.lookup x = some .globalImplicit by rw [c.sc]; exact hg) (Calls.loadGlobal_builtin (by rw [c.glob]; exact M.glob.keeps r.hb) hm (by rw [c.blt]; exact h1.keeps r.hb) ((h2 x hn0).trans hv) q) hd
theorem re_glob {x : Str} {u : Value} (M : Mod K mg base) (c : RC scope env) (hg : scope.names.lookup x = some .globalImplicit) (hm : mg x = some u) (q : RelV v u) (hd : (x == ("__debug__" : Str)) = false := by decide) : RE prog w base D env vals G (.Name x p) v :=
  fun A E s m hA hD r => ld_g M c r hg hm ⟨q, keeps_self _⟩ hd
theorem re_blt {x : Str} {u : Value} (M : Mod K mg base) (c : RC scope env) (hg : scope.names.lookup x = some .globalImplicit) (hm : mg x = none) (hv : bootBuiltins x = some u) (q : RelV v u) (hn0 : x ≠ "__name__" := by decide) (hd : (x == ("__debug__" : Str)) = false := by decide) : RE prog w base D env vals G (.Name x p) v :=
  fun A E s m hA hD r => ld_b M c r hg hm hv ⟨q, keeps_self _⟩ hn0 hd
/-- a - b of whole numbers -/
theorem re_sub {i j : Int} (h1 : RE prog w base D env vals G e1 (.int i)) (h2 : RE prog w base D env vals G e2 (.int j)) : RE prog w base D env vals G (.BinOp e1 .Sub e2 p) (.int (i - j)) := by
  intro A E s m hA hD r
  refine wpAny_BinOp (thn (h1 A E s m hA hD r) fun y s1 ⟨r1, k1⟩ => ?_)
  refine thn (h2 A E s1 m hA hD (r.on k1)) fun z s2 ⟨r2, k2⟩ => ?_
  obtain ⟨t, rfl⟩ := r1
  obtain ⟨t', rfl⟩ := r2
  exact sub_int ⟨⟨_, rfl⟩, keeps_trans (keeps_trans k1 k2) (keeps_tok _ _)⟩
/-- a and b, of truth values; a false one ends it -/
theorem re_andF {rest : List Expr} (h1 : RE prog w base D env vals G e1 (.bl false)) : RE prog w base D env vals G (.BoolOp .And (e1 :: e2 :: rest) p) (.bl false) := by
  intro A E s m hA hD r
  refine BoolOp_and (thn (h1 A E s m hA hD r) fun y s1 ⟨r1, k1⟩ => ?_)
  cases r1
  exact wpAny_truthy_bool ⟨rfl, k1⟩
theorem re_andT {b : Bool} (h1 : RE prog w base D env vals G e1 (.bl true)) (h2 : RE prog w base D env vals G e2 (.bl b)) : RE prog w base D env vals G (.BoolOp .And [e1, e2] p) (.bl b) := by
  intro A E s m hA hD r
  refine BoolOp_and (thn (h1 A E s m hA hD r) fun y s1 ⟨r1, k1⟩ => ?_)
  cases r1
  refine wpAny_truthy_bool ?_
  refine BoolOp_one (thn (h2 A E s1 m hA hD (r.on k1)) fun z s2 ⟨r2, k2⟩ => ⟨r2, keeps_trans k1 k2⟩)
theorem re_not {b : Bool} (h1 : RE prog w base D env vals G e1 (.bl b)) : RE prog w base D env vals G (.UnaryOp .Not e1 p) (.bl (!b)) := by
  intro A E s m hA hD r
  refine UnaryOp_ (thn (h1 A E s m hA hD r) fun y s1 ⟨r1, k1⟩ => ?_)
  cases r1
  exact not_of (wpAny_truthy_bool ⟨rfl, k1⟩)
/-- i <= x <= j -/
theorem re_chain {i x j : Int} (h1 : RE prog w base D env vals G e1 (.int i)) (h2 : RE prog w base D env vals G e2 (.int x)) (h3 : RE prog w base D env vals G e3 (.int j)) (hm : lastMarks [.LtE, .LtE] [e2, e3] = false := by with_unfolding_all rfl) :
    RE prog w base D env vals G (.Compare e1 [.LtE, .LtE] [e2, e3] p) (.bl (decide (i ≤ x ∧ x ≤ j))) := by
  intro A E s m hA hD r
  refine Compare_chain (thn (h1 A E s m hA hD r) fun y s1 ⟨r1, k1⟩ => chain_link (thn (h2 A E s1 m hA hD (r.on k1)) fun z s2 ⟨r2, k2⟩ => ?_)) hm
  obtain ⟨t, rfl⟩ := r1
  obtain ⟨t', rfl⟩ := r2
  refine PyProof.Rows.le_int (wpAny_truthy_bool ?_)
  by_cases hi : i ≤ x
  · rw [decide_eq_true hi]
    refine ite_tt (chain_last (thn (h3 A E s2 m hA hD ((r.on k1).on k2)) fun z3 s3 ⟨r3, k3⟩ => ?_))
    obtain ⟨t3, rfl⟩ := r3
    refine PyProof.Rows.le_int ⟨?_, keeps_trans (keeps_trans k1 k2) k3⟩
    show Value.bool _ = Value.bool _
    simp [hi]
  · rw [decide_eq_false hi]
    refine ite_ff ⟨?_, keeps_trans k1 k2⟩
    show Value.bool _ = Value.bool _
    simp [hi]
theorem ra_nil : RA prog w base D env vals G [] [] := fun _ _ _ _ _ _ _ _ => Calls.spliced_nil ⟨.nil, keeps_self _⟩
theorem ra_cons (h1 : RE prog w base D env vals G e v) (h2 : RA prog w base D env vals G es vs) (hs : starEach (e :: es) env = (false, eval e env) :: starEach es env := by rfl) : RA prog w base D env vals G (e :: es) (v :: vs) := by
  intro pos A E s m hA hD r
  rw [hs]
  show wpAny _ _ (spliced ((false, eval e env) :: backTo pos (starEach es env))) _ _ s
  refine Calls.spliced_cons (thn (h1 A E s m hA hD r) fun u s1 ⟨r1, k1⟩ => ?_)
  exact thn (h2 pos A E s1 m hA hD (r.on k1)) fun us s2 ⟨r2, k2⟩ => ⟨.cons r1 r2, keeps_trans k1 k2⟩
/-- f(e, ..), f an own def -/
theorem re_call {x : Str} {f : Addr} (M : Mod K mg base) (c : RC scope env) (hg : scope.names.lookup x = some .globalImplicit) (hm : mg x = some (.ref f)) (hk : PySem.W.keepIn K (.ref f) = true) (F : RF prog w base D f vs G v)
    (ha : RA prog w base D env vals G (e :: es) vs) (hdb : (x == ("__debug__" : Str)) = false := by decide) (he : starEach (e :: es) env = (false, eval e env) :: starEach es env := by rfl) (hpl : (backTo pos (starEach es env)).any (·.1) = false := by rfl) :
    RE prog w base D env vals G (.Call (.Name x p) (e :: es) [] pos) v := by
  intro A E s m hA hD r
  refine wpAny_Call_Name_kw (ld_g M c r hg hm ?_ hdb)
  refine PySem.W.callWith_K (h₀ := base) M.kin hk (thn (ha pos A E s m hA hD r) fun us s1 ⟨r1, k1⟩ => ⟨M.kin.keeps (r.on k1).hb, ?_⟩) he hpl
  refine wpAny_call (codeAny_mono (F A s1 us hA hD (r.on k1).hb r1 (r.on k1).hG) fun r' s' hq => ?_)
  obtain ⟨u, rfl, ru, k⟩ := hq
  exact ⟨ru, keeps_trans k1 k⟩
theorem kv_call {A : Around} {E : Value → Shared → Prop} {s : Shared} {u : Value} {Q : Value → Shared → Prop} {t T : String} {b : Bool} (X : K.In s.heap) (kv : KV G v t) (hG : ∀ q ∈ G, s.heap.get? q.1 = some q.2) (ru : RelV v u) (h : PySem.W.kitOne K (.type t) (.type T) = some b) (q : ∀ tk, Q (.bool b) { s with toks := tk }) :
    wpAny (model prog w) A (call (.builtin "isinstance") [u, .type T]) Q E s := by
  cases kv with
  | non => cases ru; exact PySem.W.kia_one PySem.W.kitx_none X True.intro h (fun z => nomatch z) q
  | bl => cases ru; exact PySem.W.kia_one PySem.W.kitx_bool X True.intro h (fun z => nomatch z) q
  | int => obtain ⟨t, rfl⟩ := ru; exact PySem.W.kia_one PySem.W.kitx_int X True.intro h (fun z => nomatch z) q
  | str => obtain ⟨t, rfl⟩ := ru; exact PySem.W.kia_one PySem.W.kitx_str X True.intro h (fun z => nomatch z) q
  | lst hm hc => cases (show u = Value.ref _ from ru); exact PySem.W.kia_one PySem.W.kitx_list X ⟨_, hG _ hm, hc⟩ h (fun z => nomatch z) q
  | tup hm hc => cases (show u = Value.ref _ from ru); exact PySem.W.kia_one PySem.W.kitx_tuple X ⟨_, hG _ hm, hc⟩ h (fun z => nomatch z) q
  | dct hm hc => cases (show u = Value.ref _ from ru); exact PySem.W.kia_one PySem.W.kitx_dict X ⟨_, hG _ hm, hc⟩ h (fun z => nomatch z) q
/-- isinstance(e, T) -/
theorem re_isi {T : String} {t : String} {b : Bool} (M : Mod K mg base) (c : RC scope env) (hg : scope.names.lookup ("isinstance" : Str) = some NameKind.globalImplicit) (hm : mg "isinstance" = none)
    (h1 : RE prog w base D env vals G e1 v) (h2 : RE prog w base D env vals G e2 (.ty T)) (kv : KV G v t) (h : PySem.W.kitOne K (.type t) (.type T) = some b)
    (he1 : starEach [e1, e2] env = (false, eval e1 env) :: starEach [e2] env := by rfl) (he2 : starEach [e2] env = (false, eval e2 env) :: starEach [] env := by rfl) (hpl : (backTo pos (starEach [e2] env)).any (·.1) = false := by rfl) :
    RE prog w base D env vals G (.Call (.Name "isinstance" p) [e1, e2] [] pos) (.bl b) := by
  intro A E s m hA hD r
  refine wpAny_Call_Name_kw (ld_b M c r hg hm (by rfl) ?_)
  refine PyProof.Rows.callWith_builtin1 ?_ he1 hpl
  refine thn (ra_cons h1 (ra_cons h2 ra_nil he2) he1 pos A E s m hA hD r) fun us s1 ⟨r1, k1⟩ => ?_
  cases r1 with
  | cons ra rr =>
    cases rr with
    | cons rb rn =>
      cases rn
      cases (show _ = Value.type T from rb)
      exact kv_call (M.kin.keeps (r.on k1).hb) kv (r.on k1).hG ra h fun tk => ⟨rfl, keeps_trans k1 (keeps_tok _ _)⟩
/-- a def whose suite is one return -/
theorem rf_of {f : Addr} {fd : FuncData} {x : Str} {params : Arguments} {rp : Pos} {N ps : List Str} (F : FunD K x x params [.Return (some e) rp] scope [] [] f fd) (M : Mod K mg base) (S : FnScope N ps scope) (hloc : ∀ y ∈ ps, scope.names.lookup y = some .local) (hnd : ps.Nodup)
    (hb : ∀ (kV doc pm : Value) (an : Option Addr) (cdv ct : Value) (us : List Value), us.length = ps.length → bindArgs (PySem.W.fnOf x x params [.Return (some e) rp] scope .none kV doc pm an cdv ct) ⟨us, []⟩ = pure (ps.zip us))
    (hl : vs.length = ps.length) (hD : D < recursionLimit) (body : ∀ env : Env, RC scope env → RE prog w base (D + 1) env (ps.zip vs) G e v) : RF prog w base D f vs G v := by
  intro A s us hA hAD hs r hG
  obtain ⟨oc, od, dV, kV, doc, pm, an, cdv, ct, osl, rfl, lk, hcd, hdv, _⟩ := F.ex
  have KX : K.In s.heap := M.kin.keeps hs
  have lim : s.heap.NoLimit := M.nolimit.keeps hs
  have hul : us.length = ps.length := by rw [← r.length]; exact hl
  have hdn : dV = .none := by
    rcases hdv with ⟨_, h⟩ | ⟨h, _⟩
    · exact h
    · exact absurd rfl h
  subst hdn
  refine codeAny_call_function (Nat.lt_of_le_of_lt hAD hD) (KX _ _ lk) rfl S.co S.gen rfl (PySem.W.codeRec_of KX hcd) ?_
  rw [hb _ _ _ _ _ _ us hul]
  refine wpAny_pure ?_
  refine wpAny_newFunctionEnv_cells S.kind (fun ⟨n, v⟩ hy => .inl (hloc n (List.of_mem_zip hy).1)) fun env he s1 x => ?_
  have hk : ∀ b o, s.heap.get? b = some o → s1.heap.get? b = some o := x.toInCall.keep
  refine ⟨lim.keeps hk, codeAny_func ?_⟩
  have hks : Keeps s s1 := by
    obtain ⟨h1, t1, e1⟩ := x.toInCall.same
    exact ⟨h1, t1, e1, by rw [e1] at hk; exact hk⟩
  have hR : RS base env (ps.zip vs) G _ s1 := ⟨fun b o q => hk b o (hs b o q), x.toInCall.ns, fun q hq => ?_, fun q hq => hk _ _ (hG q hq)⟩
  · have cR : RC scope env := by subst he; exact ⟨S.kind, rfl, rfl, rfl⟩
    refine wpAny_execs_cons (wpAny_Return_some (thn (body env cR (A.deeper env) _ s1 _ hA (Nat.succ_le_succ hAD) hR) fun y s' ⟨ry, ky⟩ => ?_))
    exact ⟨y, rfl, ry, keeps_trans hks ky⟩
  · obtain ⟨i, hi, ei⟩ := List.getElem_of_mem hq
    rw [List.getElem_zip] at ei
    subst ei
    have hi1 : i < ps.length := by rw [List.length_zip] at hi; omega
    have hi2 : i < vs.length := by rw [List.length_zip] at hi; omega
    obtain ⟨u, hu, ru⟩ := r.get (List.getElem?_eq_getElem hi2)
    refine ⟨u, bindL_get hnd (List.getElem?_eq_getElem hi1) hu ?_, ru⟩
    subst he
    exact hloc _ (List.getElem_mem hi1)
end
end Wk
set_option Elab.async false
set_option linter.all false
set_option maxRecDepth 100000
set_option maxHeartbeats 4000000
/-! Wk: all(.. for x in xs), xs a list or a tuple of plain values. -/
namespace Wk
open PySem PySem.Spec PyProof.Rows L2
/-- the kind of a plain value -/
inductive KH (K : PySem.W.Frag) (H : Hp) : V → String → Prop
  | non : KH K H .non "NoneType"
  | bl {b} : KH K H (.bl b) "bool"
  | int {i} : KH K H (.int i) "int"
  | str {z} : KH K H (.str z) "str"
  | lst {a xs} : SqL K H a xs → KH K H (.ref a) "list"
  | tup {a xs} : SqT K H a xs → KH K H (.ref a) "tuple"
theorem KV.more {G G' : Pins} {v : V} {t : String} (h : KV G v t) (hs : ∀ q ∈ G, q ∈ G') : KV G' v t := by
  cases h with
  | non => exact .non
  | bl => exact .bl
  | int => exact .int
  | str => exact .str
  | lst h c => exact .lst (hs _ h) c
  | tup h c => exact .tup (hs _ h) c
  | dct h c => exact .dct (hs _ h) c
section
variable {X : Cx} {pins : List (Addr × Obj)} {σ : L2.St} {H : Hp} {s : Shared}
theorem kv_of {P : Addr} {ps : Array Value} {v : V} {t : String} (I : Inv X pins σ H s) (hP : H P = some (.tbl ps)) (h : KH X.K H v t) : ∃ G : Pins, KV G v t ∧ ∀ q ∈ G, s.heap.get? q.1 = some q.2 ∧ q.1 ≠ P := by
  have nP : ∀ {a : Addr} {o : Obj} {its : Array Value} {n : Nat}, s.heap.get? a = some o → o.data = .seq its n → a ≠ P := fun e d z => by
    rw [z, I.hok P _ hP] at e
    cases e
    cases d
  cases h with
  | non => exact ⟨[], .non, by simp⟩
  | bl => exact ⟨[], .bl, by simp⟩
  | int => exact ⟨[], .int, by simp⟩
  | str => exact ⟨[], .str, by simp⟩
  | @lst a xs e =>
    obtain ⟨its, r, hl, hz⟩ := I.list e
    obtain ⟨o, n, e2, hc, _, hd⟩ := _root_.id hl
    exact ⟨[(a, o)], .lst (List.mem_singleton.mpr rfl) hc, fun q hq => by
      cases List.mem_singleton.mp hq
      exact ⟨e2, nP e2 hd⟩⟩
  | @tup a xs e =>
    obtain ⟨its, r, hl, hz⟩ := I.tuple e
    obtain ⟨o, e2, hc, n, hd⟩ := _root_.id hl
    exact ⟨[(a, o)], .tup (List.mem_singleton.mpr rfl) hc, fun q hq => by
      cases List.mem_singleton.mp hq
      exact ⟨e2, nP e2 hd⟩⟩
theorem kvs_of {P : Addr} {ps : Array Value} (I : Inv X pins σ H s) (hP : H P = some (.tbl ps)) : ∀ (xs : List V), (∀ v ∈ xs, ∃ t, KH X.K H v t) → ∃ G : Pins, (∀ v ∈ xs, ∃ t, KV G v t) ∧ ∀ q ∈ G, s.heap.get? q.1 = some q.2 ∧ q.1 ≠ P
  | [], _ => ⟨[], by simp, by simp⟩
  | v :: xs, h => by
    obtain ⟨t, ht⟩ := h v (List.mem_cons_self ..)
    obtain ⟨G1, k1, g1⟩ := kv_of I hP ht
    obtain ⟨G2, k2, g2⟩ := kvs_of I hP xs fun u hu => h u (List.mem_cons_of_mem _ hu)
    refine ⟨G1 ++ G2, fun u hu => ?_, fun q hq => ?_⟩
    · rcases List.mem_cons.mp hu with rfl | hu
      · exact ⟨t, k1.more fun q hq => List.mem_append_left _ hq⟩
      · obtain ⟨t2, h2⟩ := k2 u hu
        exact ⟨t2, h2.more fun q hq => List.mem_append_right _ hq⟩
    · rcases List.mem_append.mp hq with z | z
      · exact g1 q z
      · exact g2 q z
/-- the element's test -/
def trV (pb : V → Bool) (l : List V) (j : Nat) : Bool := match l[j]? with
  | some b => pb b
  | none => false
theorem trV_some {pb : V → Bool} {l : List V} {j : Nat} {b : V} (h : l[j]? = some b) : trV pb l j = pb b := by
  unfold trV
  rw [h]
theorem all_trV (l : List V) (pb : V → Bool) : (List.range l.length).all (trV pb l) = l.all pb := by
  rw [Bool.eq_iff_iff, List.all_eq_true, List.all_eq_true]
  constructor
  · intro h b hb
    obtain ⟨j, hj, e⟩ := List.getElem_of_mem hb
    have q := h j (List.mem_range.mpr hj)
    rw [trV_some (List.getElem?_eq_getElem hj), e] at q
    exact q
  · intro h j hj
    have hj' := List.mem_range.mp hj
    rw [trV_some (List.getElem?_eq_getElem hj')]
    exact h _ (List.getElem_mem hj')
/-- the generator g over xs, ready to be walked, in the state s5; H1: what was held before -/
def ReadyV (X : Cx) (pins : List (Addr × Obj)) (σ : L2.St) (H1 : Hp) (P : Addr) (xs : List V) (pb : V → Bool) (g : Addr) (s5 : Shared) : Prop :=
  ∃ (fp wr : List Addr) (G : Array GenState → Array GenState → Prop) (F : Nat → Value → Prop) (St : Nat → Shared → Prop),
    WalksS X.prog X.w X.A.in1 g fp wr G xs.length F St ∧ St 0 s5 ∧
    TruthOf X.prog X.w X.A.in1 F (trV pb xs) ∧
    ∀ s', Moved wr G s5 s' → ∃ H2, GxR.Tabbed P H1 H2 ∧ Inv X pins σ H2 s'
/-- what is walked: an iterator object o over the items at y -/
structure Itr (X : Cx) (y : Addr) (its : Array Value) (h0 : Heap) (o : Obj) (St0 : Addr → Nat → Heap → Prop) : Prop where
  w : ∀ (I : Addr) (A' : Around), y ≠ I → A'.handled = none → Walks X.prog X.w A' I [I, y] [I] its.size (fun i v => its[i]? = some v) (St0 I)
  st : St0 h0.objs.size 0 (h0.push o)
  lt : y < h0.objs.size
theorem gen_val {c P : Addr} {elt : Expr} {x : Str} {gpos : Pos} {scope : Scope} {pb : V → Bool} {k : Nat} {Q' : Value → Shared → Prop} {y : Addr} {its : List Value} {xs : List V} {o : Obj} {St0 : Addr → Nat → Heap → Prop} {s1 : Shared} {H1 : Hp} {ps : Array Value}
    (hr : Room k X.A) (TB : GxR.TabB X.base X.mg c P) (hcode : X.env.code = .ref c) (S : GxR.GenS X.env scope x)
    (hel : Mod X.K X.mg X.base → ∀ (cenv : Env) (G : Pins) (v : V) (t : String), RC scope cenv → KV G v t → RE X.prog X.w X.base (X.A.depth + 1) cenv [(x, v)] G elt (.bl (pb v)))
    (I1 : Inv X pins σ H1 s1) (hP : H1 P = some (.tbl ps)) (ht : TriplesOk ps.toList) (hxs : ∀ v ∈ xs, ∃ t, KH X.K H1 v t) (rv : Vals xs its) (hyP : y ≠ P) (IT : Itr X y its.toArray s1.heap o St0)
    (hQ : ∀ g s5, ReadyV X pins σ H1 P xs pb g s5 → Q' (.ref g) s5) :
    (s1.heap.push o).NoLimit ∧ wpAny (model X.prog X.w) X.A (genexprCode X.env gpos (X.env.qual ++ "<genexpr>") scope) (fun code s₃ => wpAny (model X.prog X.w) X.A (builtinsFor X.env.globals X.env.builtins) (fun bi s₄ =>
        ∃ Ia fp wr n₀ Pf St₀ pz F, Value.ref s1.heap.objs.size = .ref Ia ∧ (∀ A' : Around, A'.handled = none → Walks X.prog X.w A' Ia fp wr n₀ Pf St₀) ∧ St₀ 0 s₄.heap ∧ (∀ b ∈ fp, b < s₄.heap.objs.size) ∧ s₄.heap.NoLimit ∧ cStatics ∉ wr ∧
          (∀ href : Heap, (∀ b o, s₄.heap.get? b = some o → href.get? b = some o) →
            QuietGenD X.prog X.w (genEnv scope (cloFrom X.env.cells scope.names []) s₄.heap.objs.size code bi X.env) x [] elt (List.range s₄.heap.objs.size) wr Pf pz F href (X.A.depth + 1) (X.A.units + 8)) ∧
          (∀ a h₅ tk gs, gs.bare = true → s₄.heap.objs.size < a → h₅.objs.size = a + 1 → (∀ b o, s₄.heap.get? b = some o → h₅.get? b = some o) →
            WalksS X.prog X.w X.A.in4 a (a :: s₄.heap.objs.size :: List.range s₄.heap.objs.size) (s₄.heap.objs.size :: wr) (GenOnlyQ s₄.gens.size) (passing pz n₀ 0).length
              (fun j y => ∃ i, (passing pz n₀ 0)[j]? = some i ∧ F i y) (GenAt X.prog X.w X.A.in4 a s₄.gens.size s₄.heap.objs.size (List.range s₄.heap.objs.size) wr pz n₀ F) →
            GenAt X.prog X.w X.A.in4 a s₄.gens.size s₄.heap.objs.size (List.range s₄.heap.objs.size) wr pz n₀ F 0 { s₄ with gens := s₄.gens.push gs, toks := tk, heap := h₅ } →
            Q' (.ref a) { s₄ with gens := s₄.gens.push gs, toks := tk, heap := h₅ })) X.xe s₃) X.xe { s1 with heap := s1.heap.push o } := by
  obtain ⟨G, hkv, hG⟩ := kvs_of I1 hP xs hxs
  have hlen : its.length = xs.length := by rw [← rv.length]
  have hat : ∀ (i : Nat) (u : Value), its.toArray[i]? = some u → ∃ v, xs[i]? = some v ∧ RelV v u := fun i u hv => by
    have hv2 : its[i]? = some u := by simpa using hv
    have hi2 : i < its.length := (List.getElem?_eq_some_iff.mp hv2).1
    obtain ⟨a, ha⟩ : ∃ a, xs[i]? = some a := ⟨xs[i]'(by omega), List.getElem?_eq_getElem _⟩
    obtain ⟨u2, hu, ru⟩ := rv.get ha
    rw [hv2] at hu
    cases hu
    exact ⟨a, ha, ru⟩
  have hPs : s1.heap.get? P = some { cls := .none, data := .fields ps } := I1.hok P _ hP
  have hPlt : P < s1.heap.objs.size := Heap.lt_size hPs
  have hP2 : (s1.heap.push o).get? P = some { cls := .none, data := .fields ps } := Heap.get?_push_of_some _ hPs
  have cd : PySem.W.CodeHd (s1.heap.push o) c P := TB.code.keeps fun b u e => Heap.get?_push_of_some _ (I1.bk b u e)
  have lim2 : (s1.heap.push o).NoLimit := I1.nolimit.push o
  have hylt := IT.lt
  have cont : ∀ (code : Value) (h3 : Heap) (tk : Nat) (ps' : Array Value), Heap.ExtBut P (s1.heap.push o) h3 → (s1.heap.push o).objs.size ≤ h3.objs.size → h3.get? P = some { cls := .none, data := .fields ps' } → (∃ more, ps' = ps ++ more) → TriplesOk ps'.toList →
      wpAny (model X.prog X.w) X.A (builtinsFor X.env.globals X.env.builtins) (fun bi s₄ =>
        ∃ Ia fp wr n₀ Pf St₀ pz F, Value.ref s1.heap.objs.size = .ref Ia ∧ (∀ A' : Around, A'.handled = none → Walks X.prog X.w A' Ia fp wr n₀ Pf St₀) ∧ St₀ 0 s₄.heap ∧ (∀ b ∈ fp, b < s₄.heap.objs.size) ∧ s₄.heap.NoLimit ∧ cStatics ∉ wr ∧
          (∀ href : Heap, (∀ b o, s₄.heap.get? b = some o → href.get? b = some o) →
            QuietGenD X.prog X.w (genEnv scope (cloFrom X.env.cells scope.names []) s₄.heap.objs.size code bi X.env) x [] elt (List.range s₄.heap.objs.size) wr Pf pz F href (X.A.depth + 1) (X.A.units + 8)) ∧
          (∀ a h₅ tk gs, gs.bare = true → s₄.heap.objs.size < a → h₅.objs.size = a + 1 → (∀ b o, s₄.heap.get? b = some o → h₅.get? b = some o) →
            WalksS X.prog X.w X.A.in4 a (a :: s₄.heap.objs.size :: List.range s₄.heap.objs.size) (s₄.heap.objs.size :: wr) (GenOnlyQ s₄.gens.size) (passing pz n₀ 0).length
              (fun j y => ∃ i, (passing pz n₀ 0)[j]? = some i ∧ F i y) (GenAt X.prog X.w X.A.in4 a s₄.gens.size s₄.heap.objs.size (List.range s₄.heap.objs.size) wr pz n₀ F) →
            GenAt X.prog X.w X.A.in4 a s₄.gens.size s₄.heap.objs.size (List.range s₄.heap.objs.size) wr pz n₀ F 0 { s₄ with gens := s₄.gens.push gs, toks := tk, heap := h₅ } →
            Q' (.ref a) { s₄ with gens := s₄.gens.push gs, toks := tk, heap := h₅ })) X.xe { s1 with heap := h3, toks := tk } := by
    intro code h3 tk ps' hx hsz hP3 hmore ht3
    obtain ⟨bm, ob, e1, e2, e3, e4, e5, e6, e7, e8⟩ := TB.bm
    have hcP : cStatics ≠ P := fun e => by
      obtain ⟨_, hns, _⟩ := I1.nolimit
      obtain ⟨o', es, ep, ho, hd, _⟩ := hns
      rw [e, hPs] at ho
      cases ho
      cases hd
    have hcl : cStatics < s1.heap.objs.size := let ⟨_, hns, _⟩ := I1.nolimit; hns.lt
    have sz2 : (s1.heap.push o).objs.size = s1.heap.objs.size + 1 := Heap.size_push ..
    have keep3 : ∀ b u, b ≠ P → s1.heap.get? b = some u → h3.get? b = some u := fun b u hb e => hx b u hb (Heap.get?_push_of_some _ e)
    have hbP : ∀ b u, X.base.get? b = some u → b ≠ P := fun b u e z => by
      have e2 := (I1.bs b u e).2
      rw [z, hP] at e2
      cases e2
    refine wpAny_builtinsFor (m := X.mg) (by rw [I1.ok.glob]; exact ((I1.mod.glob.keeps I1.bk).push o).extBut hx TB.gP) e1 e2 (keep3 _ _ e4 (I1.bk _ _ e5)) e6 e7 e8 ?_
    refine ⟨s1.heap.objs.size, [s1.heap.objs.size, y], [s1.heap.objs.size], its.toArray.size, (fun i v => its.toArray[i]? = some v), St0 s1.heap.objs.size, (fun _ => true),
      (fun i z => ∃ v, xs[i]? = some v ∧ z = .bool (pb v)), rfl, (fun A' hA => IT.w _ A' (Nat.ne_of_lt hylt) hA), ?_, ?_, lim2.extBut hx hcP, ?_, ?_, ?_⟩
    · refine (IT.w _ X.A (Nat.ne_of_lt hylt) hr.hd).frame _ _ _ IT.st fun b hb u e => hx b u (fun z => ?_) e
      rcases List.mem_cons.mp hb with z2 | z2
      · exact Nat.ne_of_lt hPlt (z.symm.trans z2)
      · exact hyP ((List.mem_singleton.mp z2).symm.trans z)
    · intro b hb
      rcases List.mem_cons.mp hb with z | z
      · rw [z]
        show s1.heap.objs.size < h3.objs.size
        omega
      · rw [List.mem_singleton.mp z]
        have e9 : s1.heap.objs.size ≤ h3.objs.size := by omega
        exact Nat.lt_of_lt_of_le hylt e9
    · intro z
      rcases List.mem_cons.mp z with z | z
      · exact Nat.ne_of_lt hcl z
      · cases z
    · intro href hhref
      refine ⟨fun A' E' i v s₂ m₂ hA hD hU hPv hn hm hk => ?_, fun A' E' i u s₂ m₂ hA hD hU hPv hp hn hm hk => ?_⟩
      · simp only [List.forIn_nil]
        exact wpAny_pure ⟨rfl, keeps_self _⟩
      · obtain ⟨v, hv, ru⟩ := hat i u hPv
        obtain ⟨t, kv⟩ := hkv v (List.mem_of_getElem? hv)
        have kept : ∀ b q, b ≠ P → s1.heap.get? b = some q → s₂.heap.get? b = some q := fun b q hb e => by
          have hl := Heap.lt_size e
          refine hk b (List.mem_range.mpr (Nat.lt_of_lt_of_le hl (show s1.heap.objs.size ≤ h3.objs.size by omega))) (fun z => ?_) q (hhref b q (keep3 b q hb e))
          rw [List.mem_singleton.mp z] at hl
          exact Nat.lt_irrefl _ hl
        have hR : RS X.base (genEnv scope (cloFrom X.env.cells scope.names []) h3.objs.size code builtinsNs X.env) [(x, v)] G m₂ s₂ :=
          ⟨fun b q e => kept b q (hbP b q e) (I1.bk b q e), hn, fun q hq => by cases List.mem_singleton.mp hq; exact ⟨u, hm, ru⟩, fun q hq => kept q.1 q.2 (hG q hq).2 (hG q hq).1⟩
        refine wpAny_mono (hel I1.mod (genEnv scope (cloFrom X.env.cells scope.names []) h3.objs.size code builtinsNs X.env) G v t ⟨S.kind, rfl, I1.ok.glob, rfl⟩ kv A' E' s₂ m₂ hA hD hR) (fun z s3 r => ⟨⟨v, hv, ?_⟩, r.2⟩) fun _ _ e => e
        exact r.1
    · intro g h5 tk5 gs hgb hag hsz5 hk5 W5 hgat
      simp only [GxR.passing_true, List.length_range] at W5
      have hn5 : its.toArray.size = xs.length := by rw [List.size_toArray, hlen]
      rw [hn5] at W5 hgat
      refine hQ g _ ⟨_, _, _, _, _, W5.in4_1, hgat, ?_, fun s' hm => ?_⟩
      · intro j z sj Qj Ej hy hQj
        obtain ⟨i, hij, v, hv, rfl⟩ := hy
        obtain ⟨hj, ej⟩ := List.getElem?_eq_some_iff.mp hij
        rw [List.getElem_range] at ej
        subst ej
        rw [trV_some hv] at hQj
        exact wpAny_truthy_bool hQj
      · obtain ⟨more, em⟩ := hmore
        have nwr : ∀ b u, s1.heap.get? b = some u → b ∉ h3.objs.size :: [s1.heap.objs.size] := fun b u e hb => by
          have hl := Heap.lt_size e
          rcases List.mem_cons.mp hb with z | z
          · rw [z] at hl
            have h9 : (h3.objs.size : Nat) < s1.heap.objs.size := hl
            omega
          · rcases List.mem_cons.mp z with z | z
            · rw [z] at hl
              exact Nat.lt_irrefl _ hl
            · cases z
        have J := GxR.inv_tab (more := more) (h' := s'.heap) (g' := s'.gens) (d' := s'.drawn) (t' := s'.toks) I1 hP (fun b u hb e => hm.heap b u (nwr b u e) (hk5 b u (keep3 b u hb e)))
          (by rw [← em]; exact hm.heap P _ (nwr P _ hPs) (hk5 P _ hP3)) (AllBare.movedS (I1.bare.push hgb) hm)
        rw [GxR.sh_eta s1 s' hm.os] at J
        refine ⟨upd H1 P (.tbl (ps ++ more)), ⟨⟨ps ++ more, upd_same, by rw [← em]; exact ht3⟩, fun b hb => upd_ne hb⟩, J⟩
  refine ⟨lim2, ?_⟩
  cases hf : codeAmong gpos ps.toList with
  | none =>
    refine wpAny_genexprCodeX hcode (cd.code hP2 ht) (cd.tab hP2) hf fun c' h' tk hx hge hlt hco' _ htab' _ => ?_
    obtain ⟨o1, vs, f1, tf, fl, tg, inF, tx, tt, op, _, _, _, _, _, _, _, _, _, htr, _⟩ := hco'
    exact cont _ h' tk _ hx (Nat.le_trans hge (Nat.le_of_lt hlt)) htab'.2 ⟨_, rfl⟩ htr
  | some cv =>
    refine wpAny_genexprCode_hit hcode (cd.code hP2 ht) hf ?_
    exact cont cv (s1.heap.push o) s1.toks ps (Heap.ExtBut.refl _ _) (Nat.le_refl _) hP2 ⟨#[], by simp⟩ ht
/-- all(test for x in e), e a list or a tuple of plain values; behind it the def's table may have grown -/
def tAllV (K : PySem.W.Frag) (P : Addr) (pb : V → Bool) (te : TE) : TE := fun σ H Q => te σ H fun v H1 => ∃ (y : Addr) (xs : List V), v = .ref y ∧ (SqL K H1 y xs ∨ SqT K H1 y xs) ∧ (∀ v ∈ xs, ∃ t, KH K H1 v t) ∧ GxR.TabG H1 P ∧ ∀ H2, GxR.Tabbed P H1 H2 → Q (.bl (xs.all pb)) H2
theorem pe_allV {c P : Addr} {elt iter : Expr} {x : Str} {px p pos gpos : Pos} {scope : Scope} {pb : V → Bool} {te : TE} {k : Nat}
    (hr : Room k X.A) (hg : Gl X "all") (hm : X.mg "all" = none) (TB : GxR.TabB X.base X.mg c P) (hcode : X.env.code = .ref c) (S : GxR.GenS X.env scope x) (hi : PE X iter te)
    (hel : Mod X.K X.mg X.base → ∀ (cenv : Env) (G : Pins) (v : V) (t : String), RC scope cenv → KV G v t → RE X.prog X.w X.base (X.A.depth + 1) cenv [(x, v)] G elt (.bl (pb v)))
    (hs : ∀ v, genFold iter X.env v = pure v)
    (he : starEach [.GeneratorExp elt [⟨.Name x px, iter, [], 0⟩] scope gpos] X.env = (false, eval (.GeneratorExp elt [⟨.Name x px, iter, [], 0⟩] scope gpos) X.env) :: starEach [] X.env := by rfl) :
    PE X (.Call (.Name "all" p) [.GeneratorExp elt [⟨.Name x px, iter, [], 0⟩] scope gpos] [] pos) (tAllV X.K P pb te) := by
  refine ⟨fun pins s σ H Q I h => ?_⟩
  refine wpAny_Call_Name_kw (ld_blt I hg hm (by rfl) ?_)
  refine PyProof.Rows.callWith_builtin1 ?_ he (by rfl)
  rw [he]
  show wpAny _ _ (spliced ((false, eval (.GeneratorExp elt [⟨.Name x px, iter, [], 0⟩] scope gpos) X.env) :: backTo pos (starEach [] X.env))) _ _ s
  refine Calls.spliced_cons ?_
  refine wpAny_GeneratorExp_walksQD hr.hd S.co (closure_ok S.free) S.cell S.dot S.loc S.kind (by have := hr.dp; omega) ?_ hs
  refine thn (hi.run pins s σ H _ I h) fun xv s1 ⟨v, H1, I1, r1, q1⟩ => ?_
  obtain ⟨y, xs, rfl, hy, hxs, ⟨ps, hP, ht⟩, hR⟩ := q1
  obtain rfl : xv = Value.ref y := r1
  have fin : ∀ g s5, ReadyV X pins σ H1 P xs pb g s5 → (fun u s₁ => wpAny (model X.prog X.w) X.A (spliced (backTo pos (starEach [] X.env))) (fun vs s₁ => wpAny (model X.prog X.w) X.A (call (.builtin "all") (u :: vs)) (EP X pins σ Q) X.xe s₁) X.xe s₁) (.ref g) s5 := fun g s5 hG => by
    obtain ⟨fp, wr, G, F, St, W, hst, htr, hI⟩ := hG
    refine Calls.spliced_nil ?_
    refine call_all_walkS (W.self 0 _ _ _ hst ⟨g, fp, wr, G, _, F, St, _, rfl, W, hst, htr, fun s' hmv => ?_⟩)
    obtain ⟨H2, hT, J⟩ := hI s' hmv
    refine ⟨.bl _, H2, J, rfl, ?_⟩
    rw [all_trV]
    exact hR H2 hT
  rcases hy with hy | hy
  · obtain ⟨its, rv, hl, hz⟩ := I1.list hy
    have hIL := hl.isList
    have hyP : y ≠ P := fun z => by
      obtain ⟨_, e, hc1, _, hd1⟩ := _root_.id hIL
      rw [z, I1.hok P _ hP] at e
      cases e
      cases hd1
    refine wpAny_pyIter_list hIL ?_
    refine gen_val (Q' := fun u s₁ => wpAny (model X.prog X.w) X.A (spliced (backTo pos (starEach [] X.env))) (fun vs s₁ => wpAny (model X.prog X.w) X.A (call (.builtin "all") (u :: vs)) (EP X pins σ Q) X.xe s₁) X.xe s₁) (St0 := fun I i h => h.IsListIter I y i ∧ h.IsList y its.toArray) hr TB hcode S hel I1 hP ht hxs rv hyP ⟨fun I A' hne hA => Walks.list hA I y hne _, ?_, ?_⟩ fin
    · exact ⟨⟨_, Heap.get?_push_size _ rfl, rfl, rfl⟩, by
        obtain ⟨ob, e, r⟩ := _root_.id hIL
        exact ⟨ob, Heap.get?_push_of_some _ e, r⟩⟩
    · obtain ⟨_, e, _⟩ := _root_.id hIL
      exact Heap.lt_size e
  · obtain ⟨its, rv, hl, hz⟩ := I1.tuple hy
    have hIT : s1.heap.IsTuple y its.toArray := hl
    have hyP : y ≠ P := fun z => by
      obtain ⟨_, e, hc1, hd1⟩ := _root_.id hl
      obtain ⟨_, hd1⟩ := hd1
      rw [z, I1.hok P _ hP] at e
      cases e
      cases hd1
    refine wpAny_pyIter_tuple hIT ?_
    refine gen_val (Q' := fun u s₁ => wpAny (model X.prog X.w) X.A (spliced (backTo pos (starEach [] X.env))) (fun vs s₁ => wpAny (model X.prog X.w) X.A (call (.builtin "all") (u :: vs)) (EP X pins σ Q) X.xe s₁) X.xe s₁) (St0 := fun I i h => h.IsTupleIter I y i ∧ h.IsTuple y its.toArray) hr TB hcode S hel I1 hP ht hxs rv hyP ⟨fun I A' hne hA => Walks.tuple hA I y hne _, ?_, ?_⟩ fin
    · exact ⟨⟨_, Heap.get?_push_size _ rfl, rfl, rfl⟩, hIT.at fun o e => Heap.get?_push_of_some _ e⟩
    · obtain ⟨_, e, _⟩ := _root_.id hl
      exact Heap.lt_size e
end
end Wk
set_option Elab.async false
set_option linter.all false
set_option maxRecDepth 100000
set_option maxHeartbeats 4000000
/-! Wk: calls without arguments, by keywords alone; own classes: methods, properties, making. -/
namespace Wk
open PySem PySem.Spec PyProof.Rows L2
/-- a def that is called with n positional values and these keywords -/
structure CalK (P : Program) (w : World) (K : PySem.W.Frag) (mg : Str → Option Value) (base : Heap) (k : Nat) (x : Str) (sp : Sp) (n : Nat) (ks : List Str) (gV : List V → List V → List V) : Prop where
  ex : ∃ (f : Addr) (fd : FuncData) (ps : List Str) (g : List Value → List Value → List Value), FnOk P w K mg base C8.CX0 k f fd ps sp ∧ mg x = some (.ref f) ∧ PySem.W.keepIn K (.ref f) = true ∧ KBn K fd ps n ks g gV
/-- a property of the class at C -/
structure Prp (P : Program) (w : World) (K : PySem.W.Frag) (mg : Str → Option Value) (base : Heap) (k : Nat) (C : Addr) (m : Str) (sp : Sp) : Prop where
  ex : ∃ (p f : Addr) (fd : FuncData) (ps : List Str), Cls K C ∧ PropOf K C m p f ∧ FnOk P w K mg base C8.CX0 k f fd ps sp ∧ Binds K fd ps []
def tCallK (m : Nat) (sp : Sp) (gV : List V → List V → List V) (E : XK) (tk : TA) : TE := fun σ H Q => tk σ H fun zs H2 => zs.length = m ∧ sp (gV [] zs) H2 Q E
section
variable {X : Cx} {j k : Nat} {x m : Str} {sp : Sp} {dvs : List V} {ks : List Str} {gV : List V → List V → List V} {p pos apos : Pos} {kws : List Keyword} {tk : TA} {C : Addr} {o : Expr} {ta : TE}
theorem pe_c0 (c : C8.Cal X.prog X.w X.K X.mg X.base k x sp dvs) (hr : Room j X.A) (hk : k ≤ j) (hg : Gl X x) (hdb : (x == ("__debug__" : Str)) = false := by decide) : PE X (.Call (.Name x p) [] [] pos) (tCall sp dvs C8.E0 tNil) := by
  obtain ⟨f, fd, ps, ds, F, hm, kp, b, d⟩ := c.ex
  exact pe_call0 F (hr.mono hk) hg hm kp b d C8.pass0 hdb
theorem pe_mk0 (c : C8.Mak X.prog X.w X.K X.mg X.base k x C sp dvs) (hr : Room j X.A) (hk : k + 1 ≤ j) (hg : Gl X x) (hdb : (x == ("__debug__" : Str)) = false := by decide) : PE X (.Call (.Name x p) [] [] pos) (tMake C sp dvs C8.E0 tNil) := by
  obtain ⟨f, fd, ps, ds, M, F, hm, b, d⟩ := c.ex
  exact pe_make0 M F (hr.mono hk) hg hm b d C8.pass0 hdb
/-- f(k = v, ..) -/
theorem pe_ck (c : CalK X.prog X.w X.K X.mg X.base k x sp 0 ks gV) (hr : Room j X.A) (hk : k ≤ j) (hg : Gl X x) (hkw : PK X kws tk) (hall : (backToKw pos (keywordEach kws X.env)).all (·.1.isSome) = true := by rfl) (hks : (backToKw pos (keywordEach kws X.env)).filterMap (·.1) = ks := by rfl)
    (hdb : (x == ("__debug__" : Str)) = false := by decide) (hpl : ((backTo pos (starEach [] X.env)).any (·.1) || (backToKw pos (keywordEach kws X.env)).any (·.1.isNone)) = false := by rfl) :
    PE X (.Call (.Name x p) [] kws pos) (tCallK ks.length sp gV C8.E0 tk) := by
  obtain ⟨f, fd, ps, g, F, hm, kp, b⟩ := c.ex
  refine ⟨fun pins s σ H Q I h => ?_⟩
  refine wpAny_Call_Name_kw (ld_glob I hg hm ?_ hdb)
  refine PySem.W.callWith_KW0 (h₀ := X.base) I.ok.mod.kin kp hall ?_ hpl
  refine thn (hkw.run pos pins s σ H _ I h) fun ws s2 ⟨zs, H2, I2, rz, l2, q2⟩ => ⟨I2.kIn, ?_⟩
  rw [hks]
  exact run_fnN F (hr.mono hk) b C8.pass0 I2 .nil rz rfl l2 q2
/-- f(e, .., k = v, ..) -/
theorem pe_ckp {n : Nat} {e : Expr} {es : List Expr} {t : TA} (c : CalK X.prog X.w X.K X.mg X.base k x sp n ks gV) (hr : Room j X.A) (hk : k ≤ j) (hg : Gl X x) (ha : PA X (e :: es) t) (hkw : PK X kws tk) (hall : (backToKw pos (keywordEach kws X.env)).all (·.1.isSome) = true := by rfl) (hks : (backToKw pos (keywordEach kws X.env)).filterMap (·.1) = ks := by rfl)
    (hdb : (x == ("__debug__" : Str)) = false := by decide) (he : starEach (e :: es) X.env = (false, eval e X.env) :: starEach es X.env := by rfl) (hpl : ((backTo pos (starEach (e :: es) X.env)).any (·.1) || (backToKw pos (keywordEach kws X.env)).any (·.1.isNone)) = false := by rfl) :
    PE X (.Call (.Name x p) (e :: es) kws pos) (tCallN n ks.length sp gV C8.E0 t tk) := by
  obtain ⟨f, fd, ps, g, F, hm, kp, b⟩ := c.ex
  exact pe_callN F (hr.mono hk) hg hm kp b C8.pass0 ha hkw hall hks hdb he hpl
/-- e.m, a property -/
theorem pe_pr (c : Prp X.prog X.w X.K X.mg X.base k C m sp) (hr : Room j X.A) (hk : k + 1 ≤ j) (he : PE X o ta) (hab : attributeBase o m X.env (eval o X.env) = eval o X.env := by rfl) : PE X (.Attribute o m pos) (tProp C sp [] C8.E0 ta) := by
  obtain ⟨q, f, fd, ps, hc, hp, F, b⟩ := c.ex
  exact pe_prop he hc hp F (hr.mono hk) b .nil C8.pass0 hab
end
/-! ### steps -/
def KMeth (C : Addr) (m : Str) (sp : Sp) (dvs : List V) (E : XK) (t : TA) (σ : L2.St) (Q : VK) (x : V) (H1 : Hp) : Prop := ∃ a dx fs, x = .ref a ∧ H1 a = some (.ins C dx fs) ∧ fs.lookup m = none ∧ t σ H1 fun vs H2 => sp (x :: (vs ++ dvs)) H2 Q E
def KMake (C : Addr) (sp : Sp) (dvs : List V) (E : XK) (Q : VK) (vs : List V) (H1 : Hp) : Prop := ∀ x dx, H1 x = none → H1 dx = none → dx ≠ x → sp (.ref x :: (vs ++ dvs)) (upd (upd H1 dx (.own x)) x (.ins C dx [])) (fun v H2 => v = .non ∧ Q (.ref x) H2) E
def KProp (C : Addr) (sp : Sp) (E : XK) (Q : VK) (x : V) (H1 : Hp) : Prop := ∃ a dx fs, x = .ref a ∧ H1 a = some (.ins C dx fs) ∧ sp [.ref a] H1 Q E
section
variable {σ : L2.St} {H : Hp} {Q : VK} {C : Addr} {m : Str} {sp : Sp} {dvs : List V} {E : XK} {t : TA} {ta te : TE} {a dx : Addr} {fs : List (Str × V)} {n : Nat} {gV : List V → List V → List V} {D : Ends} {f : Str} {K : PySem.W.Frag} {v : V}
theorem w_meth (h : ta σ H fun x H1 => KMeth C m sp dvs E t σ Q x H1) : tMeth C m sp dvs E ta t σ H Q := h
theorem w_kmeth (ho : H a = some (.ins C dx fs)) (l : fs.lookup m = none) (h : t σ H fun vs H2 => sp (.ref a :: (vs ++ dvs)) H2 Q E) : KMeth C m sp dvs E t σ Q (.ref a) H := ⟨a, dx, fs, rfl, ho, l, h⟩
theorem w_make (h : t σ H fun vs H1 => KMake C sp dvs E Q vs H1) : tMake C sp dvs E t σ H Q := h
theorem w_prop (h : ta σ H fun x H1 => KProp C sp E Q x H1) : tProp C sp [] E ta σ H Q := h
theorem w_kprop (ho : H a = some (.ins C dx fs)) (h : sp [.ref a] H Q E) : KProp C sp E Q (.ref a) H := ⟨a, dx, fs, rfl, ho, h⟩
theorem w_callN {n m : Nat} {tk : TA} (h : t σ H fun vs H1 => tk σ H1 fun zs H2 => vs.length = n ∧ zs.length = m ∧ sp (gV vs zs) H2 Q E) : tCallN n m sp gV E t tk σ H Q := h
theorem w_callK (h : t σ H fun zs H2 => zs.length = n ∧ sp (gV [] zs) H2 Q E) : tCallK n sp gV E t σ H Q := h
end
section
variable {K : PySem.W.Frag}
theorem w_gtup {n : Nat} {t : TGs} {σ : L2.St} {a : Addr} {xs : List V} {H : Hp} {R : L2.St → Hp → Prop} (h : SqT K H a xs) (hn : xs.length = n) (q : t xs σ H R) : gTup K n t (.ref a) σ H R := ⟨a, xs, rfl, h, hn, q⟩
theorem w_gcons {t : TG} {u : TGs} {v : V} {r : List V} {σ : L2.St} {H : Hp} {R : L2.St → Hp → Prop} (q : t v σ H fun σ' H' => u r σ' H' R) : gCons t u (v :: r) σ H R := ⟨v, r, rfl, q⟩
theorem w_gnil {σ : L2.St} {H : Hp} {R : L2.St → Hp → Prop} (q : R σ H) : gNil [] σ H R := ⟨rfl, q⟩
theorem w_gname {n : Nat} {v : V} {σ : L2.St} {H : Hp} {R : L2.St → Hp → Prop} (q : R (σ.set n (some v)) H) : gName n v σ H R := q
def KStar (K : PySem.W.Frag) (t : TA) (σ : L2.St) (Q : List V → Hp → Prop) (x : V) (H1 : Hp) : Prop := ∃ p xs, x = V.ref p ∧ (SqT K H1 p xs ∨ SqL K H1 p xs) ∧ t σ H1 fun ys H2 => Q (xs ++ ys) H2
theorem w_star {te : TE} {t : TA} {σ : L2.St} {H : Hp} {Q : List V → Hp → Prop} (h : te σ H fun x H1 => KStar K t σ Q x H1) : StX.tStar K te t σ H Q := h
theorem w_kstarL {t : TA} {σ : L2.St} {H : Hp} {Q : List V → Hp → Prop} {p : Addr} {xs : List V} (e : SqL K H p xs) (h : t σ H fun ys H2 => Q (xs ++ ys) H2) : KStar K t σ Q (.ref p) H := ⟨p, xs, rfl, .inr e, h⟩
theorem w_kstarT {t : TA} {σ : L2.St} {H : Hp} {Q : List V → Hp → Prop} {p : Addr} {xs : List V} (e : SqT K H p xs) (h : t σ H fun ys H2 => Q (xs ++ ys) H2) : KStar K t σ Q (.ref p) H := ⟨p, xs, rfl, .inl e, h⟩
end
section
variable {K : PySem.W.Frag} {H : Hp} {Q : VK} {x : V}
theorem c_isiT2 {t A B : String} {a b r : Bool} {tp : Addr} (ht : H tp = some (.tup [.ty A, .ty B])) (ty : TyX K H x (.type t)) (ha : kitB t A = some a) (hb : kitB t B = some b) (hr : (a || b) = r) (q : Q (.bl r) H) : CB (rIsiT K) [x, .ref tp] H Q := by
  refine ⟨x, tp, _, .type t, [.type A, .type B], r, rfl, ht, .cons (.ty A) (.cons (.ty B) .nil), ty, ?_, q⟩
  subst hr
  have e1 := kit_ty (K := K) ha
  have e2 := kit_ty (K := K) hb
  cases a <;> cases b <;> simp [PySem.W.kitAny, e1, e2]
theorem w_cat {l b : Addr} {xs zs : List V} (h1 : H l = some (.lst xs)) (h2 : H b = some (.lst zs)) (hz : xs.length + zs.length ≤ sizeLine) (q : ∀ p H2, New H H2 p (.lst (xs ++ zs)) → Q (.ref p) H2) : rCat (.ref l) (.ref b) H Q :=
  ⟨l, b, xs, zs, rfl, rfl, h1, h2, hz, fun p hp => q p _ (New.of hp)⟩
theorem w_rep {l : Addr} {k : Int} {xs : List V} (h1 : H l = some (.lst xs)) (h2 : -(2 ^ 63) ≤ k) (h3 : k < 2 ^ 63) (hz : xs.length * k.toNat ≤ sizeLine) (q : ∀ p H2, New H H2 p (.lst (List.replicate k.toNat xs).flatten) → Q (.ref p) H2) : rRep (.ref l) (.int k) H Q :=
  ⟨l, k, xs, rfl, rfl, h1, h2, h3, hz, fun p hp => q p _ (New.of hp)⟩
def KSFld (K : PySem.W.Frag) (f : Str) (D : Ends) (σ : L2.St) (y x : V) (H2 : Hp) : Prop := ∃ a C dx fs, x = .ref a ∧ H2 a = some (.ins C dx fs) ∧ Cls K C ∧ NoAttr K C f ∧ fs.length < 1000 ∧ D.nx σ (upd H2 a (.ins C dx (putF f y fs)))
theorem w_sfld {ta tv : TE} {f : Str} {D : Ends} {σ : L2.St} (h : tv σ H fun y H1 => ta σ H1 fun x H2 => KSFld K f D σ y x H2) : sFld K ta tv f D σ H := h
theorem w_ksfld {f : Str} {D : Ends} {σ : L2.St} {y : V} {a C dx : Addr} {fs : List (Str × V)} (ho : H a = some (.ins C dx fs)) (c : Cls K C) (n : NoAttr K C f) (hl : fs.length < 1000) (q : ∀ H2, Chg H H2 a (.ins C dx (putF f y fs)) → D.nx σ H2) : KSFld K f D σ y (.ref a) H :=
  ⟨a, C, dx, fs, rfl, ho, c, n, hl, q _ Chg.of⟩
end
section
variable {K : PySem.W.Frag} {H H1 : Hp} {a tP : Addr} {xs : List V}
theorem tab_ne {o : HO} (e : H a = some o) (t : GxR.TabG H tP) (ho : ∀ ps, o ≠ .tbl ps) : a ∉ [tP] := fun z => by
  obtain ⟨ps, h, _⟩ := t
  rw [List.mem_singleton.mp z, h] at e
  exact ho ps (Option.some.inj e).symm
theorem tabT (h : SqT K H a xs) (t : GxR.TabG H tP) (u : Upt [tP] H H1) : SqT K H1 a xs := by
  rcases h with (h | ⟨q, h⟩) | h
  · exact .inl (.inl (u a _ (tab_ne h t fun _ z => by cases z) h))
  · exact .inl (.inr ⟨q, u a _ (tab_ne h t fun _ z => by cases z) h⟩)
  · exact .inr h
theorem tabL (h : SqL K H a xs) (t : GxR.TabG H tP) (u : Upt [tP] H H1) : SqL K H1 a xs := by
  rcases h with (h | ⟨q, h⟩) | h
  · exact .inl (.inl (u a _ (tab_ne h t fun _ z => by cases z) h))
  · exact .inl (.inr ⟨q, u a _ (tab_ne h t fun _ z => by cases z) h⟩)
  · exact .inr h
theorem tabO {o : HO} (e : H a = some o) (ho : ∀ ps, o ≠ .tbl ps) (t : GxR.TabG H tP) (u : Upt [tP] H H1) : H1 a = some o := u a o (tab_ne e t ho) e
theorem tabG {S : List Addr} (t : GxR.TabG H tP) (n : tP ∉ S) (u : Upt S H H1) : GxR.TabG H1 tP := let ⟨ps, e, h⟩ := t; ⟨ps, u tP _ n e, h⟩
end
theorem w_inT {K : PySem.W.Frag} {H : Hp} {Q : VK} {x : V} {p : Addr} {xs : List V} {b : Bool} (h : H p = some (.tup xs)) (fx : flatV x = true) (fs : xs.all flatV = true) (e : inV x xs = b) (q : Q (.bl b) H) : rIn K false x (.ref p) H Q := ⟨p, xs, rfl, .inr (SqT.of h), fx, fs, by subst e; exact q⟩
theorem offT {K : PySem.W.Frag} {H H1 : Hp} {a b : Addr} {xs ys : List V} (h : SqT K H a xs) (e : H b = some (.lst ys)) (u : Upt [b] H H1) : SqT K H1 a xs := by
  rcases h with (h | ⟨q, h⟩) | h
  · exact .inl (.inl (u.at1 (fun z => by rw [z, e] at h; cases h) h))
  · exact .inl (.inr ⟨q, u.at1 (fun z => by rw [z, e] at h; cases h) h⟩)
  · exact .inr h
theorem w_slT {K : PySem.W.Frag} {σ : L2.St} {H : Hp} {Q : VK} {a : Addr} {xs : List V} {n : Nat} {i : Int} (hv : σ[n]? = some (some (.ref a))) (h : SqT K H a xs) (hn : ¬ (HT.sIx xs.length 0 (some i) = 0 ∧ HT.sIx xs.length xs.length none = xs.length)) (q : ∀ p H2, New H H2 p (.tup (cutV xs (some i) none)) → Q (.ref p) H2) :
    tSl (rSlT K) (tVar n) (tPart (tC (.int i))) tNoPart σ H Q := ⟨_, hv, i, rfl, a, xs, rfl, h, hn, fun p hp => q p _ (New.of hp)⟩
theorem Upt.chgNew {H H1 H2 : Hp} {p : Addr} {o : HO} (U : Upt [] H H1) (z : H p = none) (g : Chg H1 H2 p o) : Upt [] H H2 := fun b ob nb e => g.keep.at1 (fun q => by rw [q, z] at e; cases e) (U b ob nb e)
/-! ### methods as they stand -/
def DefM (K : PySem.W.Frag) (x qual : Str) (st : Stmt) (dvs : List V) (f : Addr) (fd : FuncData) : Prop := FunD K x qual (defArgs st) (defBody st) (defScope st) dvs [] f fd
def MetAt (K : PySem.W.Frag) (C : Addr) (x qual : Str) (st : Stmt) : Prop := ∃ f fd, DefM K x qual st [] f fd ∧ Cls K C ∧ Meth K C x f
def PrpAt (K : PySem.W.Frag) (C : Addr) (x qual : Str) (st : Stmt) : Prop := ∃ p f fd, DefM K x qual st [] f fd ∧ Cls K C ∧ PropOf K C x p f
section
variable {P : Program} {w : World} {K : PySem.W.Frag} {mg : Str → Option Value} {base : Heap}
theorem mkM {C : Addr} {x qual : Str} {st : Stmt} {N ps : List Str} {k : Nat} {sp : Sp} (d : MetAt K C x qual st) (S : FnScope N ps (defScope st))
    (hb : ∀ (kV doc pm : Value) (an : Option Addr) (cdv ct : Value) (us : List Value), us.length = ps.length → bindArgs (PySem.W.fnOf x qual (defArgs st) (defBody st) (defScope st) .none kV doc pm an cdv ct) ⟨us, []⟩ = pure (ps.zip us))
    (len : ∀ vs H Q E, sp vs H Q E → vs.length = ps.length)
    (body : ∀ (f : Addr) (cdv : Value) (A : Around) (outer : List Env) (s : Shared) (H : Hp) (vs : List V) (Q : VK) (E : XK), Room k (A.deeper (envOfC qual (defScope st) s.heap.objs.size f cdv)) → sp vs H Q E →
      ∃ t, PSs (cxOf C8.CX0 P w K mg base N qual (defScope st) f cdv A outer s H E).nox (defBody st) t ∧ t { nx := fun _ H' => Q .non H', rt := Q } (start N vs) H) : C8.Met P w K mg base (k + 1) C x sp [] := by
  obtain ⟨f, fd, F, hc, hm⟩ := d
  have F : FunD K x qual (defArgs st) (defBody st) (defScope st) [] [] f fd := F
  exact ⟨f, fd, ps, [], hc, hm, F.ok S len (fun cdv A outer s H vs Q E hr hsp => let ⟨t, h, q⟩ := body f cdv A outer s H vs Q E hr hsp; ⟨t, h.nox, q⟩), F.bindsN hb, .nil⟩
theorem mkP {C : Addr} {x qual : Str} {st : Stmt} {N ps : List Str} {k : Nat} {sp : Sp} (d : PrpAt K C x qual st) (S : FnScope N ps (defScope st))
    (hb : ∀ (kV doc pm : Value) (an : Option Addr) (cdv ct : Value) (us : List Value), us.length = ps.length → bindArgs (PySem.W.fnOf x qual (defArgs st) (defBody st) (defScope st) .none kV doc pm an cdv ct) ⟨us, []⟩ = pure (ps.zip us))
    (len : ∀ vs H Q E, sp vs H Q E → vs.length = ps.length)
    (body : ∀ (f : Addr) (cdv : Value) (A : Around) (outer : List Env) (s : Shared) (H : Hp) (vs : List V) (Q : VK) (E : XK), Room k (A.deeper (envOfC qual (defScope st) s.heap.objs.size f cdv)) → sp vs H Q E →
      ∃ t, PSs (cxOf C8.CX0 P w K mg base N qual (defScope st) f cdv A outer s H E).nox (defBody st) t ∧ t { nx := fun _ H' => Q .non H', rt := Q } (start N vs) H) : Prp P w K mg base (k + 1) C x sp := by
  obtain ⟨p, f, fd, F, hc, hm⟩ := d
  have F : FunD K x qual (defArgs st) (defBody st) (defScope st) [] [] f fd := F
  exact ⟨p, f, fd, ps, hc, hm, F.ok S len (fun cdv A outer s H vs Q E hr hsp => let ⟨t, h, q⟩ := body f cdv A outer s H vs Q E hr hsp; ⟨t, h.nox, q⟩), F.bindsN hb⟩
/-- called by keywords alone -/
theorem mkK {x : Str} {st : Stmt} {N ps ks : List Str} {k : Nat} {sp : Sp} {f : Addr} {fd : FuncData} (F : FunD K x x (defArgs st) (defBody st) (defScope st) [] [] f fd) (hm : mg x = some (.ref f)) (S : FnScope N ps (defScope st)) (g : {α : Type} → List α → List α)
    (hrel : ∀ {zs : List V} {ws : List Value}, Vals zs ws → Vals (g zs) (g ws))
    (hb : ∀ (kV doc pm : Value) (an : Option Addr) (cdv ct : Value) (ws : List Value), ws.length = ks.length → bindArgs (PySem.W.fnOf x x (defArgs st) (defBody st) (defScope st) .none kV doc pm an cdv ct) ⟨[], ks.zip ws⟩ = pure (ps.zip (g ws)))
    (len : ∀ vs H Q E, sp vs H Q E → vs.length = ps.length)
    (body : ∀ (f : Addr) (cdv : Value) (A : Around) (outer : List Env) (s : Shared) (H : Hp) (vs : List V) (Q : VK) (E : XK), Room k (A.deeper (envOfC x (defScope st) s.heap.objs.size f cdv)) → sp vs H Q E →
      ∃ t, PSs (cxOf C8.CX0 P w K mg base N x (defScope st) f cdv A outer s H E).nox (defBody st) t ∧ t { nx := fun _ H' => Q .non H', rt := Q } (start N vs) H) : CalK P w K mg base (k + 1) x sp 0 ks (fun _ zs => g zs) := by
  refine ⟨f, fd, ps, fun _ ws => g ws, F.ok S len (fun cdv A outer s H vs Q E hr hsp => let ⟨t, h, q⟩ := body f cdv A outer s H vs Q E hr hsp; ⟨t, h.nox, q⟩), hm, F.kp, fun s us ws _ l1 l2 => ?_, fun _ r => hrel r⟩
  cases us with
  | nil =>
    obtain ⟨oc, od, dV, kV, doc, pm, an, cdv, ct, osl, rfl, lk, hcd, hD, hK⟩ := F.ex
    rcases hD with ⟨_, rfl⟩ | ⟨e, _⟩
    · exact .of_eq (hb kV doc pm an cdv ct ws l2)
    · exact absurd rfl e
  | cons _ _ => cases l1
/-- a def with keyword-only parameters, under its name -/
def DefKw (K : PySem.W.Frag) (mg : Str → Option Value) (x : Str) (st : Stmt) (kwd : List (Str × V)) : Prop := ∃ (f : Addr) (fd : FuncData), FunD K x x (defArgs st) (defBody st) (defScope st) [] kwd f fd ∧ mg x = some (.ref f)
/-- called by positional values and all keyword-only ones -/
theorem mkKp {x : Str} {st : Stmt} {N ps ks : List Str} {kwd : List (Str × V)} {k n : Nat} {sp : Sp} (d : DefKw K mg x st kwd) (S : FnScope N ps (defScope st))
    (hb : ∀ (kV doc pm : Value) (an : Option Addr) (cdv ct : Value) (us ws : List Value), us.length = n → ws.length = ks.length → bindArgs (PySem.W.fnOf x x (defArgs st) (defBody st) (defScope st) .none kV doc pm an cdv ct) ⟨us, ks.zip ws⟩ = pure (ps.zip (us ++ ws)))
    (len : ∀ vs H Q E, sp vs H Q E → vs.length = ps.length)
    (body : ∀ (f : Addr) (cdv : Value) (A : Around) (outer : List Env) (s : Shared) (H : Hp) (vs : List V) (Q : VK) (E : XK), Room k (A.deeper (envOfC x (defScope st) s.heap.objs.size f cdv)) → sp vs H Q E →
      ∃ t, PSs (cxOf C8.CX0 P w K mg base N x (defScope st) f cdv A outer s H E).nox (defBody st) t ∧ t { nx := fun _ H' => Q .non H', rt := Q } (start N vs) H) : CalK P w K mg base (k + 1) x sp n ks (fun vs zs => vs ++ zs) := by
  obtain ⟨f, fd, F, hm⟩ := d
  refine ⟨f, fd, ps, fun us ws => us ++ ws, F.ok S len (fun cdv A outer s H vs Q E hr hsp => let ⟨t, h, q⟩ := body f cdv A outer s H vs Q E hr hsp; ⟨t, h.nox, q⟩), hm, F.kp, fun s us ws _ l1 l2 => ?_, fun r1 r2 => r1.append r2⟩
  obtain ⟨oc, od, dV, kV, doc, pm, an, cdv, ct, osl, rfl, lk, hcd, hD, hK⟩ := F.ex
  rcases hD with ⟨_, rfl⟩ | ⟨e, _⟩
  · exact .of_eq (hb kV doc pm an cdv ct us ws l1 l2)
  · exact absurd rfl e
/-- __init__ with defaults -/
theorem mkI {C f : Addr} {fd : FuncData} {x qual : Str} {st : Stmt} {N ps : List Str} {k : Nat} {sp : Sp} {dvs dvs' : List V} (F : DefM K "__init__" qual st dvs f fd) (M : Mk K C f) (hm : mg x = some (.ref C)) (S : FnScope N ps (defScope st))
    (hb : ∃ ds, Vals dvs' ds ∧ Binds K fd ps ds) (len : ∀ vs H Q E, sp vs H Q E → vs.length = ps.length)
    (body : ∀ (f : Addr) (cdv : Value) (A : Around) (outer : List Env) (s : Shared) (H : Hp) (vs : List V) (Q : VK) (E : XK), Room k (A.deeper (envOfC qual (defScope st) s.heap.objs.size f cdv)) → sp vs H Q E →
      ∃ t, PSs (cxOf C8.CX0 P w K mg base N qual (defScope st) f cdv A outer s H E).nox (defBody st) t ∧ t { nx := fun _ H' => Q .non H', rt := Q } (start N vs) H) : C8.Mak P w K mg base (k + 1) x C sp dvs' := by
  obtain ⟨ds, r, b⟩ := hb
  have F : FunD K "__init__" qual (defArgs st) (defBody st) (defScope st) dvs [] f fd := F
  exact ⟨f, fd, ps, ds, M, F.ok S len (fun cdv A outer s H vs Q E hr hsp => let ⟨t, h, q⟩ := body f cdv A outer s H vs Q E hr hsp; ⟨t, h.nox, q⟩), hm, b, r⟩
end
end Wk
set_option Elab.async false
set_option linter.all false
set_option maxRecDepth 100000
set_option maxHeartbeats 4000000
/-! Wk: a ledger of the heap's cells, and steps that keep it. -/
namespace Wk
open PySem PySem.Spec PyProof.Rows L2
/-- an address, and what is known of the object that stands there -/
abbrev Cell := Addr × (HO → Prop)
/-- the cells of L stand in H, each at an address of its own -/
structure Hd (H : Hp) (L : List Cell) : Prop where
  nd : (L.map Prod.fst).Nodup
  at_ : ∀ c ∈ L, ∃ o, H c.1 = some o ∧ c.2 o
def lstC (a : Addr) (xs : List V) : Cell := (a, fun o => o = .lst xs)
def tupC (a : Addr) (xs : List V) : Cell := (a, fun o => o = .tup xs)
def frzC (a : Addr) (xs : List V) : Cell := (a, fun o => ∃ q, o = .frz q (.lst xs))
def dctC (a : Addr) (kvs : List (Key × V)) : Cell := (a, fun o => o = .dK kvs)
def insC (a C : Addr) (fs : List (Str × V)) : Cell := (a, fun o => ∃ dx, o = .ins C dx fs)
def tblC (a : Addr) : Cell := (a, fun o => ∃ ps, o = .tbl ps ∧ TriplesOk ps.toList)
/-- L is c and M, in some order -/
inductive Pk : List Cell → Cell → List Cell → Prop
  | here {c : Cell} {L : List Cell} : Pk (c :: L) c L
  | there {x c : Cell} {L M : List Cell} : Pk L c M → Pk (x :: L) c (x :: M)
  | app {c : Cell} {Z L M : List Cell} : Pk L c M → Pk (Z ++ L) c (Z ++ M)
/-- L is the block Z and M -/
inductive PkB : List Cell → List Cell → List Cell → Prop
  | here {Z L : List Cell} : PkB (Z ++ L) Z L
  | there {x : Cell} {Z L M : List Cell} : PkB L Z M → PkB (x :: L) Z (x :: M)
  | app {Y Z L M : List Cell} : PkB L Z M → PkB (Y ++ L) Z (Y ++ M)
/-- L is A and R -/
inductive Spl : List Cell → List Cell → List Cell → Prop
  | nil {L : List Cell} : Spl L [] L
  | cons {c : Cell} {L M A R : List Cell} : Pk L c M → Spl M A R → Spl L (c :: A) R
  | blk {L M Z A R : List Cell} : PkB L Z M → Spl M A R → Spl L (Z ++ A) R
/-- A is some of L -/
inductive Sb : List Cell → List Cell → Prop
  | refl {L : List Cell} : Sb L L
  | nil {L : List Cell} : Sb [] L
  | cons {c : Cell} {L M A : List Cell} : Pk L c M → Sb A M → Sb (c :: A) L
  | drop {x : Cell} {A L : List Cell} : Sb A L → Sb A (x :: L)
  | blk {L M Z A : List Cell} : PkB L Z M → Sb A M → Sb (Z ++ A) L
  | left {Z L : List Cell} : Sb Z (Z ++ L)
  | right {A Z L : List Cell} : Sb A L → Sb A (Z ++ L)
theorem Pk.perm {L M : List Cell} {c : Cell} (h : Pk L c M) : L.Perm (c :: M) := by
  induction h with
  | here => exact .refl _
  | there _ ih => exact (List.Perm.cons _ ih).trans (List.Perm.swap _ _ _)
  | app _ ih => exact (List.Perm.append_left _ ih).trans List.perm_middle
theorem PkB.perm {L Z M : List Cell} (h : PkB L Z M) : L.Perm (Z ++ M) := by
  induction h with
  | here => exact .refl _
  | there _ ih => exact (List.Perm.cons _ ih).trans List.perm_middle.symm
  | @app Y Z L M _ ih => exact (List.Perm.append_left _ ih).trans (by rw [← List.append_assoc, ← List.append_assoc]; exact List.Perm.append_right _ List.perm_append_comm)
theorem Spl.perm {L A R : List Cell} (h : Spl L A R) : L.Perm (A ++ R) := by
  induction h with
  | nil => exact .refl _
  | cons p _ ih => exact p.perm.trans (List.Perm.cons _ ih)
  | blk p _ ih => exact p.perm.trans (by rw [List.append_assoc]; exact List.Perm.append_left _ ih)
theorem Hd.perm {H : Hp} {L M : List Cell} (h : Hd H L) (p : L.Perm M) : Hd H M := ⟨(p.map Prod.fst).nodup_iff.mp h.nd, fun c hc => h.at_ c (p.mem_iff.mpr hc)⟩
theorem Hd.tail {H : Hp} {c : Cell} {L : List Cell} (h : Hd H (c :: L)) : Hd H L := ⟨(List.nodup_cons.mp h.nd).2, fun d hd => h.at_ d (List.mem_cons_of_mem _ hd)⟩
theorem Hd.app {H : Hp} {A R : List Cell} (h : Hd H (A ++ R)) : Hd H R := by
  induction A with
  | nil => exact h
  | cons c A ih => exact ih h.tail
theorem Hd.left {H : Hp} {A R : List Cell} (h : Hd H (A ++ R)) : Hd H A := (h.perm List.perm_append_comm).app
theorem Hd.pk {H : Hp} {L M : List Cell} {c : Cell} (h : Hd H L) (p : Pk L c M) : Hd H (c :: M) := h.perm p.perm
theorem Hd.spl {H : Hp} {L A R : List Cell} (h : Hd H L) (p : Spl L A R) : Hd H (A ++ R) := h.perm p.perm
theorem Hd.sb {H : Hp} {L A : List Cell} (h : Hd H L) (s : Sb A L) : Hd H A := by
  have key : ∀ {A L : List Cell}, Sb A L → ∃ R, L.Perm (A ++ R) := by
    intro A L s
    induction s with
    | refl => exact ⟨[], by simp⟩
    | nil => exact ⟨_, List.Perm.refl _⟩
    | cons p _ ih => obtain ⟨R, q⟩ := ih; exact ⟨R, p.perm.trans (List.Perm.cons _ q)⟩
    | @drop x A L _ ih => obtain ⟨R, q⟩ := ih; exact ⟨x :: R, (List.Perm.cons x q).trans List.perm_middle.symm⟩
    | blk p _ ih => obtain ⟨R, q⟩ := ih; exact ⟨R, p.perm.trans (by rw [List.append_assoc]; exact List.Perm.append_left _ q)⟩
    | left => exact ⟨_, List.Perm.refl _⟩
    | @right A Z L _ ih => obtain ⟨R, q⟩ := ih; exact ⟨Z ++ R, (List.Perm.append_left Z q).trans (by rw [← List.append_assoc, ← List.append_assoc]; exact List.Perm.append_right _ List.perm_append_comm)⟩
  obtain ⟨R, q⟩ := key s
  exact (h.perm q).left
theorem Hd.get {H : Hp} {L : List Cell} {c : Cell} (h : Hd H L) (m : c ∈ L) : ∃ o, H c.1 = some o ∧ c.2 o := h.at_ c m
section
variable {H H2 : Hp} {L M : List Cell} {K : PySem.W.Frag} {a b C : Addr} {xs ys : List V} {fs : List (Str × V)} {kvs : List (Key × V)} {o : HO}
theorem Hd.lst (h : Hd H L) (m : lstC a xs ∈ L) : H a = some (.lst xs) := by obtain ⟨o, e, q⟩ := h.at_ _ m; cases (show o = .lst xs from q); exact e
theorem Hd.tup (h : Hd H L) (m : tupC a xs ∈ L) : H a = some (.tup xs) := by obtain ⟨o, e, q⟩ := h.at_ _ m; cases (show o = .tup xs from q); exact e
theorem Hd.dct (h : Hd H L) (m : dctC a kvs ∈ L) : H a = some (.dK kvs) := by obtain ⟨o, e, q⟩ := h.at_ _ m; cases (show o = .dK kvs from q); exact e
theorem Hd.ins (h : Hd H L) (m : insC a C fs ∈ L) : ∃ dx, H a = some (.ins C dx fs) := by obtain ⟨o, e, dx, q⟩ := h.at_ _ m; subst q; exact ⟨dx, e⟩
theorem Hd.sqL (h : Hd H L) (m : lstC a xs ∈ L) : SqL K H a xs := SqL.of (h.lst m)
theorem Hd.sqF (h : Hd H L) (m : frzC a xs ∈ L) : SqL K H a xs := by obtain ⟨o, e, q, z⟩ := h.at_ _ m; subst z; exact .inl (.inr ⟨q, e⟩)
theorem Hd.sqT (h : Hd H L) (m : tupC a xs ∈ L) : SqT K H a xs := SqT.of (h.tup m)
theorem Hd.tbl (h : Hd H L) (m : tblC a ∈ L) : GxR.TabG H a := by obtain ⟨o, e, ps, q, t⟩ := h.at_ _ m; subst q; exact ⟨ps, e, t⟩
theorem Hd.ne {c d : Cell} (h : Hd H (c :: L)) (m : d ∈ L) : d.1 ≠ c.1 := fun e => (List.nodup_cons.mp h.nd).1 (e ▸ List.mem_map_of_mem m)
theorem Hd.new {P : HO → Prop} {p : Addr} (h : Hd H L) (n : New H H2 p o) (q : P o) : Hd H2 ((p, P) :: L) := by
  refine ⟨List.nodup_cons.mpr ⟨fun z => ?_, h.nd⟩, fun c hc => ?_⟩
  · obtain ⟨c, hc, e⟩ := List.mem_map.mp z
    obtain ⟨u, hu, _⟩ := h.at_ c hc
    rw [e, n.no] at hu
    cases hu
  · rcases List.mem_cons.mp hc with rfl | hc
    · exact ⟨o, n.at_, q⟩
    · obtain ⟨u, hu, z⟩ := h.at_ c hc
      exact ⟨u, n.keep.at0 hu, z⟩
theorem Hd.newL {p : Addr} (h : Hd H L) (n : New H H2 p (.lst xs)) : Hd H2 (lstC p xs :: L) := h.new n rfl
theorem Hd.newT {p : Addr} (h : Hd H L) (n : New H H2 p (.tup xs)) : Hd H2 (tupC p xs :: L) := h.new n rfl
theorem Hd.newD {p : Addr} (h : Hd H L) (n : New H H2 p (.dK kvs)) : Hd H2 (dctC p kvs :: L) := h.new n rfl
/-- what a change of the cells S leaves of L -/
theorem Hd.upt {S : List Addr} (h : Hd H L) (u : Upt S H H2) (hs : ∀ c ∈ L, c.1 ∉ S) : Hd H2 L := ⟨h.nd, fun c hc => let ⟨o, e, q⟩ := h.at_ c hc; ⟨o, u _ _ (hs c hc) e, q⟩⟩
theorem Hd.upt0 (h : Hd H L) (u : Upt [] H H2) : Hd H2 L := h.upt u fun _ _ => by simp
theorem Hd.chg {c c' : Cell} (h : Hd H L) (p : Pk L c M) (g : Chg H H2 c.1 o) (e : c'.1 = c.1) (q : c'.2 o) : Hd H2 (c' :: M) := by
  have h1 := h.pk p
  have nd := List.nodup_cons.mp h1.nd
  refine ⟨List.nodup_cons.mpr ⟨by rw [e]; exact nd.1, nd.2⟩, fun d hd => ?_⟩
  rcases List.mem_cons.mp hd with rfl | hd
  · exact ⟨o, by rw [e]; exact g.at_, q⟩
  · obtain ⟨u, hu, z⟩ := h1.at_ d (List.mem_cons_of_mem _ hd)
    exact ⟨u, g.keep.at1 (h1.ne hd) hu, z⟩
theorem Hd.chgL (h : Hd H L) (p : Pk L (lstC a xs) M) (g : Chg H H2 a (.lst ys)) : Hd H2 (lstC a ys :: M) := h.chg (c := lstC a xs) p g rfl rfl
theorem Hd.chgD {kvs' : List (Key × V)} (h : Hd H L) (p : Pk L (dctC a kvs) M) (g : Chg H H2 a (.dK kvs')) : Hd H2 (dctC a kvs' :: M) := h.chg (c := dctC a kvs) p g rfl rfl
theorem Hd.chgI {dx : Addr} {fs' : List (Str × V)} (h : Hd H L) (p : Pk L (insC a C fs) M) (g : Chg H H2 a (.ins C dx fs')) : Hd H2 (insC a C fs' :: M) := h.chg (c := insC a C fs) p g rfl ⟨dx, rfl⟩
/-- cells that change by a contract over addresses -/
theorem Hd.put {S : List Addr} {A B R : List Cell} (h : Hd H (A ++ R)) (u : Upt S H H2) (hs : ∀ a ∈ S, a ∈ A.map Prod.fst) (hB : Hd H2 B) (hk : ∀ c ∈ B, c.1 ∈ A.map Prod.fst ∨ H c.1 = none) : Hd H2 (B ++ R) := by
  have hd : ∀ c ∈ R, c.1 ∉ A.map Prod.fst := fun c hc z => by
    have nd := h.nd
    rw [List.map_append] at nd
    exact (List.nodup_append.mp nd).2.2 _ z _ (List.mem_map_of_mem hc) rfl
  have hR : Hd H2 R := h.app.upt u fun c hc z => hd c hc (hs _ z)
  refine ⟨?_, fun c hc => (List.mem_append.mp hc).elim (hB.at_ c) (hR.at_ c)⟩
  rw [List.map_append]
  refine List.nodup_append.mpr ⟨hB.nd, hR.nd, fun x hx y hy e => ?_⟩
  subst e
  obtain ⟨c, hc, rfl⟩ := List.mem_map.mp hx
  obtain ⟨d, hdm, e⟩ := List.mem_map.mp hy
  rcases hk c hc with z | z
  · exact hd d hdm (e ▸ z)
  · obtain ⟨o, ho, _⟩ := h.app.at_ d hdm
    rw [e, z] at ho
    cases ho
theorem Hd.one {c : Cell} {o : HO} (e : H c.1 = some o) (q : c.2 o) : Hd H [c] := ⟨by simp, fun d hd => by rw [List.mem_singleton.mp hd]; exact ⟨o, e, q⟩⟩
theorem Hd.two {c d : Cell} {o u : HO} (e : H c.1 = some o) (q : c.2 o) (e' : H d.1 = some u) (q' : d.2 u) (n : c.1 ≠ d.1) : Hd H [c, d] := by
  refine ⟨by simp [n], fun x hx => ?_⟩
  rcases List.mem_cons.mp hx with rfl | hx
  · exact ⟨o, e, q⟩
  · rw [List.mem_singleton.mp hx]; exact ⟨u, e', q'⟩
/-- data -/
theorem Dn.lt {n : Nat} {ds : List PyData} (h : Hd H L) (m : lstC a xs ∈ L) (hl : xs.length ≤ 100000) (p : Paired (Dn K [] H n) xs ds) : Dn K [] H (n + 1) (.ref a) (.list ds) := Dn.lst (h.sqL m) (by simp) hl p
theorem Dn.tp {n : Nat} {ds : List PyData} (h : Hd H L) (m : tupC a xs ∈ L) (hl : xs.length ≤ 100000) (p : Paired (Dn K [] H n) xs ds) : Dn K [] H (n + 1) (.ref a) (.tuple ds) := Dn.tup (h.sqT m) (by simp) hl p
end
/-! ### steps -/
section
variable {K : PySem.W.Frag} {σ : L2.St} {H : Hp} {Q : VK} {L M : List Cell} {P : Hp → Prop} {D : Ends} {a b p C : Addr} {xs ys : List V} {i : Int} {n : Nat} {v x y : V} {f : Str} {fs : List (Str × V)} {kvs : List (Key × V)} {E : XK} {sp : Sp} {dvs : List V}
theorem g_lst (hh : Hd H L) (hs : n ≤ sizeLine) (q : ∀ p H2, Hd H2 (lstC p xs :: L) → Q (.ref p) H2) : KNew n H (.lst xs) Q := w_new hs fun p H2 n2 => q p H2 (hh.newL n2)
theorem g_tup (hh : Hd H L) (hs : n ≤ sizeLine) (q : ∀ p H2, Hd H2 (tupC p xs :: L) → Q (.ref p) H2) : KNew n H (.tup xs) Q := w_new hs fun p H2 n2 => q p H2 (hh.newT n2)
theorem g_dict (hh : Hd H L) (q : ∀ p H2, Hd H2 (dctC p [] :: L) → Q (.ref p) H2) : tDNewK σ H Q := w_dnew fun p H2 n2 => q p H2 (hh.newD n2)
theorem g_set (hh : Hd H L) (k : Pk L (lstC p xs) M) (hn : ixN xs.length i = some n) (q : ∀ H2, Hd H2 (lstC p (xs.set n v) :: M) → P H2) : rSetL (.ref p) (.int i) v H P := w_setI ((hh.pk k).lst (List.mem_cons_self ..)) hn fun H2 g => q H2 (hh.chgL k g)
theorem g_append (hh : Hd H L) (k : Pk L (lstC p xs) M) (hz : xs.length < sizeLine) (q : ∀ H2, Hd H2 (lstC p (xs ++ [y]) :: M) → Q .non H2) : KBM K "list" rAppend (tCons (tC y) tNil) σ (.ref p) H Q := by
  have e := (hh.pk k).lst (List.mem_cons_self ..)
  exact w_kbm (ty_list (SqL.of e)) (w_append e hz fun H2 g => q H2 (hh.chgL k g))
theorem g_app (hh : Hd H L) (k : Pk L (lstC p xs) M) (hz : xs.length < sizeLine) (q : ∀ H2, Hd H2 (lstC p (xs ++ [y]) :: M) → Q .non H2) : rAppend (.ref p) [y] H Q := w_append ((hh.pk k).lst (List.mem_cons_self ..)) hz fun H2 g => q H2 (hh.chgL k g)
theorem g_kbm {g : V → List V → Hp → VK → Prop} {t : TA} (hh : Hd H L) (m : lstC p xs ∈ L) (h : t σ H fun zs H2 => g (.ref p) zs H2 Q) : KBM K "list" g t σ (.ref p) H Q := w_kbm (ty_list (hh.sqL m)) h
theorem g_kbm0 {g : V → List V → Hp → VK → Prop} (hh : Hd H L) (m : lstC p xs ∈ L) (h : g (.ref p) [] H Q) : KBM0 K "list" g (.ref p) H Q := w_kbm0 (ty_list (hh.sqL m)) h
theorem g_popAt (hh : Hd H L) (k : Pk L (lstC p xs) M) (hn : n < xs.length) (hb : n < 2 ^ 62) (hv : xs[n]? = some y) (q : ∀ H2, Hd H2 (lstC p (xs.eraseIdx n) :: M) → Q y H2) : rPopAt (.ref p) [.int (n : Int)] H Q := w_popAt ((hh.pk k).lst (List.mem_cons_self ..)) hn hb hv fun H2 g => q H2 (hh.chgL k g)
theorem g_listL (hh : Hd H L) (h : SqL K H p ys) (q : ∀ l H2, Hd H2 (lstC l ys :: L) → Q (.ref l) H2) : CB (rListOf K) [.ref p] H Q := c_listL h fun l H2 n2 => q l H2 (hh.newL n2)
theorem g_listT (hh : Hd H L) (h : SqT K H p ys) (q : ∀ l H2, Hd H2 (lstC l ys :: L) → Q (.ref l) H2) : CB (rListOf K) [.ref p] H Q := c_listT h fun l H2 n2 => q l H2 (hh.newL n2)
theorem g_tupL (hh : Hd H L) (h : SqL K H p ys) (q : ∀ l H2, Hd H2 (tupC l ys :: L) → Q (.ref l) H2) : CB (rTupOf K) [.ref p] H Q := c_tupL h fun l H2 n2 => q l H2 (hh.newT n2)
theorem g_fld (hh : Hd H L) (m : insC a C fs ∈ L) (c : Cls K C) (n : NoAttr K C f) (l : fs.lookup f = some v) (q : Q v H) : KFld K f (.ref a) H Q := let ⟨_, e⟩ := hh.ins m; w_kfld e c n l q
theorem g_sfld (hh : Hd H L) (k : Pk L (insC a C fs) M) (c : Cls K C) (n : NoAttr K C f) (hl : fs.length < 1000) (q : ∀ H2, Hd H2 (insC a C (putF f y fs) :: M) → D.nx σ H2) : KSFld K f D σ y (.ref a) H :=
  let ⟨_, e⟩ := (hh.pk k).ins (List.mem_cons_self ..)
  w_ksfld e c n hl fun H2 g => q H2 (hh.chgI k g)
theorem g_meth {m : Str} {t : TA} (hh : Hd H L) (k : insC a C fs ∈ L) (l : fs.lookup m = none) (h : t σ H fun vs H2 => sp (.ref a :: (vs ++ dvs)) H2 Q E) : KMeth C m sp dvs E t σ Q (.ref a) H := let ⟨_, e⟩ := hh.ins k; w_kmeth e l h
theorem g_prop (hh : Hd H L) (k : insC a C fs ∈ L) (h : sp [.ref a] H Q E) : KProp C sp E Q (.ref a) H := let ⟨_, e⟩ := hh.ins k; w_kprop e h
theorem g_make {vs : List V} (hh : Hd H L) (q : ∀ x H2, Hd H2 (insC x C [] :: L) → sp (.ref x :: (vs ++ dvs)) H2 (fun v H2 => v = .non ∧ Q (.ref x) H2) E) : KMake C sp dvs E Q vs H := fun x dx hx hdx ne => by
  have u : Upt [] H (upd (upd H dx (.own x)) x (.ins C dx [])) := fun b o _ e => by rw [upd_ne (ne_of_none e hx), upd_ne (ne_of_none e hdx)]; exact e
  refine q x _ ((hh.new (H2 := upd (upd H dx (.own x)) x (.ins C dx [])) (p := x) (o := .ins C dx []) (P := fun o => ∃ dx, o = .ins C dx []) ⟨hx, upd_same, u⟩ ⟨dx, rfl⟩))
theorem g_cat (hh : Hd H L) (h1 : lstC a xs ∈ L) (h2 : lstC b ys ∈ L) (hz : xs.length + ys.length ≤ sizeLine) (q : ∀ p H2, Hd H2 (lstC p (xs ++ ys) :: L) → Q (.ref p) H2) : rCat (.ref a) (.ref b) H Q := w_cat (hh.lst h1) (hh.lst h2) hz fun p H2 n2 => q p H2 (hh.newL n2)
theorem g_rep {k : Int} (hh : Hd H L) (h1 : lstC a xs ∈ L) (h2 : -(2 ^ 63) ≤ k) (h3 : k < 2 ^ 63) (hz : xs.length * k.toNat ≤ sizeLine) (q : ∀ p H2, Hd H2 (lstC p (List.replicate k.toNat xs).flatten :: L) → Q (.ref p) H2) : rRep (.ref a) (.int k) H Q := w_rep (hh.lst h1) h2 h3 hz fun p H2 n2 => q p H2 (hh.newL n2)
theorem g_ixI {ns : List Int} {k : Nat} (hh : Hd H L) (m : lstC p (ns.map V.int) ∈ L) (hk : k < ns.length) (q : ∀ z, ns[k]? = some z → Q (.int z) H) : rIxL K (.ref p) (.int k) H Q :=
  w_ixL (hh.sqL m) (atI_nat (by rw [List.getElem?_map, List.getElem?_eq_getElem hk]; rfl)) (q _ (List.getElem?_eq_getElem hk))
theorem g_ixIT {ns : List Int} {k : Nat} (hh : Hd H L) (m : tupC p (ns.map V.int) ∈ L) (hk : k < ns.length) (q : ∀ z, ns[k]? = some z → Q (.int z) H) : rIxT K (.ref p) (.int k) H Q :=
  w_ixT (hh.sqT m) (atI_nat (by rw [List.getElem?_map, List.getElem?_eq_getElem hk]; rfl)) (q _ (List.getElem?_eq_getElem hk))
theorem g_setI {ns : List Int} {k : Nat} {z : Int} (hh : Hd H L) (m : Pk L (lstC p (ns.map V.int)) M) (hk : k < ns.length) (q : ∀ H2, Hd H2 (lstC p ((ns.set k z).map V.int) :: M) → P H2) : rSetL (.ref p) (.int k) (.int z) H P :=
  g_set hh m (n := k) (by rw [List.length_map]; exact Evl.ixN_nat hk) fun H2 h2 => q H2 (by rw [List.map_set]; exact h2)
theorem g_inT {r : Bool} (hh : Hd H L) (h : tupC p xs ∈ L) (fx : flatV x = true) (fs : xs.all flatV = true) (e : inV x xs = r) (q : Q (.bl r) H) : rIn K false x (.ref p) H Q := w_inT (hh.tup h) fx fs e q
theorem g_kapp (hh : Hd H L) (k : Pk L (lstC p xs) M) (hz : xs.length < sizeLine) (q : ∀ H2, Hd H2 (lstC p (xs ++ [y]) :: M) → P H2) : KApp p P y H := w_kapp ((hh.pk k).lst (List.mem_cons_self ..)) hz fun H2 g => q H2 (hh.chgL k g)
theorem g_isiT2 {t A B : String} {q1 q2 r : Bool} {tp : Addr} (hh : Hd H L) (ht : tupC tp [.ty A, .ty B] ∈ L) (ty : TyX K H x (.type t)) (ha : kitB t A = some q1) (hb : kitB t B = some q2) (hr : (q1 || q2) = r) (q : Q (.bl r) H) : CB (rIsiT K) [x, .ref tp] H Q := c_isiT2 (hh.tup ht) ty ha hb hr q
end
section
variable {K : PySem.W.Frag} {σ : L2.St} {H : Hp} {Q : VK} {L : List Cell} {te : TE} {n m : Nat} {j : Int} {a : Addr} {xs : List V}
theorem g_lcR (hh : Hd H L) (hj : j = (m : Int)) (hb : m ≤ 1000000) (Pv : Nat → Addr → Hp → Prop) (h0 : ∀ D H1, Hd H1 (lstC D [] :: L) → Pv 0 D H1)
    (hs : ∀ (i : Nat) D H, i < m → Pv i D H → te ((σ.set n none).set n (some (.int (i : Int)))) H (KApp D (Pv (i + 1) D)))
    (hd : ∀ D H, Pv m D H → Q (.ref D) H) : KLcR (gName n) tYes te [n] σ Q [.int j] H := lc_R hj hb Pv (fun D H1 nn => h0 D H1 (hh.newL nn)) hs hd
theorem g_lcL (hh : Hd H L) (h : SqL K H a xs) (Pv : Nat → Addr → Hp → Prop) (h0 : ∀ D H1, Hd H1 (lstC D [] :: L) → Pv 0 D H1) (hl : ∀ i D H, i ≤ xs.length → Pv i D H → SqL K H a xs)
    (hs : ∀ (i : Nat) x D H, xs[i]? = some x → Pv i D H → te ((σ.set n none).set n (some x)) H (KApp D (Pv (i + 1) D)))
    (hd : ∀ D H, Pv xs.length D H → Q (.ref D) H) : KLcL K (gName n) tYes te [n] σ Q (.ref a) H := lc_L h Pv (fun D H1 nn => h0 D H1 (hh.newL nn)) hl hs hd
end
/-! ### data as blocks of cells -/
/-- the block Z holds the datum d at v -/
def Zc (K : PySem.W.Frag) (Z : List Cell) (n : Nat) (v : V) (d : PyData) : Prop := ∀ H, Hd H Z → Dn K [] H n v d
theorem same_nodup (A : List Addr) : ∃ B : List Addr, B.Nodup ∧ ∀ a, a ∈ A ↔ a ∈ B := by
  induction A with
  | nil => exact ⟨[], List.nodup_nil, fun a => Iff.rfl⟩
  | cons x A ih =>
    obtain ⟨B, h1, h2⟩ := ih
    by_cases h : x ∈ B
    · exact ⟨B, h1, fun a => by rw [List.mem_cons, h2]; exact ⟨fun z => z.elim (fun e => e ▸ h) id, .inr⟩⟩
    · exact ⟨x :: B, List.nodup_cons.mpr ⟨h, h1⟩, fun a => by rw [List.mem_cons, List.mem_cons, h2]⟩
section
variable {K : PySem.W.Frag} {S : List Addr} {H H' : Hp} {a : Addr} {xs : List V}
/-- H' has what H has at A -/
def Agr (A : List Addr) (H H' : Hp) : Prop := ∀ b ∈ A, ∀ o, H b = some o → H' b = some o
theorem SqL.addr (h : SqL K H a xs) : ∃ A : List Addr, (∀ b ∈ A, b = a ∧ ∃ o, H b = some o) ∧ ∀ H', Agr A H H' → SqL K H' a xs := by
  rcases h with (h | ⟨q, h⟩) | h
  · exact ⟨[a], fun b hb => by rw [List.mem_singleton.mp hb]; exact ⟨rfl, _, h⟩, fun H' e => .inl (.inl (e a (List.mem_singleton.mpr rfl) _ h))⟩
  · exact ⟨[a], fun b hb => by rw [List.mem_singleton.mp hb]; exact ⟨rfl, _, h⟩, fun H' e => .inl (.inr ⟨q, e a (List.mem_singleton.mpr rfl) _ h⟩)⟩
  · exact ⟨[], fun b hb => absurd hb (List.not_mem_nil), fun H' _ => .inr h⟩
theorem SqT.addr (h : SqT K H a xs) : ∃ A : List Addr, (∀ b ∈ A, b = a ∧ ∃ o, H b = some o) ∧ ∀ H', Agr A H H' → SqT K H' a xs := by
  rcases h with (h | ⟨q, h⟩) | h
  · exact ⟨[a], fun b hb => by rw [List.mem_singleton.mp hb]; exact ⟨rfl, _, h⟩, fun H' e => .inl (.inl (e a (List.mem_singleton.mpr rfl) _ h))⟩
  · exact ⟨[a], fun b hb => by rw [List.mem_singleton.mp hb]; exact ⟨rfl, _, h⟩, fun H' e => .inl (.inr ⟨q, e a (List.mem_singleton.mpr rfl) _ h⟩)⟩
  · exact ⟨[], fun b hb => absurd hb (List.not_mem_nil), fun H' _ => .inr h⟩
theorem paired_addr {n : Nat} (F : ∀ v d, Dn K S H n v d → ∃ A : List Addr, (∀ b ∈ A, b ∉ S ∧ ∃ o, H b = some o) ∧ ∀ H', Agr A H H' → Dn K [] H' n v d) : ∀ {xs : List V} {ds : List PyData}, Paired (Dn K S H n) xs ds →
    ∃ A : List Addr, (∀ b ∈ A, b ∉ S ∧ ∃ o, H b = some o) ∧ ∀ H', Agr A H H' → Paired (Dn K [] H' n) xs ds
  | _, _, .nil => ⟨[], fun b hb => absurd hb (List.not_mem_nil), fun _ _ => .nil⟩
  | _, _, .cons r t => by
    obtain ⟨A, h1, h2⟩ := F _ _ r
    obtain ⟨B, h3, h4⟩ := paired_addr F t
    refine ⟨A ++ B, fun b hb => (List.mem_append.mp hb).elim (h1 b) (h3 b), fun H' e => .cons (h2 H' fun b hb => e b (List.mem_append_left _ hb)) (h4 H' fun b hb => e b (List.mem_append_right _ hb))⟩
theorem Dn.addr : ∀ {n : Nat} {v : V} {d : PyData}, Dn K S H n v d → ∃ A : List Addr, (∀ b ∈ A, b ∉ S ∧ ∃ o, H b = some o) ∧ ∀ H', Agr A H H' → Dn K [] H' n v d
  | 0, _, _, h => ⟨[], fun b hb => absurd hb (List.not_mem_nil), fun _ _ => h⟩
  | n + 1, v, d, h => by
    rcases h with h | ⟨a, xs, ds, e1, e2, ha, hq, hl, p⟩ | ⟨a, xs, ds, e1, e2, ha, hq, hl, p⟩
    · exact ⟨[], fun b hb => absurd hb (List.not_mem_nil), fun _ _ => .inl h⟩
    · obtain ⟨A, h1, h2⟩ := SqL.addr hq
      obtain ⟨B, h3, h4⟩ := paired_addr (fun v d => Dn.addr) p
      exact ⟨A ++ B, fun b hb => (List.mem_append.mp hb).elim (fun z => ⟨(h1 b z).1 ▸ ha, (h1 b z).2⟩) (h3 b), fun H' e => .inr (.inl ⟨a, xs, ds, e1, e2, by simp, h2 H' fun b hb => e b (List.mem_append_left _ hb), hl, h4 H' fun b hb => e b (List.mem_append_right _ hb)⟩)⟩
    · obtain ⟨A, h1, h2⟩ := SqT.addr hq
      obtain ⟨B, h3, h4⟩ := paired_addr (fun v d => Dn.addr) p
      exact ⟨A ++ B, fun b hb => (List.mem_append.mp hb).elim (fun z => ⟨(h1 b z).1 ▸ ha, (h1 b z).2⟩) (h3 b), fun H' e => .inr (.inr ⟨a, xs, ds, e1, e2, by simp, h2 H' fun b hb => e b (List.mem_append_left _ hb), hl, h4 H' fun b hb => e b (List.mem_append_right _ hb)⟩)⟩
theorem Dn.chunk {n : Nat} {v : V} {d : PyData} (h : Dn K S H n v d) : ∃ Z : List Cell, Hd H Z ∧ (∀ c ∈ Z, c.1 ∉ S) ∧ Zc K Z n v d := by
  obtain ⟨A, h1, h2⟩ := h.addr
  obtain ⟨B, h3, h4⟩ := same_nodup A
  refine ⟨B.map fun a => (a, fun o => H a = some o), ⟨?_, fun c hc => ?_⟩, fun c hc => ?_, fun H' hh => h2 H' fun b hb o ho => ?_⟩
  · rw [List.map_map]
    exact (List.map_id B).symm ▸ h3
  · obtain ⟨a, ha, rfl⟩ := List.mem_map.mp hc
    obtain ⟨o, ho⟩ := (h1 a ((h4 a).mpr ha)).2
    exact ⟨o, ho, ho⟩
  · obtain ⟨a, ha, rfl⟩ := List.mem_map.mp hc
    exact (h1 a ((h4 a).mpr ha)).1
  · obtain ⟨u, e1, e2⟩ := hh.at_ _ (List.mem_map.mpr ⟨b, (h4 b).mp hb, rfl⟩)
    have e3 : H b = some u := e2
    rw [ho] at e3
    cases e3
    exact e1
theorem Hd.join {Z L : List Cell} (h1 : Hd H Z) (h2 : Hd H L) (d : ∀ c ∈ Z, c.1 ∉ L.map Prod.fst) : Hd H (Z ++ L) := by
  refine ⟨?_, fun c hc => (List.mem_append.mp hc).elim (h1.at_ c) (h2.at_ c)⟩
  rw [List.map_append]
  refine List.nodup_append.mpr ⟨h1.nd, h2.nd, fun x hx y hy e => ?_⟩
  subst e
  obtain ⟨c, hc, rfl⟩ := List.mem_map.mp hx
  exact d c hc hy
theorem Zc.up {Z : List Cell} {n m : Nat} {v : V} {d : PyData} (z : Zc K Z n v d) (h : n ≤ m) : Zc K Z m v d := fun H hh => Dn.up h (z H hh)
theorem Zc.sb {Z Y : List Cell} {n : Nat} {v : V} {d : PyData} (z : Zc K Z n v d) (s : Sb Z Y) : Zc K Y n v d := fun H hh => z H (hh.sb s)
theorem Dn.tup_inv {n : Nat} {v : V} {ds : List PyData} (h : Dn K S H (n + 1) v (.tuple ds)) : ∃ a xs, v = .ref a ∧ SqT K H a xs ∧ xs.length ≤ 100000 ∧ Paired (Dn K S H n) xs ds := by
  rcases h with h | ⟨a, xs, ds', e1, e2, ha, hq, hl, p⟩ | ⟨a, xs, ds', e1, e2, ha, hq, hl, p⟩
  · cases h
  · cases e2
  · cases e2; exact ⟨a, xs, e1, hq, hl, p⟩
theorem Dn.lst_inv {n : Nat} {v : V} {ds : List PyData} (h : Dn K S H (n + 1) v (.list ds)) : ∃ a xs, v = .ref a ∧ SqL K H a xs ∧ xs.length ≤ 100000 ∧ Paired (Dn K S H n) xs ds := by
  rcases h with h | ⟨a, xs, ds', e1, e2, ha, hq, hl, p⟩ | ⟨a, xs, ds', e1, e2, ha, hq, hl, p⟩
  · cases h
  · cases e2; exact ⟨a, xs, e1, hq, hl, p⟩
  · cases e2
theorem Dn.int_inv {v : V} {i : Int} : ∀ {n : Nat}, Dn K S H n v (.int i) → v = .int i
  | 0, h => by cases h; rfl
  | n + 1, h => by
    rcases h with h | ⟨a, xs, ds', e1, e2, _⟩ | ⟨a, xs, ds', e1, e2, _⟩
    · cases h; rfl
    · cases e2
    · cases e2
theorem Dn.str_inv {v : V} {z : Str} : ∀ {n : Nat}, Dn K S H n v (.str z) → v = .str z
  | 0, h => by cases h; rfl
  | n + 1, h => by
    rcases h with h | ⟨a, xs, ds', e1, e2, _⟩ | ⟨a, xs, ds', e1, e2, _⟩
    · cases h; rfl
    · cases e2
    · cases e2
theorem Paired.ints_inv {n : Nat} : ∀ {ns : List Int} {xs : List V}, Paired (Dn K S H n) xs (ns.map PyData.int) → xs = ns.map V.int
  | [], _, .nil => rfl
  | _ :: _, _, .cons r t => by rw [Dn.int_inv r, Paired.ints_inv t]; rfl
end
end Wk
set_option Elab.async false
set_option linter.all false
set_option maxRecDepth 100000
set_option maxHeartbeats 4000000
/-! Wk: short loops unrolled, further steps over the ledger. -/
namespace Wk
open PySem PySem.Spec PyProof.Rows L2
section
variable {g : TG} {tb : TS} {D : Ends} {σ : L2.St} {H : Hp}
/-- the rest of a loop over a text, sign by sign -/
def unrS (g : TG) (tb : TS) (D : Ends) : List Nat → L2.St → Hp → Prop
  | [], σ, H => D.nx σ H
  | c :: cs, σ, H => g (.str ⟨#[c]⟩) σ H fun σ2 H2 => tb { D with nx := unrS g tb D cs, ct := unrS g tb D cs, bk := D.nx } σ2 H2
theorem w_unr {x : Str} (h : unrS g tb D x.cps.toList σ H) : KForS g tb D σ (.str x) H := by
  refine ⟨x, rfl, fun i m σ H => unrS g tb D (x.cps.toList.drop i) σ H ∧ m = x.cps.size - i, ⟨_, h, rfl⟩, ?_⟩
  rintro i m σ H ⟨h1, rfl⟩
  cases e : x.cps.toList.drop i with
  | nil =>
    rw [e] at h1
    refine .inl ⟨?_, h1⟩
    have l := congrArg List.length e
    rw [List.length_drop, Array.length_toList, List.length_nil] at l
    show x.cps.size ≤ i
    omega
  | cons c r =>
    rw [e] at h1
    have l := congrArg List.length e
    rw [List.length_drop, Array.length_toList, List.length_cons] at l
    have hi : i < x.cps.size := by omega
    have er : x.cps.toList.drop (i + 1) = r := by rw [← List.drop_drop, e]; rfl
    have ec : x.cps[i]? = some c := by
      have z : x.cps.toList[i]? = some c := by
        have := List.head?_drop (l := x.cps.toList) (i := i)
        rw [e] at this
        exact this.symm
      rw [← Array.getElem?_toList]
      exact z
    refine .inr ⟨hi, unrS g tb D r, fun σ' H' n => ⟨x.cps.size - (i + 1), by omega, er ▸ n, rfl⟩, ?_⟩
    rintro y H' ⟨rfl, c', hc', rfl⟩
    rw [ec] at hc'
    cases hc'
    exact h1
end
end Wk
set_option Elab.async false
set_option linter.all false
set_option maxRecDepth 100000
set_option maxHeartbeats 4000000
/-! Wk: own exception classes over an own class over ValueError: made, raised, caught. -/
namespace Wk
open PySem PySem.Spec PyProof.Rows L2
section
variable {X : Cx} {e : Expr} {es : List Expr} {ta : TA} {p1 p2 pos : Pos}
/-- B.__init__(self, ..), B an own class that leaves __init__ to ValueError -/
theorem pe_weinit {x : Str} {B : Addr} {mc : Value} {pl : Sem Bool} (hg : Gl X x) (hm : X.mg x = some (.ref B)) (hsp : PySem.W.specialIn X.K (.ref B) "__getattribute__" = some (some (.builtin "type.__getattribute__"))) (hr : PySem.W.readsIn X.K B mc = true)
    (vV : PySem.W.findCls X.K (.ref B) mc "__init__" = some (.val (.builtin "ValueError.__init__"))) (ha : PA X (e :: es) ta)
    (hc : eval (.Call (.Attribute (.Name x p1) "__init__" p2) (e :: es) [] pos) X.env = (do
      let ov ← eval (.Name x p1) X.env
      standAt p2.atName
      let (f, first) ← holding [ov] (getMethod ov "__init__" pl)
      callWith pos f first (backTo pos (starEach (e :: es) X.env)) (backToKw pos (keywordEach [] X.env))) := by rfl) (hdb : (x == ("__debug__" : Str)) = false := by decide)
    (he : starEach (e :: es) X.env = (false, eval e X.env) :: starEach es X.env := by rfl) (hpl : (backTo pos (starEach es X.env)).any (·.1) = false := by rfl) :
    PE X (.Call (.Attribute (.Name x p1) "__init__" p2) (e :: es) [] pos) (tVeI X.K ta) := by
  refine ⟨fun pins s σ H Q I h => ?_⟩
  refine PySem.W.methodCall_KW (ld_glob I hg hm ?_ hdb) hc
  refine PySem.W.method_cls I.kIn hsp (PySem.W.cls_value I.kIn hr vV (by decide +kernel) ?_)
  show wpAny _ _ (callWith pos (Value.builtin "ValueError.__init__") [] (backTo pos (starEach (e :: es) X.env)) []) _ _ _
  refine PyProof.Rows.callWith_method1 (thn (ha.run pos pins _ σ H _ (I.tok _) h) fun us s1 ⟨vs, H1, I1, r1, a, C, ws, ev, hl, T, ea, q⟩ => ?_) he hpl
  subst ev
  cases r1 with
  | @cons _ u0 _ ur ra rw' =>
    obtain rfl : u0 = Value.ref a := ra
    have hlen : ur.length ≤ sizeLine := by
      rw [← Paired.length rw', sizeLine_eq]
      omega
    exact oinit_ok T I1 ea hlen fun s' J => ⟨.non, H1, J, rfl, q⟩
end

/-! ### an own class is called: its __init__ is walked; the new error's context is None -/
section
variable {X : Cx} {e : Expr} {es : List Expr} {ta : TA} {p pos : Pos}
theorem pmk_oexN {CX : CXT} {x : Str} {C fI : Addr} {k : Nat} {fd : FuncData} {ps : List Str} {sp : Sp} {ds : List Value} {dvs : List V} (T : OexC X.K C) (iC : PySem.W.findIn X.K (.ref C) "__init__" = some (some (.ref fI)))
    (tI : PySem.W.typeIn X.K (.ref fI) = some (.type "function")) (F1 : FnOk X.prog X.w X.K X.mg X.base CX k fI fd ps sp) (hr : Room (k + 1) X.A) (hb : Binds X.K fd ps ds) (hd : Vals dvs ds) (hx : Passes CX X (fun _ _ _ => False))
    (hg : Gl X x) (hm : X.mg x = some (.ref C)) (ha : PA X (e :: es) ta) (hdb : (x == ("__debug__" : Str)) = false := by decide)
    (he : starEach (e :: es) X.env = (false, eval e X.env) :: starEach es X.env := by rfl) (hpl : (backTo pos (starEach es X.env)).any (·.1) = false := by rfl) :
    L2N.PMk X (.Call (.Name x p) (e :: es) [] pos) (tMkO C sp dvs ta) := by
  intro pins s σ H Q I h
  obtain ⟨nm, q, N, bs, bm, sn, sub, ab, col, dd, k0, k1, k2, k3, k5, hC, hbm⟩ := T.cls
  refine wpAny_Call_Name_kw (ld_glob I hg hm ?_ hdb)
  refine PySem.W.callWith_K (h₀ := X.base) I.ok.mod.kin T.kC (thn (ha.run pos pins s σ H _ I h) fun us s1 ⟨vs, H1, I1, r1, hz, q1⟩ => ⟨I1.kIn, ?_⟩) he hpl
  show wpAny _ _ (call (.ref C) us) _ _ _
  obtain ⟨hp, g, dr, tk, os⟩ := s1
  have above : hp.objs.size ≤ hp.objs.size + 1 := Nat.le_add_right _ 1
  have free : H1 (hp.objs.size + 1) = none := I1.hok.fresh above
  have stay : ∀ b o, hp.get? b = some o → ((hp.push (PySem.W.kdv_tup us)).push (PySem.HandSPX.excO C hp.objs.size)).get? b = some o :=
    fun b o z => Heap.get?_push_of_some _ (Heap.get?_push_of_some _ z)
  have new : ((hp.push (PySem.W.kdv_tup us)).push (PySem.HandSPX.excO C hp.objs.size)).get? (hp.objs.size + 1) = some (PySem.HandSPX.excO C hp.objs.size) := by heap_get
  have I2 : Inv X pins σ (upd H1 (hp.objs.size + 1) (exo (hp.objs.size + 1) C none)) ⟨(hp.push (PySem.W.kdv_tup us)).push (PySem.HandSPX.excO C hp.objs.size), g, dr, tk, os⟩ :=
    I1.laid (t' := tk) (a := hp.objs.size + 1) (o := exo (hp.objs.size + 1) C none) (h' := (hp.push (PySem.W.kdv_tup us)).push (PySem.HandSPX.excO C hp.objs.size)) stay above (exo_ok new)
  have body := q1 (hp.objs.size + 1) free
  have rel : Vals (V.ref (hp.objs.size + 1) :: (vs ++ dvs)) (Value.ref (hp.objs.size + 1) :: (us ++ ds)) := .cons rfl (r1.append hd)
  have many : (Value.ref (hp.objs.size + 1) :: us ++ ds).length = ps.length := by
    have z := rel.length
    rw [F1.len _ _ _ _ body] at z
    exact z.symm
  have short : us.length ≤ sizeLine := by
    have z := Paired.length r1
    have z2 := sizeLine_eq
    omega
  refine wpAny_call (PySem.HandSPX.call_own F.excBase_ValueError (fun Y => PySem.HandSPX.refsVE_contains Y bm hbm) (I1.kIn _ _ hC) (PySem.W.looks_findIn I1.kIn iC) (fun self => PySem.W.bind_fn I1.kIn self tI) short
    (codeAny_mono (F1.run _ X.stack _ _ ⟨Value.ref (hp.objs.size + 1) :: us, []⟩ (Value.ref (hp.objs.size + 1) :: (us ++ ds)) _ _ (fun _ _ _ => False) (hr.make C us []) (I2.env0.make C us []) (hb _ (Value.ref (hp.objs.size + 1) :: us) I2.kIn many) rel body) fun r s' out => ?_))
  cases r with
  | error er => exact hx pins σ _ _ er s' I2 out
  | ok fl =>
    cases fl with
    | next => exact False.elim out
    | brk => exact False.elim out
    | cont => exact False.elim out
    | ret u =>
      obtain ⟨v, H2, os2, bare2, un2, hok2, rv, ev, d, fs, ea, ed, hd1, q2⟩ := out
      subst ev
      obtain ⟨h2, g2, d2, t2, os'⟩ := s'
      obtain ⟨t0, G, J, kG, ge, hoe, na⟩ := mk_end0 (d2 := d2) (t2 := t2) I1 above stay un2 hok2 os2 bare2 ea ed hd1
      exact ⟨rv, _, _, _, ⟨G, g2, d2, t2, os'⟩, _, .ref C, some d, rfl, J, kG, ge, hoe, ⟨rfl, rfl, fun vs z => by cases z; rfl⟩, rfl, rfl, na, rfl, bare2, raises_own T.exC T.tyC, q2⟩
end

/-! ### a handled error that stands pinned: its class is asked, its fields are read -/
/-- isinstance(e, c), e the pinned error of the class D with its dict at dd -/
def rIsP (K : PySem.W.Frag) (D a dd : Addr) : List V → Hp → VK → Prop := fun xs H Q =>
  ∃ (c : V) (cv : Value) (b : Bool) (fs : List (Str × V)), xs = [.ref a, c] ∧ (∀ u, RelV c u → u = cv) ∧ PySem.W.kitOne K (.ref D) cv = some b ∧ H dd = some (.xd fs) ∧ Q (.bl b) H
theorem call_isP {X : Cx} {a D dd : Addr} {oe : Obj} (C : ExcC X.K D) (hp : (a, oe) ∈ X.pn) (hz : L2.Zc (.ref D) (some dd) oe) (hf : ∃ vs, oe.data = .fields vs) : CallR X (.builtin "isinstance") (rIsP X.K D a dd) := by
  intro pins s σ H xs us Q I r h
  obtain ⟨c, cv, b, fs, rfl, hcv, e, hd, q⟩ := h
  cases r with
  | cons rx rr =>
    cases rr with
    | cons rt rr =>
      cases rr
      cases rx
      have ec := hcv _ rt
      subst ec
      obtain ⟨hget, _⟩ := I.pin (a, oe) (List.mem_append_left _ hp)
      obtain ⟨vs, hv⟩ := hf
      have ho : ObjOk X.prog X.w H s.heap dd (.xd fs) := I.hok dd _ hd
      obtain ⟨od, hod⟩ := objOk_get ho
      have J : PySem.W.InstAt s.heap a oe D (some od) := ⟨hget, hz.1, by unfold PySem.W.notCls; rw [hv] <;> rfl, by rw [hz.2]; exact hod⟩
      have hcl : (PySem.W.clsIn X.K D).isSome = true := by
        obtain ⟨cd, hc, _⟩ := PySem.W.any_some C.hd
        rw [hc]
        rfl
      exact PySem.W.kia_one (PySem.W.kitx_exc hcl C.hg C.hk C.hs C.ha C.hn C.ht C.hm) I.kIn J e (fun z => nomatch z) fun tk => ⟨.bl b, H, I.kept (t' := tk) fun _ _ z => z, rfl, q⟩
theorem pe_xfP {X : Cx} {a C : Addr} {oe : Obj} {cls : Value} {d : Option Addr} {e : Expr} {te : TE} {pos : Pos} {n : Str} (T : XfC X.K C) (hno : PySem.W.findIn X.K (.ref C) n = some none)
    (hp : (a, oe) ∈ X.pn) (hz : L2.Zc cls d oe) (hf : ∃ vs, oe.data = .fields vs) (he : PE X e te) (hb : attributeBase e n X.env (eval e X.env) = eval e X.env := by rfl) : PE X (.Attribute e n pos) (tXf a cls d C n te) := by
  refine ⟨fun pins s σ H Q I h => ?_⟩
  refine attr_of hb (thn (he.run pins s σ H _ I h) fun u s1 out => ?_)
  obtain ⟨x, H1, I1, rx, ex, ec, dd, fs, v, ed, ea, l, q⟩ := out
  subst ex ec ed
  obtain rfl : u = Value.ref a := rx
  have hget := (I1.pin (a, oe) (List.mem_append_left _ hp)).1
  obtain ⟨vs, hd⟩ := hf
  obtain ⟨mA, hns, hr⟩ := (I1.hok dd _ ea : ObjOk X.prog X.w H1 s1.heap dd (.xd fs))
  obtain ⟨od, ho, hl⟩ := lookIn_ns hns
  obtain ⟨u, hu, ru⟩ := RelO.some_of (v := v) (o := mA n) (by rw [← l]; exact hr n)
  have J : PySem.W.InstAt s1.heap a oe C (some od) := ⟨hget, hz.1, by unfold PySem.W.notCls; rw [hd] <;> rfl, by rw [hz.2]; exact ho⟩
  exact PySem.HandSPX.exc_get I1.kIn J T.ga T.gg T.exC (PySem.W.findObj_own T.hdC hno rfl (by rw [hl, hu])) (handed_of ru) ⟨v, H1, I1.tok _, ru, q⟩

/-! ### a def that gets the handled error: its contract speaks of the error's object -/
abbrev SpP := Addr × Obj → Sp
structure FnE (P : Program) (w : World) (K : PySem.W.Frag) (mg : Str → Option Value) (base : Heap) (CX : CXT) (k : Nat) (f : Addr) (fd : FuncData) (ps : List Str) (sp : SpP) : Prop where
  len : ∀ p vs H Q E, sp p vs H Q E → vs.length = ps.length
  run : ∀ (A : Around) (outer : List Env) (s : Shared) (H : Hp) (args : Args) (us : List Value) (vs : List V) (Q : VK) (E : XK) (p : Addr × Obj), L2H.RoomH k A → L2H.Hot1 A p → L2H.PinOk outer H s p → Env0 P w K mg base A outer s H →
    BindsTo s fd args (ps.zip us) → Vals vs us → sp p vs H Q E → codeAny (model P w) A (.call (.ref f) args) (CR CX outer P w H s Q E) s
theorem fn_ofE {CX : CXT} {P : Program} {w : World} {K : PySem.W.Frag} {mg : Str → Option Value} {base : Heap} {k : Nat} {f : Addr} {name qual : Str} {params : Arguments} {body : List Stmt} {scope : Scope} {dV kV doc pm cdv ct oc : Value} {an od : Option Addr}
    {osl : Array (Option Value)} {N ps : List Str} {sp : SpP} (lk : K.lookup f = some ⟨oc, od, .func (PySem.W.fnOf name qual params body scope dV kV doc pm an cdv ct), osl⟩) (hcd : PySem.W.codeIn K cdv qual = true) (S : FnScope N ps scope)
    (len : ∀ p vs H Q E, sp p vs H Q E → vs.length = ps.length)
    (hbody : ∀ (A : Around) (outer : List Env) (s : Shared) (H : Hp) (vs : List V) (Q : VK) (E : XK) (p : Addr × Obj), L2H.Hot1 A p → L2H.RoomH k (A.deeper (envOfC qual scope s.heap.objs.size f cdv)) → sp p vs H Q E →
      ∃ t, PSs (L2H.cxH CX P w K mg base N qual scope f cdv A outer s H E p) body t ∧ t { nx := fun _ H' => Q .non H', rt := Q } (L2.start N vs) H) :
    FnE P w K mg base CX (k + 1) f (PySem.W.fnOf name qual params body scope dV kV doc pm an cdv ct) ps sp := by
  refine ⟨len, fun A outer s H args us vs Q E p room hot pin e0 binds rel told => ?_⟩
  have many := len _ _ _ _ _ told
  have KX : K.In s.heap := e0.mod.kin.keeps fun b o z => (e0.bs b o z).1
  have lim : s.heap.NoLimit := e0.mod.nolimit.keeps fun b o z => (e0.bs b o z).1
  have kinds : ∀ y ∈ ps.zip us, scope.names.lookup y.1 = some .local ∨ (scope.names.lookup y.1 = some .cell ∧ ((cellsFrom (s.heap.objs.size + 1) scope.names []).lookup y.1).isSome = true) := by
    rintro ⟨n, v⟩ hy
    rcases S.par n (List.of_mem_zip hy).1 with z | z
    · exact .inl z
    · exact .inr ⟨z, PySem.W.cellsFrom_some _ _ _ (.inl z)⟩
  refine codeAny_call_function room.depth (KX _ _ lk) rfl S.co S.gen rfl (PySem.W.codeRec_of KX hcd) (binds _ _ _ _ ?_)
  refine wpAny_newFunctionEnv_cells S.kind kinds fun env he s1 x => ?_
  subst he
  refine ⟨lim.keeps x.toInCall.keep, codeAny_func ?_⟩
  obtain ⟨t, walk, goal⟩ := hbody A outer s H vs Q E p hot (room.deeper _) told
  have I : Inv (L2H.cxH CX P w K mg base N qual scope f cdv A outer s H E p) [] (L2.start N vs) H s1 := L2H.inv_startH S pin e0 many rel x
  refine wpAny_mono (walk.run [] s1 (L2.start N vs) H _ I goal) (fun fl s' out => ?_) fun e s' out => out
  have back : ∀ {σ' : L2.St} {H' : Hp} {v : V} {u : Value}, Inv (L2H.cxH CX P w K mg base N qual scope f cdv A outer s H E p) [] σ' H' s' → RelV v u → Q v H' → CE outer P w H s Q u s' :=
    fun {σ' H' v u} J rv q => ⟨v, H', J.os, J.bare, J.base, J.hok, rv, q⟩
  cases fl with
  | next =>
    obtain ⟨σ', H', J, q⟩ := out
    exact back (v := V.non) (u := Value.none) J rfl q
  | ret u =>
    obtain ⟨v, σ', H', J, rv, q⟩ := out
    exact back J rv q
  | brk =>
    obtain ⟨_, _, _, q⟩ := out
    exact False.elim q
  | cont =>
    obtain ⟨_, _, _, q⟩ := out
    exact False.elim q
section
variable {X : Cx} {CX : CXT} {k : Nat} {f : Addr} {fd : FuncData} {ps : List Str} {sp : SpP} {E : L2.St → XK} {x : Str} {q pos : Pos} {e : Expr} {es : List Expr} {t : TA}
/-- f(e, ..) within a suite whose handled error is p -/
theorem pe_callE {p : Addr × Obj} {sp2 : Sp} (imp : ∀ vs H Q E, sp2 vs H Q E → sp p vs H Q E) (F : FnE X.prog X.w X.K X.mg X.base CX k f fd ps sp) (hr : L2H.RoomH k X.A) (hot : L2H.Hot1 X.A p) (hp : p ∈ X.pn) (hg : Gl X x) (hm : X.mg x = some (.ref f)) (hk : PySem.W.keepIn X.K (.ref f) = true) (hb : Binds X.K fd ps [])
    (hx : ∀ σ, PassesAt CX X σ (E σ)) (ha : PA X (e :: es) t) (hdb : (x == ("__debug__" : Str)) = false := by decide) (he : starEach (e :: es) X.env = (false, eval e X.env) :: starEach es X.env := by rfl)
    (hpl : (backTo pos (starEach es X.env)).any (·.1) = false := by rfl) : PE X (.Call (.Name x q) (e :: es) [] pos) (tCallS sp2 E t) := by
  refine ⟨fun pins s σ H Q I h => ?_⟩
  refine wpAny_Call_Name_kw (ld_glob I hg hm ?_ hdb)
  refine PySem.W.callWith_K (h₀ := X.base) I.ok.mod.kin hk (thn (ha.run pos pins s σ H _ I h) fun us s1 ⟨vs, H1, I1, rel, told⟩ => ⟨I1.kIn, ?_⟩) he hpl
  have many : us.length = ps.length := by rw [← rel.length]; exact F.len _ _ _ _ _ (imp _ _ _ _ told)
  have binds := hb s1 us I1.kIn (by rw [List.append_nil]; exact many)
  rw [List.append_nil] at binds
  have P1 := I1.pin p (List.mem_append_left _ hp)
  have pin : L2H.PinOk X.stack H1 s1 p := ⟨P1.1, P1.2.1, fun hm => (List.mem_cons.mp (I1.stkSub p.1 hm)).elim P1.2.2.1 P1.2.2.2.1, P1.2.2.2.2⟩
  refine wpAny_call (codeAny_mono (F.run X.A X.stack s1 H1 ⟨us, []⟩ us vs Q (E σ) p hr hot pin I1.env0 binds rel (imp _ _ _ _ told)) fun r s' out => ?_)
  cases r with
  | error e => exact hx σ pins H1 s1 e s' I1 out
  | ok fl =>
    cases fl with
    | ret u => exact I1.after out
    | next => exact False.elim out
    | brk => exact False.elim out
    | cont => exact False.elim out
end

/-! ### defs that may raise, under their names; nothing is let out that is not told -/
structure CalN (P : Program) (w : World) (K : PySem.W.Frag) (mg : Str → Option Value) (base : Heap) (k : Nat) (x : Str) (sp : Sp) : Prop where
  ex : ∃ (f : Addr) (fd : FuncData) (ps : List Str), FnOk P w K mg base (L2N.CX P w) k f fd ps sp ∧ mg x = some (.ref f) ∧ PySem.W.keepIn K (.ref f) = true ∧ Binds K fd ps []
theorem passN {X : Cx} : Passes (L2N.CX X.prog X.w) X (fun _ _ _ => False) := fun _ _ _ _ _ _ _ h => by
  obtain ⟨_, _, _, _, _, _, _, _, _, _, _, _, z⟩ := h
  exact z.elim
section
variable {X : Cx} {k j : Nat} {sp : Sp} {W : WX} {x : Str} {q pos : Pos} {e : Expr} {es : List Expr} {t : TA}
theorem pe_cN (c : CalN X.prog X.w X.K X.mg X.base k x sp) (hr : Room j X.A) (hk : k ≤ j) (tk : L2N.Takes X W) (hg : Gl X x) (ha : PA X (e :: es) t)
    (hdb : (x == ("__debug__" : Str)) = false := by decide) (he : starEach (e :: es) X.env = (false, eval e X.env) :: starEach es X.env := by rfl) (hpl : (backTo pos (starEach es X.env)).any (·.1) = false := by rfl) :
    PE X (.Call (.Name x q) (e :: es) [] pos) (tCallS sp (WE W) t) := by
  obtain ⟨f, fd, ps, F, hm, kp, b⟩ := c.ex
  exact pe_callS F (hr.mono hk) hg hm kp b (fun σ => L2N.passAt tk σ) ha hdb he hpl
end
theorem takes0N {X : Cx} : L2N.Takes X (fun _ _ _ _ => False) := fun _ _ x => by
  obtain ⟨_, _, _, _, _, _, _, _, _, _, _, _, _, _, _, _, z⟩ := x
  exact z.elim
/-- behind the making of an error: what stood stands, and its dict -/
theorem made_heap {H1 : Hp} {a d C : Addr} {o1 : HO} {fs : List (Str × V)} (n : H1 a = none) (nd : d ≠ a) : upd (del (upd (upd (upd H1 a o1) d (exd d fs)) a (exo a C (some d))) a) d (.xd fs) = upd H1 d (.xd fs) := by
  funext b
  by_cases hd : b = d
  · rw [hd, upd_same, upd_same]
  · rw [upd_ne hd, upd_ne hd]
    by_cases ha : b = a
    · rw [ha, del_same, n]
    · rw [del_ne ha, upd_ne ha, upd_ne hd, upd_ne ha]
end Wk
set_option Elab.async false
set_option linter.all false
set_option maxRecDepth 100000
set_option maxHeartbeats 4000000
/-! Wk: methods and classes called with keywords; methods that may raise. -/
namespace Wk
open PySem PySem.Spec PyProof.Rows L2
section
variable {X : Cx} {CX : CXT} {k n : Nat} {f C : Addr} {fd : FuncData} {ps ks : List Str} {sp : Sp} {x m : Str} {p pos apos : Pos} {e o : Expr} {es : List Expr} {kws : List Keyword} {ta : TE} {t tk : TA} {g : List Value → List Value → List Value} {gV : List V → List V → List V}
theorem run_kwS {E : XK} {pins : List (Addr × Obj)} {σ : L2.St} {H : Hp} {s : Shared} {Q : VK} {us ws : List Value} {vs zs : List V} (F : FnOk X.prog X.w X.K X.mg X.base CX k f fd ps sp) (hr : Room k X.A) (hb : KBn X.K fd ps n ks g gV) (hx : PassesAt CX X σ E)
    (I : Inv X pins σ H s) (r : Vals vs us) (rz : Vals zs ws) (l1 : vs.length = n) (l2 : zs.length = ks.length) (h : sp (gV vs zs) H Q E) : wpAny (model X.prog X.w) X.A (call (.ref f) us (ks.zip ws)) (EP X pins σ Q) X.xe s := by
  have r2 := hb.rel r rz
  refine wpAny_call (codeAny_mono (F.run X.A X.stack s H ⟨us, ks.zip ws⟩ (g us ws) (gV vs zs) Q E hr I.env0 (hb.to s us ws I.kIn (r.length.symm.trans l1) (rz.length.symm.trans l2)) r2 h) fun r s' out => ?_)
  cases r with
  | error e => exact hx pins H s e s' I out
  | ok fl =>
    cases fl with
    | ret u => exact I.after out
    | next => exact False.elim out
    | brk => exact False.elim out
    | cont => exact False.elim out
/-- o.m(k = v, ..) -/
def tMethK (C : Addr) (m : Str) (n : Nat) (sp : Sp) (gV : List V → List V → List V) (E : L2.St → XK) (ta : TE) (tk : TA) : TE := fun σ H Q => ta σ H fun x H1 => ∃ a dx fs, x = .ref a ∧ H1 a = some (.ins C dx fs) ∧ fs.lookup m = none ∧ tk σ H1 fun zs H2 => zs.length = n ∧ sp (gV [x] zs) H2 Q (E σ)
theorem pe_methK {E : L2.St → XK} {pl : Sem Bool} (he : PE X o ta) (c : Cls X.K C) (hm : Meth X.K C m f) (F : FnOk X.prog X.w X.K X.mg X.base CX k f fd ps sp) (hr : Room k X.A) (hb : KBn X.K fd ps 1 ks g gV) (hx : ∀ σ, PassesAt CX X σ (E σ)) (hkw : PK X kws tk)
    (hall : (backToKw pos (keywordEach kws X.env)).all (·.1.isSome) = true := by rfl) (hks : (backToKw pos (keywordEach kws X.env)).filterMap (·.1) = ks := by rfl)
    (hpl : ((backTo pos (starEach [] X.env)).any (·.1) || (backToKw pos (keywordEach kws X.env)).any (·.1.isNone)) = false := by rfl)
    (ht : eval (.Call (.Attribute o m apos) [] kws pos) X.env = (do
      let ov ← eval o X.env
      standAt apos.atName
      let (f, first) ← holding [ov] (getMethod ov m pl)
      callWith pos f first (backTo pos (starEach [] X.env)) (backToKw pos (keywordEach kws X.env))) := by rfl) :
    PE X (.Call (.Attribute o m apos) [] kws pos) (tMethK C m ks.length sp gV E ta tk) := by
  refine ⟨fun pins s σ H Q I h => ?_⟩
  refine PySem.W.methodCall_KW (pl := pl) (thn (he.run pins s σ H _ I h) fun u s1 ⟨x, H1, I1, rx, a, dx, fs, ex, ea, l, q⟩ => ?_) ht
  subst ex
  obtain rfl : u = Value.ref a := rx
  refine getmeth_ok I1 ea c hm l ?_
  refine PySem.W.callWith_KW0 (first := [.ref a]) (h₀ := X.base) I.ok.mod.kin hm.kp hall ?_ hpl
  refine thn (hkw.run pos pins s1 σ H1 _ I1 q) fun ws s2 ⟨zs, H2, I2, rz, l2, q2⟩ => ⟨I2.kIn, ?_⟩
  rw [hks]
  exact run_kwS (us := [.ref a]) (vs := [.ref a]) F hr hb (hx σ) I2 (.cons rfl .nil) rz rfl l2 q2
/-- o.m(e, ..) that may raise -/
def tMethE (C : Addr) (m : Str) (sp : Sp) (E : L2.St → XK) (ta : TE) (t : TA) : TE := fun σ H Q => ta σ H fun x H1 => ∃ a dx fs, x = .ref a ∧ H1 a = some (.ins C dx fs) ∧ fs.lookup m = none ∧ t σ H1 fun vs H2 => sp (x :: vs) H2 Q (E σ)
theorem pe_methE {E : L2.St → XK} {pl : Sem Bool} (he : PE X o ta) (c : Cls X.K C) (hm : Meth X.K C m f) (F : FnOk X.prog X.w X.K X.mg X.base CX k f fd ps sp) (hr : Room k X.A) (hb : Binds X.K fd ps []) (hx : ∀ σ, PassesAt CX X σ (E σ)) (ha : PA X (e :: es) t)
    (hst : starEach (e :: es) X.env = (false, eval e X.env) :: starEach es X.env := by rfl) (hpl : (backTo pos (starEach es X.env)).any (·.1) = false := by rfl)
    (ht : eval (.Call (.Attribute o m apos) (e :: es) [] pos) X.env = (do
      let ov ← eval o X.env
      standAt apos.atName
      let (f, first) ← holding [ov] (getMethod ov m pl)
      callWith pos f first (backTo pos (starEach (e :: es) X.env)) (backToKw pos (keywordEach [] X.env))) := by rfl) :
    PE X (.Call (.Attribute o m apos) (e :: es) [] pos) (tMethE C m sp E ta t) := by
  refine ⟨fun pins s σ H Q I h => ?_⟩
  refine PySem.W.methodCall_KW (pl := pl) (thn (he.run pins s σ H _ I h) fun u s1 ⟨x, H1, I1, rx, a, dx, fs, ex, ea, l, q⟩ => ?_) ht
  subst ex
  obtain rfl : u = Value.ref a := rx
  refine getmeth_ok I1 ea c hm l ?_
  refine PySem.W.callWith_K (first := [.ref a]) (h₀ := X.base) I.ok.mod.kin hm.kp (thn (ha.run pos pins s1 σ H1 _ I1 q) fun us s2 ⟨vs, H2, I2, r, q2⟩ => ⟨I2.kIn, ?_⟩) hst hpl
  exact run_fnS (us := .ref a :: us) (vs := .ref a :: vs) F hr hb (hx σ) I2 (.cons rfl r) q2
end
/-- no defaults: the values in the order of the parameters -/
theorem kbn0 {K : PySem.W.Frag} {x qual : Str} {params : Arguments} {body : List Stmt} {scope : Scope} {f : Addr} {fd : FuncData} {ps ks : List Str} {n : Nat} {g : List Value → List Value → List Value} {gV : List V → List V → List V} (F : FunD K x qual params body scope [] [] f fd)
    (hrel : ∀ {vs : List V} {us : List Value} {zs : List V} {ws : List Value}, Vals vs us → Vals zs ws → Vals (gV vs zs) (g us ws))
    (h : ∀ (kV doc pm : Value) (an : Option Addr) (cdv ct : Value) (us ws : List Value), us.length = n → ws.length = ks.length → bindArgs (PySem.W.fnOf x qual params body scope .none kV doc pm an cdv ct) ⟨us, ks.zip ws⟩ = pure (ps.zip (g us ws))) : KBn K fd ps n ks g gV := by
  obtain ⟨oc, od, dV, kV, doc, pm, an, cdv, ct, osl, rfl, lk, hcd, hD, hK⟩ := F.ex
  rcases hD with ⟨_, rfl⟩ | ⟨e, _⟩
  · exact ⟨fun s us ws _ l1 l2 => .of_eq (h kV doc pm an cdv ct us ws l1 l2), fun r1 r2 => hrel r1 r2⟩
  · exact absurd rfl e
/-! ### under their names -/
/-- a method called with keywords alone -/
structure MetK (P : Program) (w : World) (K : PySem.W.Frag) (mg : Str → Option Value) (base : Heap) (k : Nat) (C : Addr) (m : Str) (sp : Sp) (ks : List Str) (gV : List V → List V → List V) : Prop where
  ex : ∃ (f : Addr) (fd : FuncData) (ps : List Str) (g : List Value → List Value → List Value), Cls K C ∧ Meth K C m f ∧ FnOk P w K mg base C8.CX0 k f fd ps sp ∧ KBn K fd ps 1 ks g gV
/-- a method that may raise, called by place and with keywords -/
structure MetN (P : Program) (w : World) (K : PySem.W.Frag) (mg : Str → Option Value) (base : Heap) (k : Nat) (C : Addr) (m : Str) (sp : Sp) (ks : List Str) (gV : List V → List V → List V) : Prop where
  ex : ∃ (f : Addr) (fd : FuncData) (ps : List Str) (g : List Value → List Value → List Value), Cls K C ∧ Meth K C m f ∧ FnOk P w K mg base (L2N.CX P w) k f fd ps sp ∧ Binds K fd ps [] ∧ KBn K fd ps 1 ks g gV
/-- a class called with keywords alone -/
structure MakK (P : Program) (w : World) (K : PySem.W.Frag) (mg : Str → Option Value) (base : Heap) (k : Nat) (x : Str) (C : Addr) (sp : Sp) (ks : List Str) (gV : List V → List V → List V) : Prop where
  ex : ∃ (f : Addr) (fd : FuncData) (ps : List Str) (g : List Value → List Value → List Value), Mk K C f ∧ FnOk P w K mg base C8.CX0 k f fd ps sp ∧ mg x = some (.ref C) ∧ KBn K fd ps 1 ks g gV
section
variable {X : Cx} {k j : Nat} {C : Addr} {sp : Sp} {x m : Str} {p pos apos : Pos} {e o : Expr} {es : List Expr} {kws : List Keyword} {ta : TE} {t tk : TA} {ks : List Str} {gV : List V → List V → List V} {W : WX}
theorem pe_mtK {pl : Sem Bool} (c : MetK X.prog X.w X.K X.mg X.base k C m sp ks gV) (hr : Room j X.A) (hk : k ≤ j) (he : PE X o ta) (hkw : PK X kws tk)
    (hall : (backToKw pos (keywordEach kws X.env)).all (·.1.isSome) = true := by rfl) (hks : (backToKw pos (keywordEach kws X.env)).filterMap (·.1) = ks := by rfl)
    (hpl : ((backTo pos (starEach [] X.env)).any (·.1) || (backToKw pos (keywordEach kws X.env)).any (·.1.isNone)) = false := by rfl)
    (ht : eval (.Call (.Attribute o m apos) [] kws pos) X.env = (do
      let ov ← eval o X.env
      standAt apos.atName
      let (f, first) ← holding [ov] (getMethod ov m pl)
      callWith pos f first (backTo pos (starEach [] X.env)) (backToKw pos (keywordEach kws X.env))) := by rfl) :
    PE X (.Call (.Attribute o m apos) [] kws pos) (tMethK C m ks.length sp gV (fun _ => C8.E0) ta tk) := by
  obtain ⟨f, fd, ps, g, hc, hm, F, b⟩ := c.ex
  exact pe_methK he hc hm F (hr.mono hk) b (fun σ pins H s e s' I c => C8.pass0 (X := X) pins σ H s e s' I c) hkw hall hks hpl ht
theorem pe_mtKN {pl : Sem Bool} (c : MetN X.prog X.w X.K X.mg X.base k C m sp ks gV) (hr : Room j X.A) (hk : k ≤ j) (tk' : L2N.Takes X W) (he : PE X o ta) (hkw : PK X kws tk)
    (hall : (backToKw pos (keywordEach kws X.env)).all (·.1.isSome) = true := by rfl) (hks : (backToKw pos (keywordEach kws X.env)).filterMap (·.1) = ks := by rfl)
    (hpl : ((backTo pos (starEach [] X.env)).any (·.1) || (backToKw pos (keywordEach kws X.env)).any (·.1.isNone)) = false := by rfl)
    (ht : eval (.Call (.Attribute o m apos) [] kws pos) X.env = (do
      let ov ← eval o X.env
      standAt apos.atName
      let (f, first) ← holding [ov] (getMethod ov m pl)
      callWith pos f first (backTo pos (starEach [] X.env)) (backToKw pos (keywordEach kws X.env))) := by rfl) :
    PE X (.Call (.Attribute o m apos) [] kws pos) (tMethK C m ks.length sp gV (WE W) ta tk) := by
  obtain ⟨f, fd, ps, g, hc, hm, F, _, b⟩ := c.ex
  exact pe_methK he hc hm F (hr.mono hk) b (fun σ => L2N.passAt tk' σ) hkw hall hks hpl ht
theorem pe_mtN {pl : Sem Bool} (c : MetN X.prog X.w X.K X.mg X.base k C m sp ks gV) (hr : Room j X.A) (hk : k ≤ j) (tk' : L2N.Takes X W) (he : PE X o ta) (ha : PA X (e :: es) t)
    (hst : starEach (e :: es) X.env = (false, eval e X.env) :: starEach es X.env := by rfl) (hpl : (backTo pos (starEach es X.env)).any (·.1) = false := by rfl)
    (ht : eval (.Call (.Attribute o m apos) (e :: es) [] pos) X.env = (do
      let ov ← eval o X.env
      standAt apos.atName
      let (f, first) ← holding [ov] (getMethod ov m pl)
      callWith pos f first (backTo pos (starEach (e :: es) X.env)) (backToKw pos (keywordEach [] X.env))) := by rfl) :
    PE X (.Call (.Attribute o m apos) (e :: es) [] pos) (tMethE C m sp (WE W) ta t) := by
  obtain ⟨f, fd, ps, g, hc, hm, F, b, _⟩ := c.ex
  exact pe_methE he hc hm F (hr.mono hk) b (fun σ => L2N.passAt tk' σ) ha hst hpl ht
theorem pe_mkK (c : MakK X.prog X.w X.K X.mg X.base k x C sp ks gV) (hr : Room j X.A) (hk : k + 1 ≤ j) (hg : Gl X x) (hkw : PK X kws tk)
    (hall : (backToKw pos (keywordEach kws X.env)).all (·.1.isSome) = true := by rfl) (hks : (backToKw pos (keywordEach kws X.env)).filterMap (·.1) = ks := by rfl) (hdb : (x == ("__debug__" : Str)) = false := by decide)
    (hpl : ((backTo pos (starEach [] X.env)).any (·.1) || (backToKw pos (keywordEach kws X.env)).any (·.1.isNone)) = false := by rfl) :
    PE X (.Call (.Name x p) [] kws pos) (tMakeK C 0 ks.length sp gV C8.E0 tNil tk) := by
  obtain ⟨f, fd, ps, g, M, F, hm, b⟩ := c.ex
  exact pe_makeK0 M F (hr.mono hk) hg hm b C8.pass0 hkw hall hks hdb hpl
end
end Wk
set_option Elab.async false
set_option linter.all false
set_option maxRecDepth 100000
set_option maxHeartbeats 4000000
/-! Wk: defs with keyword-only parameters: their defaults, their names, and what they raise. -/
namespace Wk
open PySem PySem.Spec PyProof.Rows L2
/-- f(e, .., k = v, ..) that may raise -/
def tCallNS (n m : Nat) (sp : Sp) (gV : List V → List V → List V) (E : L2.St → XK) (t tk : TA) : TE := fun σ H Q => t σ H fun vs H1 => tk σ H1 fun zs H2 => vs.length = n ∧ zs.length = m ∧ sp (gV vs zs) H2 Q (E σ)
/-- a def that may raise, called by place and with keywords -/
structure CalKN (P : Program) (w : World) (K : PySem.W.Frag) (mg : Str → Option Value) (base : Heap) (k : Nat) (x : Str) (sp : Sp) (n : Nat) (ks : List Str) (gV : List V → List V → List V) : Prop where
  ex : ∃ (f : Addr) (fd : FuncData) (ps : List Str) (g : List Value → List Value → List Value), FnOk P w K mg base (L2N.CX P w) k f fd ps sp ∧ mg x = some (.ref f) ∧ PySem.W.keepIn K (.ref f) = true ∧ KBn K fd ps n ks g gV
section
variable {X : Cx} {k j n : Nat} {sp : Sp} {x : Str} {p pos : Pos} {e : Expr} {es : List Expr} {kws : List Keyword} {t tk : TA} {ks : List Str} {gV : List V → List V → List V} {W : WX}
theorem pe_ckpN (c : CalKN X.prog X.w X.K X.mg X.base k x sp n ks gV) (hr : Room j X.A) (hk : k ≤ j) (tk' : L2N.Takes X W) (hg : Gl X x) (ha : PA X (e :: es) t) (hkw : PK X kws tk)
    (hall : (backToKw pos (keywordEach kws X.env)).all (·.1.isSome) = true := by rfl) (hks : (backToKw pos (keywordEach kws X.env)).filterMap (·.1) = ks := by rfl)
    (hdb : (x == ("__debug__" : Str)) = false := by decide) (he : starEach (e :: es) X.env = (false, eval e X.env) :: starEach es X.env := by rfl)
    (hpl : ((backTo pos (starEach (e :: es) X.env)).any (·.1) || (backToKw pos (keywordEach kws X.env)).any (·.1.isNone)) = false := by rfl) :
    PE X (.Call (.Name x p) (e :: es) kws pos) (tCallNS n ks.length sp gV (WE W) t tk) := by
  obtain ⟨f, fd, ps, g, F, hm, kp, b⟩ := c.ex
  refine ⟨fun pins s σ H Q I h => ?_⟩
  refine wpAny_Call_Name_kw (ld_glob I hg hm ?_ hdb)
  refine PySem.W.callWith_KW (h₀ := X.base) I.ok.mod.kin kp hall (thn (ha.run pos pins s σ H _ I h) fun us s1 ⟨vs, H1, I1, r, q⟩ => ?_) hpl he
  refine thn (hkw.run pos pins s1 σ H1 _ I1 q) fun ws s2 ⟨zs, H2, I2, rz, l1, l2, q2⟩ => ⟨I2.kIn, ?_⟩
  rw [hks]
  exact run_kwS F (hr.mono hk) b (L2N.passAt tk' σ) I2 r rz l1 l2 q2
end
/-- the keyword-only parameters are all written -/
theorem kbnK {K : PySem.W.Frag} {x qual : Str} {params : Arguments} {body : List Stmt} {scope : Scope} {kwd : List (Str × V)} {f : Addr} {fd : FuncData} {ps ks : List Str} {n : Nat} {g : List Value → List Value → List Value} {gV : List V → List V → List V} (F : FunD K x qual params body scope [] kwd f fd)
    (hrel : ∀ {vs : List V} {us : List Value} {zs : List V} {ws : List Value}, Vals vs us → Vals zs ws → Vals (gV vs zs) (g us ws))
    (h : ∀ (kV doc pm : Value) (an : Option Addr) (cdv ct : Value) (us ws : List Value), us.length = n → ws.length = ks.length → bindArgs (PySem.W.fnOf x qual params body scope .none kV doc pm an cdv ct) ⟨us, ks.zip ws⟩ = pure (ps.zip (g us ws))) : KBn K fd ps n ks g gV := by
  obtain ⟨oc, od, dV, kV, doc, pm, an, cdv, ct, osl, rfl, lk, hcd, hD, hK⟩ := F.ex
  rcases hD with ⟨_, rfl⟩ | ⟨e, _⟩
  · exact ⟨fun s us ws _ l1 l2 => .of_eq (h kV doc pm an cdv ct us ws l1 l2), fun r1 r2 => hrel r1 r2⟩
  · exact absurd rfl e
section
variable {P : Program} {w : World} {K : PySem.W.Frag} {mg : Str → Option Value} {base : Heap}
/-- called by place alone: the keyword-only parameters have their defaults -/
theorem mkD0 {x : Str} {st : Stmt} {N ps : List Str} {kwd : List (Str × V)} {k n : Nat} {sp : Sp} (d : DefKw K mg x st kwd) (S : FnScope N ps (defScope st)) (hk : kwd ≠ []) (hn : n + kwd.length = ps.length)
    (hb : ∀ (D : Addr) (doc pm : Value) (an : Option Addr) (cdv ct : Value) (us ks : List Value), us.length = n → ks.length = kwd.length →
      KwChain D ((kwd.map (·.1)).zip ks) (bindArgs (PySem.W.fnOf x x (defArgs st) (defBody st) (defScope st) .none (.ref D) doc pm an cdv ct) ⟨us, []⟩) (ps.zip (us ++ ks)))
    (len : ∀ vs H Q E, sp vs H Q E → vs.length = ps.length)
    (body : ∀ (f : Addr) (cdv : Value) (A : Around) (outer : List Env) (s : Shared) (H : Hp) (vs : List V) (Q : VK) (E : XK), Room k (A.deeper (envOfC x (defScope st) s.heap.objs.size f cdv)) → sp vs H Q E →
      ∃ t, PSs (cxOf C8.CX0 P w K mg base N x (defScope st) f cdv A outer s H E).nox (defBody st) t ∧ t { nx := fun _ H' => Q .non H', rt := Q } (start N vs) H) : C8.Cal P w K mg base (k + 1) x sp (kwd.map (·.2)) := by
  obtain ⟨f, fd, F, hm⟩ := d
  obtain ⟨ds, r, b⟩ := F.binds0 n hk hn hb
  exact ⟨f, fd, ps, ds, F.ok S len (fun cdv A outer s H vs Q E hr hsp => let ⟨t, h, q⟩ := body f cdv A outer s H vs Q E hr hsp; ⟨t, h.nox, q⟩), hm, F.kp, b, r⟩
/-- called with names for all that is written by name -/
theorem mkKg {x : Str} {st : Stmt} {N ps ks : List Str} {kwd : List (Str × V)} {k n : Nat} {sp : Sp} (d : DefKw K mg x st kwd) (S : FnScope N ps (defScope st)) (g : {α : Type} → List α → List α → List α)
    (hrel : ∀ {vs : List V} {us : List Value} {zs : List V} {ws : List Value}, Vals vs us → Vals zs ws → Vals (g vs zs) (g us ws))
    (hb : ∀ (kV doc pm : Value) (an : Option Addr) (cdv ct : Value) (us ws : List Value), us.length = n → ws.length = ks.length → bindArgs (PySem.W.fnOf x x (defArgs st) (defBody st) (defScope st) .none kV doc pm an cdv ct) ⟨us, ks.zip ws⟩ = pure (ps.zip (g us ws)))
    (len : ∀ vs H Q E, sp vs H Q E → vs.length = ps.length)
    (body : ∀ (f : Addr) (cdv : Value) (A : Around) (outer : List Env) (s : Shared) (H : Hp) (vs : List V) (Q : VK) (E : XK), Room k (A.deeper (envOfC x (defScope st) s.heap.objs.size f cdv)) → sp vs H Q E →
      ∃ t, PSs (cxOf C8.CX0 P w K mg base N x (defScope st) f cdv A outer s H E).nox (defBody st) t ∧ t { nx := fun _ H' => Q .non H', rt := Q } (start N vs) H) : CalK P w K mg base (k + 1) x sp n ks (fun vs zs => g vs zs) := by
  obtain ⟨f, fd, F, hm⟩ := d
  exact ⟨f, fd, ps, fun us ws => g us ws, F.ok S len (fun cdv A outer s H vs Q E hr hsp => let ⟨t, h, q⟩ := body f cdv A outer s H vs Q E hr hsp; ⟨t, h.nox, q⟩), hm, F.kp, kbnK F hrel hb⟩
end
theorem hd_cons1 {c : Cell} {o : HO} {H : Hp} {L : List Cell} (h : Hd H L) (e : H c.1 = some o) (q : c.2 o) (n : ∀ d ∈ L, d.1 ≠ c.1) : Hd H (c :: L) := ⟨List.nodup_cons.mpr ⟨fun z => by
  obtain ⟨d, hd, e⟩ := List.mem_map.mp z
  exact n d hd e, h.nd⟩, fun d hd => by
  rcases List.mem_cons.mp hd with rfl | hd
  · exact ⟨o, e, q⟩
  · exact h.at_ d hd⟩
/-! ### steps -/
section
variable {K : PySem.W.Frag} {σ : L2.St} {H : Hp} {Q : VK} {L M : List Cell} {p : Addr} {xs : List V}
theorem w_callNS {n m : Nat} {sp : Sp} {gV : List V → List V → List V} {E : L2.St → XK} {t tk : TA} (h : t σ H fun vs H1 => tk σ H1 fun zs H2 => vs.length = n ∧ zs.length = m ∧ sp (gV vs zs) H2 Q (E σ)) : tCallNS n m sp gV E t tk σ H Q := h
theorem w_callS {sp : Sp} {E : L2.St → XK} {t : TA} (h : t σ H fun vs H1 => sp vs H1 Q (E σ)) : tCallS sp E t σ H Q := h
theorem g_clear (hh : Hd H L) (k : Pk L (lstC p xs) M) (q : ∀ H2, Hd H2 (lstC p [] :: M) → Q .non H2) : rClear (.ref p) [] H Q := ⟨p, xs, rfl, rfl, (hh.pk k).lst (List.mem_cons_self ..), q _ (hh.chgL k Chg.of)⟩
end
end Wk
set_option Elab.async false
set_option linter.all false
set_option maxRecDepth 100000
set_option maxHeartbeats 4000000
/-! Wk: comprehensions with a test, over enumerate; cells that are told by a list. -/
namespace Wk
open PySem PySem.Spec PyProof.Rows L2
/-! ### comprehensions -/
def KLcE (K : PySem.W.Frag) (g : TG) (tt : TT) (te : TE) (us : List Nat) (σ : L2.St) (Q : VK) (vs : List V) (H : Hp) : Prop := ∃ a xs, vs = [.ref a] ∧ SqL K H a xs ∧ KLc (Ite K a) g tt te us σ H Q
section
variable {K : PySem.W.Frag} {σ : L2.St} {H : Hp} {Q : VK} {L : List Cell} {te tl : TE} {ta : TA} {tt : TT} {g : TG} {us : List Nat} {n m : Nat} {j : Int} {a : Addr} {xs : List V}
theorem w_lcE (h : ta σ H fun vs H1 => KLcE K g tt te us σ Q vs H1) : tLc (iEnum K ta) g tt te us σ H Q := h
theorem set2_none {n m : Nat} {x y : Option V} (h : n ≠ m) : ((((((σ.set m none).set n none).set n x).set m y).set m none).set n none) = (σ.set m none).set n none := by
  refine List.ext_getElem? fun k => ?_
  simp only [List.getElem?_set, List.length_set]
  split <;> split <;> simp_all
/-- [e for i, x in enumerate(xs) if t] -/
theorem lc_E (hnm : n ≠ m) (h : SqL K H a xs) (Pv : Nat → Addr → Hp → Prop) (h0 : ∀ D H1, New H H1 D (.lst []) → Pv 0 D H1) (hl : ∀ i D H, i ≤ xs.length → Pv i D H → SqL K H a xs)
    (hs : ∀ (i : Nat) x D H H', xs[i]? = some x → Pv i D H → Upt [] H H' → tt ((((σ.set m none).set n none).set n (some (.int (i : Int)))).set m (some x)) H' fun b H3 =>
      if b = true then te ((((σ.set m none).set n none).set n (some (.int (i : Int)))).set m (some x)) H3 (KApp D (Pv (i + 1) D)) else Pv (i + 1) D H3)
    (hd : ∀ D H, Pv xs.length D H → Q (.ref D) H) : KLcE K (gTup K 2 (gCons (gName n) (gCons (gName m) gNil))) tt te [n, m] σ Q [.ref a] H := by
  refine ⟨a, xs, rfl, h, fun D hD => ?_⟩
  refine lc_it walk_enum (fun i H => Pv i D H) (h0 D _ (New.of hD)) (fun i H hi p => hl i D H hi p) (fun i x H H' hi p y => ?_) fun H p => hd D H p
  obtain ⟨T, u, v, rfl, hT, rfl, hu, hv⟩ := y
  cases hu
  have nw := New.of (H := H) (o := HO.tup [V.int (i : Int), v]) hT
  refine w_gtup (SqT.of nw.at_) rfl ?_
  refine w_gcons (w_gname (w_gcons (w_gname (w_gnil ⟨?_, ?_⟩))))
  · exact set2_none hnm
  · exact hs i v D H _ hv p nw.keep
/-- [e for k in range(m) if t] -/
theorem lc_RF (hj : j = (m : Int)) (hb : m ≤ 1000000) (Pv : Nat → Addr → Hp → Prop) (h0 : ∀ D H1, New H H1 D (.lst []) → Pv 0 D H1)
    (hs : ∀ (i : Nat) D H, i < m → Pv i D H → tt ((σ.set n none).set n (some (.int (i : Int)))) H fun b H3 => if b = true then te ((σ.set n none).set n (some (.int (i : Int)))) H3 (KApp D (Pv (i + 1) D)) else Pv (i + 1) D H3)
    (hd : ∀ D H, Pv m D H → Q (.ref D) H) : KLcR (gName n) tt te [n] σ Q [.int j] H := by
  subst hj
  refine ⟨(m : Int), rfl, by omega, by omega, fun D hD => ?_⟩
  rw [show ((m : Int)).toNat = m by simp]
  refine lc_it (walk_range (lo := 0) (n := m)) (fun i H => Pv i D H) (h0 D _ (New.of hD)) (fun _ _ _ _ => trivial) (fun i x H H' hi p y => ?_) fun H p => hd D H p
  obtain ⟨rfl, rfl⟩ := y
  simp only [Int.zero_add]
  refine w_gname ⟨?_, hs i D _ hi p⟩
  show List.set (List.set (List.set σ n none) n (some (V.int (i : Int)))) n none = List.set σ n none
  simp
/-- [e for x in xs if t] -/
theorem lc_LF (h : SqL K H a xs) (Pv : Nat → Addr → Hp → Prop) (h0 : ∀ D H1, New H H1 D (.lst []) → Pv 0 D H1) (hl : ∀ i D H, i ≤ xs.length → Pv i D H → SqL K H a xs)
    (hs : ∀ (i : Nat) x D H, xs[i]? = some x → Pv i D H → tt ((σ.set n none).set n (some x)) H fun b H3 => if b = true then te ((σ.set n none).set n (some x)) H3 (KApp D (Pv (i + 1) D)) else Pv (i + 1) D H3)
    (hd : ∀ D H, Pv xs.length D H → Q (.ref D) H) : KLcL K (gName n) tt te [n] σ Q (.ref a) H := by
  refine ⟨a, rfl, ⟨xs, h⟩, fun D hD => ?_⟩
  refine lc_it walk_list (fun i H => Pv i D H) (h0 D _ (New.of hD)) (fun i H hi p => hl i D H hi p) (fun i x H H' hi p y => ?_) fun H p => hd D H p
  obtain ⟨rfl, hx⟩ := y
  refine w_gname ⟨?_, hs i x D _ hx p⟩
  show List.set (List.set (List.set σ n none) n (some x)) n none = List.set σ n none
  simp
theorem g_lcE (hh : Hd H L) (hnm : n ≠ m) (h : SqL K H a xs) (Pv : Nat → Addr → Hp → Prop) (h0 : ∀ D H1, Hd H1 (lstC D [] :: L) → Pv 0 D H1) (hl : ∀ i D H, i ≤ xs.length → Pv i D H → SqL K H a xs)
    (hs : ∀ (i : Nat) x D H H', xs[i]? = some x → Pv i D H → Upt [] H H' → tt ((((σ.set m none).set n none).set n (some (.int (i : Int)))).set m (some x)) H' fun b H3 =>
      if b = true then te ((((σ.set m none).set n none).set n (some (.int (i : Int)))).set m (some x)) H3 (KApp D (Pv (i + 1) D)) else Pv (i + 1) D H3)
    (hd : ∀ D H, Pv xs.length D H → Q (.ref D) H) : KLcE K (gTup K 2 (gCons (gName n) (gCons (gName m) gNil))) tt te [n, m] σ Q [.ref a] H := lc_E hnm h Pv (fun D H1 nn => h0 D H1 (hh.newL nn)) hl hs hd
theorem g_lcRF (hh : Hd H L) (hj : j = (m : Int)) (hb : m ≤ 1000000) (Pv : Nat → Addr → Hp → Prop) (h0 : ∀ D H1, Hd H1 (lstC D [] :: L) → Pv 0 D H1)
    (hs : ∀ (i : Nat) D H, i < m → Pv i D H → tt ((σ.set n none).set n (some (.int (i : Int)))) H fun b H3 => if b = true then te ((σ.set n none).set n (some (.int (i : Int)))) H3 (KApp D (Pv (i + 1) D)) else Pv (i + 1) D H3)
    (hd : ∀ D H, Pv m D H → Q (.ref D) H) : KLcR (gName n) tt te [n] σ Q [.int j] H := lc_RF hj hb Pv (fun D H1 nn => h0 D H1 (hh.newL nn)) hs hd
theorem g_lcLF (hh : Hd H L) (h : SqL K H a xs) (Pv : Nat → Addr → Hp → Prop) (h0 : ∀ D H1, Hd H1 (lstC D [] :: L) → Pv 0 D H1) (hl : ∀ i D H, i ≤ xs.length → Pv i D H → SqL K H a xs)
    (hs : ∀ (i : Nat) x D H, xs[i]? = some x → Pv i D H → tt ((σ.set n none).set n (some x)) H fun b H3 => if b = true then te ((σ.set n none).set n (some x)) H3 (KApp D (Pv (i + 1) D)) else Pv (i + 1) D H3)
    (hd : ∀ D H, Pv xs.length D H → Q (.ref D) H) : KLcL K (gName n) tt te [n] σ Q (.ref a) H := lc_LF h Pv (fun D H1 nn => h0 D H1 (hh.newL nn)) hl hs hd
end
/-! ### cells that are told by a list -/
theorem Hd.subl {H : Hp} {L A : List Cell} (h : Hd H L) (s : List.Sublist A L) : Hd H A := ⟨(s.map Prod.fst).nodup h.nd, fun c hc => h.at_ c (s.subset hc)⟩
/-- the page of a slot: its list's place and its words -/
abbrev Pg := Option (Addr × List Int)
def pgV : Pg → V
  | none => .non
  | some p => .ref p.1
def pgK : Pg → List Cell
  | none => []
  | some p => [lstC p.1 (p.2.map V.int)]
def pgC (ps : List Pg) : List Cell := ps.flatMap pgK
theorem pgC_perm : ∀ {ps : List Pg} {i : Nat} (p : Pg), i < ps.length → (pgC (ps.set i p)).Perm (pgK p ++ pgC (ps.set i none))
  | q :: ps, 0, p, _ => by
    show (pgK p ++ pgC ps).Perm (pgK p ++ ([] ++ pgC ps))
    exact List.Perm.refl _
  | q :: ps, i + 1, p, h => by
    have ih := pgC_perm (ps := ps) (i := i) p (by simpa using h)
    show (pgK q ++ pgC (ps.set i p)).Perm (pgK p ++ (pgK q ++ pgC (ps.set i none)))
    refine (List.Perm.append_left _ ih).trans ?_
    rw [← List.append_assoc, ← List.append_assoc]
    exact List.Perm.append_right _ List.perm_append_comm
theorem pgC_none : ∀ {ps : List Pg} {i : Nat}, List.Sublist (pgC (ps.set i none)) (pgC ps)
  | [], _ => List.Sublist.refl _
  | q :: ps, 0 => List.sublist_append_right (pgK q) (pgC ps)
  | q :: ps, i + 1 => by
    show List.Sublist (pgK q ++ pgC (ps.set i none)) (pgK q ++ pgC ps)
    exact List.Sublist.append (List.Sublist.refl _) pgC_none
theorem pgC_mem {ps : List Pg} {i : Nat} {a : Addr} {ws : List Int} (h : ps[i]? = some (some (a, ws))) : lstC a (ws.map V.int) ∈ pgC ps :=
  List.mem_flatMap.mpr ⟨some (a, ws), List.mem_of_getElem? h, List.mem_singleton.mpr rfl⟩
section
variable {H H' : Hp} {L R : List Cell} {ps : List Pg} {i : Nat} {a : Addr} {ws vs : List Int}
/-- a new page stands in slot i -/
theorem Hd.pgNew (h : Hd H (lstC a (ws.map V.int) :: (pgC ps ++ R))) (hi : i < ps.length) : Hd H (pgC (ps.set i (some (a, ws))) ++ R) := by
  refine Hd.perm (Hd.subl h (List.Sublist.cons₂ _ (List.Sublist.append (pgC_none (i := i)) (List.Sublist.refl R)))) ?_
  exact ((pgC_perm (some (a, ws)) hi).append_right R).symm
/-- the page of slot i, by itself -/
theorem Hd.pgGet (h : Hd H (pgC ps ++ R)) (hp : ps[i]? = some (some (a, ws))) : Hd H (lstC a (ws.map V.int) :: (pgC (ps.set i none) ++ R)) := by
  have hi := (List.getElem?_eq_some_iff.mp hp).1
  have e : ps.set i (some (a, ws)) = ps := by
    obtain ⟨_, e⟩ := List.getElem?_eq_some_iff.mp hp
    rw [← e, List.set_getElem_self]
  have h2 : Hd H (pgC (ps.set i (some (a, ws))) ++ R) := by rw [e]; exact h
  exact Hd.perm h2 ((pgC_perm (some (a, ws)) hi).append_right R)
theorem Hd.pgPut (h : Hd H (lstC a (ws.map V.int) :: (pgC (ps.set i none) ++ R))) (hi : i < ps.length) : Hd H (pgC (ps.set i (some (a, ws))) ++ R) :=
  Hd.perm h ((pgC_perm (some (a, ws)) hi).append_right R).symm
end
end Wk
set_option Elab.async false
set_option linter.all false
set_option maxRecDepth 100000
set_option maxHeartbeats 4000000
/-! Wk: a def that may raise, called by keywords alone. -/
namespace Wk
open PySem PySem.Spec PyProof.Rows L2
def tCallKS (m : Nat) (sp : Sp) (gV : List V → List V → List V) (E : L2.St → XK) (tk : TA) : TE := fun σ H Q => tk σ H fun zs H2 => zs.length = m ∧ sp (gV [] zs) H2 Q (E σ)
section
variable {X : Cx} {k j : Nat} {sp : Sp} {x : Str} {p pos : Pos} {kws : List Keyword} {tk : TA} {ks : List Str} {gV : List V → List V → List V} {W : WX}
theorem pe_ckN (c : CalKN X.prog X.w X.K X.mg X.base k x sp 0 ks gV) (hr : Room j X.A) (hk : k ≤ j) (tk' : L2N.Takes X W) (hg : Gl X x) (hkw : PK X kws tk)
    (hall : (backToKw pos (keywordEach kws X.env)).all (·.1.isSome) = true := by rfl) (hks : (backToKw pos (keywordEach kws X.env)).filterMap (·.1) = ks := by rfl)
    (hdb : (x == ("__debug__" : Str)) = false := by decide)
    (hpl : ((backTo pos (starEach [] X.env)).any (·.1) || (backToKw pos (keywordEach kws X.env)).any (·.1.isNone)) = false := by rfl) :
    PE X (.Call (.Name x p) [] kws pos) (tCallKS ks.length sp gV (WE W) tk) := by
  obtain ⟨f, fd, ps, g, F, hm, kp, b⟩ := c.ex
  refine ⟨fun pins s σ H Q I h => ?_⟩
  refine wpAny_Call_Name_kw (ld_glob I hg hm ?_ hdb)
  refine PySem.W.callWith_KW0 (h₀ := X.base) I.ok.mod.kin kp hall ?_ hpl
  refine thn (hkw.run pos pins s σ H _ I h) fun ws s2 ⟨zs, H2, I2, rz, l2, q2⟩ => ⟨I2.kIn, ?_⟩
  rw [hks]
  exact run_kwS F (hr.mono hk) b (L2N.passAt tk' σ) I2 .nil rz rfl l2 q2
end
end Wk
set_option Elab.async false
set_option linter.all false
set_option maxRecDepth 100000
set_option maxHeartbeats 4000000
/-! Wk: zip of a text and a tuple is made. -/
namespace Wk
open PySem PySem.Spec PyProof.Rows L2
open Sem (wp)
section
abbrev zsH1 (h : Heap) (x : Str) (t : Tok) : Heap := h.push { cls := .type (strIterType x), data := .fields #[.str x t, .int 0 0] }
abbrev zsH2 (h : Heap) (x : Str) (t : Tok) (l : Addr) : Heap := (zsH1 h x t).push { cls := .type "tuple_iterator", data := .fields #[.ref l, .int 0 0] }
abbrev zsH3 (h : Heap) (x : Str) (t : Tok) (l : Addr) : Heap := (zsH2 h x t l).push { cls := .type "tuple", data := .seq #[.ref h.objs.size, .ref (zsH1 h x t).objs.size] }
abbrev zsH4 (h : Heap) (x : Str) (t : Tok) (l : Addr) : Heap := (zsH3 h x t l).push { cls := .type "tuple", data := .seq #[.none, .none] }
abbrev zsH5 (h : Heap) (x : Str) (t : Tok) (l : Addr) : Heap := (zsH4 h x t l).push { cls := .type "zip", data := .fields #[.none, .bool false, .bool false, .ref (zsH2 h x t l).objs.size, .ref (zsH3 h x t l).objs.size] }
theorem meets_zipS_new (x : Str) (t : Tok) (l : Addr) (ys : Array Value) :
    Meets (Builtin.«zip.__new__» ⟨[.type "zip", .str x t, .ref l], []⟩) (fun _ R s => s.heap.IsTuple l ys ∧
      R (.ok (.ret (.ref (zsH4 s.heap x t l).objs.size))) { s with heap := zsH5 s.heap x t l }) :=
  .of_wp fun prog w A R s h => by
    obtain ⟨hp, g, d, tk, os⟩ := s
    obtain ⟨hl, h⟩ := h
    have hsub := sub_zip
    have hL : Heap.IsTuple (Shared.heap ⟨hp.push { cls := .type (strIterType x), data := .fields #[.str x t, .int 0 0] }, g, d, tk, os⟩) l ys := Heap.IsTuple.push hl _
    wp_walk using wpAny_pyIter_strU, wpAny_pyIter_tuple hL
    exact ⟨_, rfl, h⟩
end
end Wk
set_option Elab.async false
set_option linter.all false
set_option maxRecDepth 100000
set_option maxHeartbeats 4000000
/-! Wk: zip of a text and a tuple: a loop over it, and all(.. for a, b in zip(..)). -/
namespace Wk
open PySem PySem.Spec PyProof.Rows L2
section
variable {prog : Program} {w : World} {A : Around} {E : Value → Shared → Prop} {s : Shared}
/-- what stands when zip(text, tuple) has been made -/
structure ZipMade (h h' : Heap) (x : Str) (t : Tok) (l : Addr) : Prop where
  z : IsZip h' (h.objs.size + 4) (h.objs.size + 2) (h.objs.size + 3) .none
  TI : IsTupOf2 h' (h.objs.size + 2) (.ref h.objs.size) (.ref (h.objs.size + 1))
  TO : IsTupOf2 h' (h.objs.size + 3) .none .none
  i1 : h'.IsStrIter h.objs.size (strIterType x) x t 0
  i2 : h'.IsTupleIter (h.objs.size + 1) l 0
  size : h'.objs.size = h.objs.size + 5
  keep : ∀ c o, h.get? c = some o → h'.get? c = some o
theorem call_zipS {x : Str} {t : Tok} {l : Addr} {ys : Array Value} {Q : Value → Shared → Prop} (hl : s.heap.IsTuple l ys)
    (h : ∀ h', ZipMade s.heap h' x t l → Q (.ref (s.heap.objs.size + 4)) { s with heap := h' }) :
    wpAny (model prog w) A (call (.type "zip") [.str x t, .ref l]) Q E s := by
  refine callType_new F.called_zip (by decide) (F.typeCall_zip_2 _ _) (F.newCall_zip_2 _ _) (fun obj => F.args_object_init_3 obj _ _) F.entry_zip_new
    (meets_zipS_new x t l ys) ⟨hl, ?_⟩
  have z1 : (zsH1 s.heap x t).objs.size = s.heap.objs.size + 1 := Heap.size_push ..
  have z2 : (zsH2 s.heap x t l).objs.size = s.heap.objs.size + 2 := by rw [Heap.size_push, z1]
  have z3 : (zsH3 s.heap x t l).objs.size = s.heap.objs.size + 3 := by rw [Heap.size_push, z2]
  have z4 : (zsH4 s.heap x t l).objs.size = s.heap.objs.size + 4 := by rw [Heap.size_push, z3]
  have z5 : (zsH5 s.heap x t l).objs.size = s.heap.objs.size + 5 := by rw [Heap.size_push, z4]
  have g5 : (zsH5 s.heap x t l).get? (zsH4 s.heap x t l).objs.size = some _ := Heap.get?_push_size _ rfl
  have g4 : (zsH5 s.heap x t l).get? (zsH3 s.heap x t l).objs.size = some _ := Heap.get?_push_of_some _ (Heap.get?_push_size _ rfl)
  have g3 : (zsH5 s.heap x t l).get? (zsH2 s.heap x t l).objs.size = some _ := Heap.get?_push_of_some _ (Heap.get?_push_of_some _ (Heap.get?_push_size _ rfl))
  have g2 : (zsH5 s.heap x t l).get? (zsH1 s.heap x t).objs.size = some _ := Heap.get?_push_of_some _ (Heap.get?_push_of_some _ (Heap.get?_push_of_some _ (Heap.get?_push_size _ rfl)))
  have g1 : (zsH5 s.heap x t l).get? s.heap.objs.size = some _ := Heap.get?_push_of_some _ (Heap.get?_push_of_some _ (Heap.get?_push_of_some _ (Heap.get?_push_of_some _ (Heap.get?_push_size _ rfl))))
  show _ ∧ _
  rw [z2, z3, z4] at g5
  rw [z1, z2] at g3
  rw [z3] at g4
  rw [z1] at g2
  rw [z4]
  exact ⟨⟨_, g5, rfl⟩, h _ ⟨g5, g3, g4, ⟨_, g1, rfl, rfl⟩, ⟨_, g2, rfl, rfl⟩, z5, fun c o x =>
    Heap.get?_push_of_some _ (Heap.get?_push_of_some _ (Heap.get?_push_of_some _ (Heap.get?_push_of_some _ (Heap.get?_push_of_some _ x))))⟩⟩
end
theorem drawsStr {prog : Program} {w : World} {A : Around} (hh : A.handled = none) (it : Addr) (x : Str) (t : Tok) :
    Draws prog w A it [it] x.cps.size (fun i v => ∃ c u, x.cps[i]? = some c ∧ v = .str ⟨#[c]⟩ u) (fun i h => h.IsStrIter it (strIterType x) x t i) := by
  cases ha : x.cps.all (· < 128)
  · rw [show strIterType x = "str_iterator" by simp [strIterType, ha]]
    exact Draws.strWide hh it x t
  · rw [show strIterType x = "str_ascii_iterator" by simp [strIterType, ha]]
    exact Draws.strAscii hh it x t
theorem drawsTuple {prog : Program} {w : World} {A : Around} (hh : A.handled = none) (it l : Addr) (hne : l ≠ it) (items : Array Value) :
    Draws prog w A it [it, l] items.size (fun i v => items[i]? = some v) (fun i h => h.IsTupleIter it l i ∧ h.IsTuple l items) where
  live := fun _ _ st => let ⟨o, ho, _⟩ := st.1; ⟨o, ho⟩
  frame := fun _ _ _ st hk => ⟨st.1.at fun o e => hk it (by simp) o e, st.2.at fun o e => hk l (by simp) o e⟩
  item := fun i s Q E hi st hQ => by
    refine RZ.nextOf_tuple_item st.1 st.2 (x := items[i]) (by simp [hi]) fun h' hit' hs' => ?_
    exact hQ _ h' s.toks (by simp [hi]) ⟨hit', st.2.at fun o e => (hs'.2 l hne).trans e⟩ hs'
  done := fun s Q E st hE => RZ.nextOf_tuple_end hh st.1 st.2 (by simp) hE
theorem sep_of {n l : Addr} (h : l < n) : ZipSep2 (n + 4) (n + 2) (n + 3) n (n + 1) [n] [n + 1, l] where
  TIz := Nat.ne_of_lt (Nat.add_lt_add_left (by decide) n)
  TOz := Nat.ne_of_lt (Nat.add_lt_add_left (by decide) n)
  TITO := Nat.ne_of_lt (Nat.add_lt_add_left (by decide) n)
  TIi1 := Nat.ne_of_gt (Nat.lt_add_of_pos_right (by decide))
  mem1 := List.mem_cons_self ..
  zf1 := by
    intro z
    exact absurd (List.mem_singleton.mp z) (Nat.ne_of_gt (Nat.lt_add_of_pos_right (by decide)))
  Tf1 := by
    intro z
    exact absurd (List.mem_singleton.mp z) (Nat.ne_of_gt (Nat.lt_add_of_pos_right (by decide)))
  TIi2 := Nat.ne_of_gt (Nat.add_lt_add_left (by decide) n)
  mem2 := List.mem_cons_self ..
  zf2 := by
    intro z
    rcases List.mem_cons.mp z with z | z
    · exact absurd z (Nat.ne_of_gt (Nat.add_lt_add_left (by decide) n))
    · exact absurd (List.mem_singleton.mp z) (Nat.ne_of_gt (Nat.lt_of_lt_of_le h (Nat.le_add_right n 4)))
  Tf2 := by
    intro z
    rcases List.mem_cons.mp z with z | z
    · exact absurd z (Nat.ne_of_gt (Nat.add_lt_add_left (by decide) n))
    · exact absurd (List.mem_singleton.mp z) (Nat.ne_of_gt (Nat.lt_of_lt_of_le h (Nat.le_add_right n 3)))
  sep1_2 := by
    intro z
    rcases List.mem_cons.mp z with z | z
    · exact absurd z (Nat.ne_of_lt (Nat.lt_add_of_pos_right (by decide)))
    · exact absurd (List.mem_singleton.mp z) (Nat.ne_of_gt h)
  sep2_1 := by
    intro z
    exact absurd (List.mem_singleton.mp z) (Nat.ne_of_gt (Nat.lt_add_of_pos_right (by decide)))
/-! ### the loop -/
/-- the text x and the tuple ys at b, the items in new pairs -/
def ItzS (K : PySem.W.Frag) (x : Str) (b : Addr) (ys : List V) : It :=
  ⟨fun i H => SqT K H b ys ∧ i < x.cps.size ∧ i < ys.length,
    fun i H v H' => ∃ T c y, v = .ref T ∧ H T = none ∧ H' = upd H T (.tup [.str ⟨#[c]⟩, y]) ∧ x.cps[i]? = some c ∧ ys[i]? = some y,
    fun i H => SqT K H b ys ∧ (x.cps.size ≤ i ∨ ys.length ≤ i)⟩
theorem turn_zipS {P : Program} {w : World} {K : PySem.W.Frag} {elts : List Expr} {kk : Nat} {tpos : Pos} {x : Str} {t : Tok} {b n : Addr} {ys : List V} (hb : b < n) :
    Turn P w K (.Tuple elts kk tpos) (ItzS K x b ys) [n + 4, n + 2, n + 3, n, n + 1] (n + 4)
      (fun i h => (i ≤ x.cps.size ∧ i ≤ ys.length) ∧ IsZip h (n + 4) (n + 2) (n + 3) .none ∧ IsTupOf2 h (n + 2) (.ref n) (.ref (n + 1)) ∧ (∃ a1 a2, IsTupOf2 h (n + 3) a1 a2) ∧ h.IsStrIter n (strIterType x) x t i ∧ h.IsTupleIter (n + 1) b i) where
  mem := by simp
  obj := fun i h st c hc => by
    obtain ⟨_, hz, hTI, ⟨x, y, hTO⟩, ⟨o1, e1, _, d1⟩, ⟨o2, e2, _, d2⟩⟩ := st
    have e' : c = n + 4 ∨ c = n + 2 ∨ c = n + 3 ∨ c = n ∨ c = n + 1 := by simpa using hc
    rcases e' with q | q | q | q | q
    · rw [q]; exact ⟨_, hz, fun v q => nomatch q⟩
    · rw [q]; exact ⟨_, hTI, fun v q => nomatch q⟩
    · rw [q]; exact ⟨_, hTO, fun v q => nomatch q⟩
    · rw [q]; exact ⟨o1, e1, fun v q => by rw [d1] at q; cases q⟩
    · rw [q]; exact ⟨o2, e2, fun v q => by rw [d2] at q; cases q⟩
  keep := fun i h h' st k => by
    obtain ⟨hi, hz, hTI, ⟨a1, a2, hTO⟩, ⟨o1, e1, r1⟩, h2⟩ := st
    exact ⟨hi, k (n + 4) (by simp) _ hz, k (n + 2) (by simp) _ hTI, ⟨a1, a2, k (n + 3) (by simp) _ hTO⟩, ⟨o1, k n (by simp) _ e1, r1⟩, h2.at fun o q => k (n + 1) (by simp) o q⟩
  item := by
    intro X hP hw hK hc i pins s σ H E I hf st hg
    subst hP hw hK
    obtain ⟨_, hz, hTI, hTO, h1, h2⟩ := st
    obtain ⟨hqy, hi1, hi2⟩ := hg
    obtain ⟨its, rv, p, _⟩ := I.tuple hqy
    have hl := rv.length
    have hsz : its.toArray.size = its.length := List.size_toArray ..
    have hd := I.ok.hd hc
    have hne : b ≠ n + 1 := Nat.ne_of_lt (Nat.lt_of_lt_of_le hb (Nat.le_add_right _ 1))
    have G := GoesN.zip2 (prog := X.prog) (w := X.w) (A := X.A) (elts := elts) (x1 := kk) (pos := tpos) (sep_of hb) (drawsStr (prog := X.prog) (w := X.w) (A := X.A.in1) hd n x t) (drawsTuple (prog := X.prog) (w := X.w) (A := X.A.in1) hd (n + 1) b hne its.toArray)
    have hx := Array.getElem?_eq_getElem hi1
    have hlive : ∀ c, c ∈ [n + 4, n + 2, n + 3, n, n + 1] → c < s.heap.objs.size := fun c hcm => by
      obtain ⟨a1, a2, hTO⟩ := hTO
      have e' : c = n + 4 ∨ c = n + 2 ∨ c = n + 3 ∨ c = n ∨ c = n + 1 := by simpa using hcm
      rcases e' with q | q | q | q | q
      · rw [q]; exact Heap.lt_size hz
      · rw [q]; exact Heap.lt_size hTI
      · rw [q]; exact Heap.lt_size hTO
      · rw [q]; obtain ⟨_, e1, _⟩ := h1; exact Heap.lt_size e1
      · rw [q]; obtain ⟨_, e2, _⟩ := h2; exact Heap.lt_size e2
    refine G.goes i s (fun u s2 => ∃ x_1 H', Inv X pins σ H' s2 ∧ RelV x_1 u ∧ (ItzS X.K x b ys).yld i H x_1 H' ∧ (((i + 1) ≤ x.cps.size ∧ (i + 1) ≤ ys.length) ∧ IsZip s2.heap (n + 4) (n + 2) (n + 3) .none ∧ IsTupOf2 s2.heap (n + 2) (.ref n) (.ref (n + 1)) ∧ (∃ a1 a2, IsTupOf2 s2.heap (n + 3) a1 a2) ∧ s2.heap.IsStrIter n (strIterType x) x t (i + 1) ∧ s2.heap.IsTupleIter (n + 1) b (i + 1)) ∧ ∀ b_1 ∈ [n + 4, n + 2, n + 3, n, n + 1], H' b_1 = none) E
      (by omega) ⟨hz, hTI, hTO, h1, h2, p⟩ fun v h' tk hY st2 hk htk => ?_
    obtain ⟨T, u1, u2, rfl, hT, ⟨c, tk1, hcx, rfl⟩, hu2, hTT⟩ := hY
    obtain ⟨z', TI', TO', h1', h2', _⟩ := st2
    have hu2' : its[i]? = some u2 := by simpa using hu2
    obtain ⟨y, hy⟩ : ∃ y, ys[i]? = some y := ⟨_, List.getElem?_eq_getElem hi2⟩
    obtain ⟨u3, hu3, ru⟩ := rv.get hy
    rw [hu2'] at hu3
    cases hu3
    obtain ⟨oT, eT, cT, nT, dT⟩ := hTT
    have new : ObjOk X.prog X.w (upd H T (.tup [.str ⟨#[c]⟩, y])) h' T (.tup [.str ⟨#[c]⟩, y]) :=
      ⟨by show 2 ≤ sizeLine; decide, [.str ⟨#[c]⟩ tk1, u2], .cons ⟨_, rfl⟩ (.cons ru .nil), ⟨oT, eT, cT, nT, dT⟩⟩
    have I1 : Inv X pins σ (upd H T (.tup [.str ⟨#[c]⟩, y])) { s with heap := h', toks := tk } :=
      I.turnedNew (t' := tk) (ch := [n + 4, n + 2, n + 3, n, n + 1]) (fun c o hb q => hk c o (fun q' => hb (by
        rcases List.mem_cons.mp q' with z | q'
        · simp [z]
        rcases List.mem_cons.mp q' with z | q'
        · simp [z]
        rcases List.mem_cons.mp q' with z | q'
        · simp [z]
        · simp [List.mem_singleton.mp q'])) q) hf hT new
    refine ⟨.ref T, _, I1, rfl, ⟨_, c, y, rfl, I.hok.fresh hT, rfl, hcx, hy⟩, ⟨⟨hi1, hi2⟩, z', TI', TO', h1', h2'⟩, fun c hcm => ?_⟩
    rw [upd_ne (Nat.ne_of_lt (Nat.lt_of_lt_of_le (hlive c hcm) hT))]
    exact (hf c hcm).1
  done := by
    intro X hP hw hK hc i pins s σ H E I hf st hg
    subst hP hw hK
    obtain ⟨⟨hi1, hi2⟩, hz, hTI, ⟨a1, a2, hTO⟩, h1, h2⟩ := st
    obtain ⟨hqy, hend⟩ := hg
    obtain ⟨its, rv, p, _⟩ := I.tuple hqy
    have hl := rv.length
    have hsz : its.toArray.size = its.length := List.size_toArray ..
    have hd := I.ok.hd hc
    have hne : b ≠ n + 1 := Nat.ne_of_lt (Nat.lt_of_lt_of_le hb (Nat.le_add_right _ 1))
    refine wpAny_pyNext_zipD2_end (sep_of hb) (drawsStr (prog := X.prog) (w := X.w) (A := X.A.in1) hd n x t) (drawsTuple (prog := X.prog) (w := X.w) (A := X.A.in1) hd (n + 1) b hne its.toArray) hz hTI hTO h1 ⟨h2, p⟩ (by omega) (by omega) (by omega) fun h' tk hk => ⟨rfl, ?_⟩
    exact I.turnedL (t' := tk) (ch := [n + 4, n + 2, n + 3, n, n + 1]) (fun c o hb q =>
      hk c o (fun q' => hb (by simp [q'])) (fun q' => hb (by simp [q'])) (fun q' => hb (by simp [q'])) (fun q' => hb (by simp [q'])) q) hf
  self := fun A i s Q E st h => wpAny_pyIter_zip st.2.1 h
def iZipS (K : PySem.W.Frag) (ta : TA) : TI := fun σ H R => ta σ H fun vs H1 => ∃ x b ys, vs = [.str x, .ref b] ∧ SqT K H1 b ys ∧ R (ItzS K x b ys) H1
theorem pi_zipS {X : Cx} {e e2 : Expr} {ta : TA} {p pos tpos : Pos} {elts : List Expr} {kk : Nat} (hg : Gl X "zip") (hm : X.mg "zip" = none) (ha : PA X [e, e2] ta)
    (hs : starEach [e, e2] X.env = (false, eval e X.env) :: starEach [e2] X.env := by rfl) (hpl : (backTo pos (starEach [e2] X.env)).any (·.1) = false := by rfl) :
    PI X (.Tuple elts kk tpos) (.Call (.Name "zip" p) [e, e2] [] pos) (iZipS X.K ta) := by
  refine ⟨fun pins s σ H R I h => ?_⟩
  refine Call_ (ld_blt I hg hm PyProof.Rows.boot_zip (PyProof.Rows.callWith_type1 (thn (ha.run pos pins s σ H _ I h) fun us s1 ⟨vs, H1, I1, r1, q1⟩ => ?_) hs hpl))
  obtain ⟨x, b, ys, ex, hqy, q⟩ := q1
  subst ex
  cases r1 with
  | cons r rr =>
    cases rr with
    | cons r' rr =>
      cases rr
      obtain ⟨t, rfl⟩ := r
      cases r'
      obtain ⟨its, rv, p1, _⟩ := I1.tuple hqy
      have hlt : b < s1.heap.objs.size := let ⟨_, e1, _⟩ := id p1; Heap.lt_size e1
      refine call_zipS (show s1.heap.IsTuple b its.toArray from p1) fun h' M => wpAny_pyIter_zip M.z ?_
      have I2 : Inv X pins σ H1 { s1 with heap := h' } := I1.kept (t' := s1.toks) M.keep
      refine ⟨s1.heap.objs.size + 4, [s1.heap.objs.size + 4, s1.heap.objs.size + 2, s1.heap.objs.size + 3, s1.heap.objs.size, s1.heap.objs.size + 1], _, _, H1, rfl, I2, turn_zipS (x := x) (t := t) (ys := ys) hlt, ⟨⟨Nat.zero_le _, Nat.zero_le _⟩, M.z, M.TI, ⟨_, _, M.TO⟩, M.i1, M.i2⟩, fun c hcm => ?_, q⟩
      have e' : c = s1.heap.objs.size + 4 ∨ c = s1.heap.objs.size + 2 ∨ c = s1.heap.objs.size + 3 ∨ c = s1.heap.objs.size ∨ c = s1.heap.objs.size + 1 := by simpa using hcm
      have hle : s1.heap.objs.size ≤ c := by
        rcases e' with z | z | z | z | z
        · rw [z]; exact Nat.le_add_right _ _
        · rw [z]; exact Nat.le_add_right _ _
        · rw [z]; exact Nat.le_add_right _ _
        · rw [z]; exact Nat.le_refl _
        · rw [z]; exact Nat.le_add_right _ _
      exact I1.fpOk hle (I1.hok.fresh hle)
/-- a loop over zip of a text and a tuple of as many items -/
theorem for_zipS {K : PySem.W.Frag} {x : Str} {b : Addr} {ys : List V} {g : TG} {tb : TS} {D : Ends} {σ : L2.St} {H : Hp} (hl : x.cps.size = ys.length) (Pv : Nat → L2.St → Hp → Prop) (h0 : Pv 0 σ H) (hq : ∀ i σ H, Pv i σ H → SqT K H b ys)
    (hs : ∀ (i c : Nat) (y : V) (T : Addr) (σ : L2.St) (H : Hp), x.cps[i]? = some c → ys[i]? = some y → Pv i σ H → H T = none → g (.ref T) σ (upd H T (.tup [.str ⟨#[c]⟩, y])) fun σ2 H2 => tb { D with nx := Pv (i + 1), ct := Pv (i + 1), bk := D.nx } σ2 H2) (hd : ∀ σ H, Pv ys.length σ H → D.nx σ H) :
    ∃ W : Nat → Nat → L2.St → Hp → Prop, (∃ m, W 0 m σ H) ∧ ∀ i m σ H, W i m σ H →
      ((ItzS K x b ys).stop i H ∧ D.nx σ H) ∨ ((ItzS K x b ys).go i H ∧ ∃ N : L2.St → Hp → Prop, (∀ σ' H', N σ' H' → ∃ m', m' < m ∧ W (i + 1) m' σ' H') ∧ ∀ v H', (ItzS K x b ys).yld i H v H' → g v σ H' fun σ2 H2 => tb { D with nx := N, ct := N, bk := D.nx } σ2 H2) := by
  refine ⟨fun i m σ H => m = ys.length - i ∧ i ≤ ys.length ∧ Pv i σ H, ⟨ys.length, rfl, Nat.zero_le _, h0⟩, ?_⟩
  rintro i m σ H ⟨rfl, hi, p⟩
  have qy := hq i σ H p
  by_cases hlt : i < ys.length
  · refine .inr ⟨⟨qy, by omega, hlt⟩, Pv (i + 1), fun σ' H' p' => ⟨ys.length - (i + 1), by omega, rfl, hlt, p'⟩, fun v H' y => ?_⟩
    obtain ⟨T, c', y', rfl, hT, rfl, f1, f2⟩ := y
    exact hs i c' y' T σ H f1 f2 p hT
  · have e : i = ys.length := by omega
    subst e
    exact .inl ⟨⟨qy, Or.inr (Nat.le_refl _)⟩, hd σ H p⟩
end Wk
set_option Elab.async false
set_option linter.all false
set_option maxRecDepth 100000
set_option maxHeartbeats 4000000
/-! Wk: all(.. for a, b in zip(..)), over a text and a tuple of plain values. -/
namespace Wk
open PySem PySem.Spec PyProof.Rows L2
/-- a generator expression's scope, of two names -/
structure GenS2 (env : Env) (scope : Scope) (xa xb : Str) : Prop where
  kind : scope.kind = .function
  co : scope.isCoroutine = false
  cell : ∀ y ∈ scope.names, y.2 ≠ .cell
  dot : scope.names.lookup (".0" : Str) = some NameKind.local
  la : scope.names.lookup xa = some .local
  lb : scope.names.lookup xb = some .local
  ab : xa ≠ xb
  free : ∀ y ∈ scope.names, y.2 = .free → ∃ c, env.cells.lookup y.1 = some c
/-- the pair's test -/
def trZ (pb : Str → V → Bool) (x : Str) (l : List V) (j : Nat) : Bool := match x.cps[j]?, l[j]? with
  | some c, some v => pb ⟨#[c]⟩ v
  | _, _ => false
theorem trZ_some {pb : Str → V → Bool} {x : Str} {l : List V} {j c : Nat} {v : V} (h : x.cps[j]? = some c) (h2 : l[j]? = some v) : trZ pb x l j = pb ⟨#[c]⟩ v := by
  unfold trZ
  rw [h, h2]
def allZ (pb : Str → V → Bool) (x : Str) (l : List V) : Bool := (List.range (min x.cps.size l.length)).all (trZ pb x l)
section
variable {X : Cx} {pins : List (Addr × Obj)} {σ : L2.St} {H : Hp} {s : Shared}
def ReadyZ (X : Cx) (pins : List (Addr × Obj)) (σ : L2.St) (H1 : Hp) (P : Addr) (n : Nat) (tr : Nat → Bool) (g : Addr) (s5 : Shared) : Prop :=
  ∃ (fp wr : List Addr) (G : Array GenState → Array GenState → Prop) (F : Nat → Value → Prop) (St : Nat → Shared → Prop),
    WalksS X.prog X.w X.A.in1 g fp wr G n F St ∧ St 0 s5 ∧
    TruthOf X.prog X.w X.A.in1 F tr ∧
    ∀ s', Moved wr G s5 s' → ∃ H2, GxR.Tabbed P H1 H2 ∧ Inv X pins σ H2 s'
theorem gen_zip {c P : Addr} {elt : Expr} {xa xb : Str} {gpos : Pos} {scope : Scope} {pb : Str → V → Bool} {ok : Nat → V → Prop} {k n : Nat} {Q' : Value → Shared → Prop} {x : Str} {its : List Value} {xs : List V} {s1 : Shared} {H1 : Hp} {ps : Array Value} {h2 : Heap} {I : Addr} {fp wr : List Addr} {Pt : Nat → Array Value → Prop} {St0 : Nat → Heap → Prop} {Mid : Nat → Addr → Heap → Prop}
    (hr : Room k X.A) (TB : GxR.TabB X.base X.mg c P) (hcode : X.env.code = .ref c) (S : GenS2 X.env scope xa xb)
    (hel : Mod X.K X.mg X.base → ∀ (cenv : Env) (G : Pins) (c : Nat) (v : V) (t : String), RC scope cenv → KV G v t → ok c v → RE X.prog X.w X.base (X.A.depth + 1) cenv [(xa, .str ⟨#[c]⟩), (xb, v)] G elt (.bl (pb ⟨#[c]⟩ v)))
    (I1 : Inv X pins σ H1 s1) (hP : H1 P = some (.tbl ps)) (ht : TriplesOk ps.toList) (hxs : ∀ v ∈ xs, ∃ t, KH X.K H1 v t) (rv : Vals xs its) (hn : n = min x.cps.size xs.length) (hok : ∀ (i c : Nat) (v : V), x.cps[i]? = some c → xs[i]? = some v → ok c v)
    (hk2 : ∀ b o, s1.heap.get? b = some o → h2.get? b = some o) (lim2 : h2.NoLimit) (W0 : ∀ A' : Around, A'.handled = none → WalksU X.prog X.w A' I fp wr n Pt St0 Mid) (hst0 : St0 0 h2)
    (hPt : ∀ i vals, Pt i vals → ∃ (c u : Nat) (v' : Value), vals = #[.str ⟨#[c]⟩ u, v'] ∧ x.cps[i]? = some c ∧ its[i]? = some v')
    (hfp : ∀ b ∈ fp, b < h2.objs.size ∧ b ≠ P) (hwr : ∀ b ∈ wr, s1.heap.objs.size ≤ b) (hsz2 : s1.heap.objs.size ≤ h2.objs.size)
    (hQ : ∀ g s5, ReadyZ X pins σ H1 P n (trZ pb x xs) g s5 → Q' (.ref g) s5) :
    h2.NoLimit ∧ wpAny (model X.prog X.w) X.A (genexprCode X.env gpos (X.env.qual ++ "<genexpr>") scope) (fun code s₃ => wpAny (model X.prog X.w) X.A (builtinsFor X.env.globals X.env.builtins) (fun bi s₄ =>
        ∃ Ia fp wr n₀ Pt St₀ Mid pz F, Value.ref I = .ref Ia ∧ (∀ A' : Around, A'.handled = none → WalksU X.prog X.w A' Ia fp wr n₀ Pt St₀ Mid) ∧ (∀ i vals, Pt i vals → ∃ va vb, vals = #[va, vb]) ∧ St₀ 0 s₄.heap ∧ (∀ b ∈ fp, b < s₄.heap.objs.size) ∧ s₄.heap.NoLimit ∧ cStatics ∉ wr ∧
          (∀ href : Heap, (∀ b o, s₄.heap.get? b = some o → href.get? b = some o) →
            QuietGenTD X.prog X.w (genEnv scope (cloFrom X.env.cells scope.names []) s₄.heap.objs.size code bi X.env) xa xb [] elt (List.range s₄.heap.objs.size) wr Pt pz F href (X.A.depth + 1) (X.A.units + 8)) ∧
          (∀ a h₅ tk gs, gs.bare = true → s₄.heap.objs.size < a → h₅.objs.size = a + 1 → (∀ b o, s₄.heap.get? b = some o → h₅.get? b = some o) →
            WalksS X.prog X.w X.A.in4 a (a :: s₄.heap.objs.size :: List.range s₄.heap.objs.size) (s₄.heap.objs.size :: wr) (GenOnlyQ s₄.gens.size) (passing pz n₀ 0).length
              (fun j y => ∃ i, (passing pz n₀ 0)[j]? = some i ∧ F i y) (GenAt X.prog X.w X.A.in4 a s₄.gens.size s₄.heap.objs.size (List.range s₄.heap.objs.size) wr pz n₀ F) →
            GenAt X.prog X.w X.A.in4 a s₄.gens.size s₄.heap.objs.size (List.range s₄.heap.objs.size) wr pz n₀ F 0 { s₄ with gens := s₄.gens.push gs, toks := tk, heap := h₅ } →
            Q' (.ref a) { s₄ with gens := s₄.gens.push gs, toks := tk, heap := h₅ })) X.xe s₃) X.xe { s1 with heap := h2 } := by
  obtain ⟨G, hkv, hG⟩ := kvs_of I1 hP xs hxs
  have hlen : its.length = xs.length := by rw [← rv.length]
  have hat : ∀ (i : Nat) (u : Value), its[i]? = some u → ∃ v, xs[i]? = some v ∧ RelV v u := fun i u hv2 => by
    have hi2 : i < its.length := (List.getElem?_eq_some_iff.mp hv2).1
    obtain ⟨a, ha⟩ : ∃ a, xs[i]? = some a := ⟨xs[i]'(by omega), List.getElem?_eq_getElem _⟩
    obtain ⟨u2, hu, ru⟩ := rv.get ha
    rw [hv2] at hu
    cases hu
    exact ⟨a, ha, ru⟩
  have hPs : s1.heap.get? P = some { cls := .none, data := .fields ps } := I1.hok P _ hP
  have hPlt : P < s1.heap.objs.size := Heap.lt_size hPs
  have hP2 : h2.get? P = some { cls := .none, data := .fields ps } := hk2 _ _ hPs
  have cd : PySem.W.CodeHd h2 c P := TB.code.keeps fun b u e => hk2 _ _ (I1.bk b u e)
  have cont : ∀ (code : Value) (h3 : Heap) (tk : Nat) (ps' : Array Value), Heap.ExtBut P h2 h3 → h2.objs.size ≤ h3.objs.size → h3.get? P = some { cls := .none, data := .fields ps' } → (∃ more, ps' = ps ++ more) → TriplesOk ps'.toList →
      wpAny (model X.prog X.w) X.A (builtinsFor X.env.globals X.env.builtins) (fun bi s₄ =>
        ∃ Ia fp wr n₀ Pt St₀ Mid pz F, Value.ref I = .ref Ia ∧ (∀ A' : Around, A'.handled = none → WalksU X.prog X.w A' Ia fp wr n₀ Pt St₀ Mid) ∧ (∀ i vals, Pt i vals → ∃ va vb, vals = #[va, vb]) ∧ St₀ 0 s₄.heap ∧ (∀ b ∈ fp, b < s₄.heap.objs.size) ∧ s₄.heap.NoLimit ∧ cStatics ∉ wr ∧
          (∀ href : Heap, (∀ b o, s₄.heap.get? b = some o → href.get? b = some o) →
            QuietGenTD X.prog X.w (genEnv scope (cloFrom X.env.cells scope.names []) s₄.heap.objs.size code bi X.env) xa xb [] elt (List.range s₄.heap.objs.size) wr Pt pz F href (X.A.depth + 1) (X.A.units + 8)) ∧
          (∀ a h₅ tk gs, gs.bare = true → s₄.heap.objs.size < a → h₅.objs.size = a + 1 → (∀ b o, s₄.heap.get? b = some o → h₅.get? b = some o) →
            WalksS X.prog X.w X.A.in4 a (a :: s₄.heap.objs.size :: List.range s₄.heap.objs.size) (s₄.heap.objs.size :: wr) (GenOnlyQ s₄.gens.size) (passing pz n₀ 0).length
              (fun j y => ∃ i, (passing pz n₀ 0)[j]? = some i ∧ F i y) (GenAt X.prog X.w X.A.in4 a s₄.gens.size s₄.heap.objs.size (List.range s₄.heap.objs.size) wr pz n₀ F) →
            GenAt X.prog X.w X.A.in4 a s₄.gens.size s₄.heap.objs.size (List.range s₄.heap.objs.size) wr pz n₀ F 0 { s₄ with gens := s₄.gens.push gs, toks := tk, heap := h₅ } →
            Q' (.ref a) { s₄ with gens := s₄.gens.push gs, toks := tk, heap := h₅ })) X.xe { s1 with heap := h3, toks := tk } := by
    intro code h3 tk ps' hx hsz hP3 hmore ht3
    obtain ⟨bm, ob, e1, e2, e3, e4, e5, e6, e7, e8⟩ := TB.bm
    have hcP : cStatics ≠ P := fun e => by
      obtain ⟨_, hns, _⟩ := I1.nolimit
      obtain ⟨o', es, ep, ho, hd, _⟩ := hns
      rw [e, hPs] at ho
      cases ho
      cases hd
    have hcl : cStatics < s1.heap.objs.size := let ⟨_, hns, _⟩ := I1.nolimit; hns.lt
    have keep3 : ∀ b u, b ≠ P → s1.heap.get? b = some u → h3.get? b = some u := fun b u hb e => hx b u hb (hk2 _ _ e)
    have hbP : ∀ b u, X.base.get? b = some u → b ≠ P := fun b u e z => by
      have e2 := (I1.bs b u e).2
      rw [z, hP] at e2
      cases e2
    have lim3 : h3.NoLimit := lim2.extBut hx hcP
    have hxat : ∀ (i c u : Nat) (v' : Value), x.cps[i]? = some c → its[i]? = some v' → ∃ v, xs[i]? = some v ∧ RelV v v' := fun i c u v' _ h => hat i v' h
    refine wpAny_builtinsFor (m := X.mg) (by rw [I1.ok.glob]; exact ((I1.mod.glob.keeps I1.bk).keeps hk2).extBut hx TB.gP) e1 e2 (keep3 _ _ e4 (I1.bk _ _ e5)) e6 e7 e8 ?_
    refine ⟨I, fp, wr, n, Pt, St0, Mid, (fun _ => true),
      (fun i z => ∃ c v, x.cps[i]? = some c ∧ xs[i]? = some v ∧ z = .bool (pb ⟨#[c]⟩ v)), rfl, W0, (fun i vals h => let ⟨c, u, v', e, _⟩ := hPt i vals h; ⟨_, _, e⟩), ?_, ?_, lim3, ?_, ?_, ?_⟩
    · exact (W0 X.A hr.hd).frame _ _ _ hst0 fun b hb u e => hx b u (hfp b hb).2 e
    · intro b hb
      have e9 : h2.objs.size ≤ h3.objs.size := by omega
      exact Nat.lt_of_lt_of_le (hfp b hb).1 e9
    · intro z
      have := hwr _ z
      exact absurd hcl (Nat.not_lt_of_le this)
    · intro href hhref
      refine ⟨fun A' E' i va vb s₂ m₂ hA hD hU hPv hn2 hma hmb hk => ?_, fun A' E' i va vb s₂ m₂ hA hD hU hPv hp hn2 hma hmb hk => ?_⟩
      · simp only [List.forIn_nil]
        exact wpAny_pure ⟨rfl, keeps_self _⟩
      · obtain ⟨c0, u0, v', ev, hc0, hv'⟩ := hPt i _ hPv
        obtain ⟨rfl, rfl⟩ : va = .str ⟨#[c0]⟩ u0 ∧ vb = v' := by simpa using congrArg Array.toList ev
        obtain ⟨v, hv, ru⟩ := hat i vb hv'
        obtain ⟨t, kv⟩ := hkv v (List.mem_of_getElem? hv)
        have kept : ∀ b q, b ≠ P → s1.heap.get? b = some q → s₂.heap.get? b = some q := fun b q hb e => by
          have hl := Heap.lt_size e
          refine hk b (List.mem_range.mpr (Nat.lt_of_lt_of_le hl (show s1.heap.objs.size ≤ h3.objs.size by omega))) (fun z => ?_) q (hhref b q (keep3 b q hb e))
          exact absurd hl (Nat.not_lt_of_le (hwr b z))
        have hR : RS X.base (genEnv scope (cloFrom X.env.cells scope.names []) h3.objs.size code builtinsNs X.env) [(xa, .str ⟨#[c0]⟩), (xb, v)] G m₂ s₂ :=
          ⟨fun b q e => kept b q (hbP b q e) (I1.bk b q e), hn2, fun q hq => by
            rcases List.mem_cons.mp hq with z | z
            · cases z; exact ⟨_, hma, ⟨_, rfl⟩⟩
            · cases List.mem_singleton.mp z; exact ⟨vb, hmb, ru⟩, fun q hq => kept q.1 q.2 (hG q hq).2 (hG q hq).1⟩
        refine wpAny_mono (hel I1.mod (genEnv scope (cloFrom X.env.cells scope.names []) h3.objs.size code builtinsNs X.env) G c0 v t ⟨S.kind, rfl, I1.ok.glob, rfl⟩ kv (hok i c0 v hc0 hv) A' E' s₂ m₂ hA hD hR) (fun z s3 r => ⟨⟨c0, v, hc0, hv, ?_⟩, r.2⟩) fun _ _ e => e
        exact r.1
    · intro g h5 tk5 gs hgb hag hsz5 hk5 W5 hgat
      simp only [GxR.passing_true, List.length_range] at W5
      refine hQ g _ ⟨_, _, _, _, _, W5.in4_1, hgat, ?_, fun s' hm => ?_⟩
      · intro j z sj Qj Ej hy hQj
        obtain ⟨i, hij, c0, v, hc0, hv, rfl⟩ := hy
        obtain ⟨hj, ej⟩ := List.getElem?_eq_some_iff.mp hij
        rw [List.getElem_range] at ej
        subst ej
        rw [trZ_some hc0 hv] at hQj
        exact wpAny_truthy_bool hQj
      · obtain ⟨more, em⟩ := hmore
        have nwr : ∀ b u, s1.heap.get? b = some u → b ∉ h3.objs.size :: wr := fun b u e hb => by
          have hl := Heap.lt_size e
          rcases List.mem_cons.mp hb with z | z
          · rw [z] at hl
            have h9 : (h3.objs.size : Nat) < s1.heap.objs.size := hl
            omega
          · exact absurd hl (Nat.not_lt_of_le (hwr b z))
        have J := GxR.inv_tab (more := more) (h' := s'.heap) (g' := s'.gens) (d' := s'.drawn) (t' := s'.toks) I1 hP (fun b u hb e => hm.heap b u (nwr b u e) (hk5 b u (keep3 b u hb e)))
          (by rw [← em]; exact hm.heap P _ (nwr P _ hPs) (hk5 P _ hP3)) (AllBare.movedS (I1.bare.push hgb) hm)
        rw [GxR.sh_eta s1 s' hm.os] at J
        refine ⟨upd H1 P (.tbl (ps ++ more)), ⟨⟨ps ++ more, upd_same, by rw [← em]; exact ht3⟩, fun b hb => upd_ne hb⟩, J⟩
  refine ⟨lim2, ?_⟩
  cases hf : codeAmong gpos ps.toList with
  | none =>
    refine wpAny_genexprCodeX hcode (cd.code hP2 ht) (cd.tab hP2) hf fun c' h' tk hx hge hlt hco' _ htab' _ => ?_
    obtain ⟨o1, vs, f1, tf, fl, tg, inF, tx, tt, op, _, _, _, _, _, _, _, _, _, htr, _⟩ := hco'
    exact cont _ h' tk _ hx (Nat.le_trans hge (Nat.le_of_lt hlt)) htab'.2 ⟨_, rfl⟩ htr
  | some cv =>
    refine wpAny_genexprCode_hit hcode (cd.code hP2 ht) hf ?_
    exact cont cv h2 s1.toks ps (Heap.ExtBut.refl _ _) (Nat.le_refl _) hP2 ⟨#[], by simp⟩ ht
/-- all(test for a, b in zip(text, tuple)), the tuple of plain values; behind it the def's table may have grown -/
def tAllZ (K : PySem.W.Frag) (P : Addr) (pb : Str → V → Bool) (ok : Nat → V → Prop) (ta : TA) : TE := fun σ H Q => ta σ H fun vs H1 => ∃ (x : Str) (y : Addr) (xs : List V), vs = [.str x, .ref y] ∧ SqT K H1 y xs ∧ (∀ v ∈ xs, ∃ t, KH K H1 v t) ∧ (∀ (i c : Nat) (v : V), x.cps[i]? = some c → xs[i]? = some v → ok c v) ∧ GxR.TabG H1 P ∧ ∀ H2, GxR.Tabbed P H1 H2 → Q (.bl (allZ pb x xs)) H2
theorem pe_allZ {c P : Addr} {elt e1 e2 : Expr} {xa xb : Str} {p p2 pa pb2 pt pos pos2 gpos : Pos} {kt : Nat} {scope : Scope} {pb : Str → V → Bool} {ok : Nat → V → Prop} {ta : TA} {k : Nat}
    (hr : Room k X.A) (hg : Gl X "all") (hm : X.mg "all" = none) (hgz : Gl X "zip") (hmz : X.mg "zip" = none) (TB : GxR.TabB X.base X.mg c P) (hcode : X.env.code = .ref c) (S : GenS2 X.env scope xa xb) (ha : PA X [e1, e2] ta)
    (hel : Mod X.K X.mg X.base → ∀ (cenv : Env) (G : Pins) (c : Nat) (v : V) (t : String), RC scope cenv → KV G v t → ok c v → RE X.prog X.w X.base (X.A.depth + 1) cenv [(xa, .str ⟨#[c]⟩), (xb, v)] G elt (.bl (pb ⟨#[c]⟩ v)))
    (hs : ∀ v, genFold (.Call (.Name "zip" p2) [e1, e2] [] pos2) X.env v = pure v)
    (he : starEach [.GeneratorExp elt [⟨.Tuple [.Name xa pa, .Name xb pb2] kt pt, .Call (.Name "zip" p2) [e1, e2] [] pos2, [], 0⟩] scope gpos] X.env = (false, eval (.GeneratorExp elt [⟨.Tuple [.Name xa pa, .Name xb pb2] kt pt, .Call (.Name "zip" p2) [e1, e2] [] pos2, [], 0⟩] scope gpos) X.env) :: starEach [] X.env := by rfl)
    (hs2 : starEach [e1, e2] X.env = (false, eval e1 X.env) :: starEach [e2] X.env := by rfl) (hpl : (backTo pos2 (starEach [e2] X.env)).any (·.1) = false := by rfl) :
    PE X (.Call (.Name "all" p) [.GeneratorExp elt [⟨.Tuple [.Name xa pa, .Name xb pb2] kt pt, .Call (.Name "zip" p2) [e1, e2] [] pos2, [], 0⟩] scope gpos] [] pos) (tAllZ X.K P pb ok ta) := by
  refine ⟨fun pins s σ H Q I h => ?_⟩
  refine wpAny_Call_Name_kw (ld_blt I hg hm (by rfl) ?_)
  refine PyProof.Rows.callWith_builtin1 ?_ he (by rfl)
  rw [he]
  show wpAny _ _ (spliced ((false, eval (.GeneratorExp elt [⟨.Tuple [.Name xa pa, .Name xb pb2] kt pt, .Call (.Name "zip" p2) [e1, e2] [] pos2, [], 0⟩] scope gpos) X.env) :: backTo pos (starEach [] X.env))) _ _ s
  refine Calls.spliced_cons ?_
  refine wpAny_GeneratorExp_walksQTD hr.hd S.co (closure_ok S.free) S.cell S.dot S.la S.lb S.ab S.kind (by have := hr.dp; omega) ?_ hs
  refine Call_ (ld_blt I hgz hmz PyProof.Rows.boot_zip (PyProof.Rows.callWith_type1 (thn (ha.run pos2 pins s σ H _ I h) fun us s1 ⟨vs, H1, I1, r1, q1⟩ => ?_) hs2 hpl))
  obtain ⟨x, y, xs, ex, hy, hxs, hok, ⟨ps, hP, ht⟩, hR⟩ := q1
  subst ex
  cases r1 with
  | cons r rr =>
    cases rr with
    | cons r' rr =>
      cases rr
      obtain ⟨t, rfl⟩ := r
      cases r'
      obtain ⟨its, rv, hl, _⟩ := I1.tuple hy
      have hIT : s1.heap.IsTuple y its.toArray := hl
      have hlt : y < s1.heap.objs.size := let ⟨_, e1, _⟩ := id hl; Heap.lt_size e1
      have hyP : y ≠ P := fun z => by
        obtain ⟨_, e, hc1, hd1⟩ := _root_.id hl
        obtain ⟨_, hd1⟩ := hd1
        rw [z, I1.hok P _ hP] at e
        cases e
        cases hd1
      have hPlt : P < s1.heap.objs.size := Heap.lt_size (I1.hok P _ hP)
      have hlen : its.toArray.size = xs.length := by rw [rv.length]; exact List.size_toArray ..
      refine call_zipS hIT fun h' M => wpAny_pyIter_zip M.z ?_
      have I2 : Inv X pins σ H1 { s1 with heap := h' } := I1.kept (t' := s1.toks) M.keep
      have hne : y ≠ s1.heap.objs.size + 1 := Nat.ne_of_lt (Nat.lt_of_lt_of_le hlt (Nat.le_add_right _ 1))
      have hz := M.size
      refine gen_zip (Q' := fun u s₁ => wpAny (model X.prog X.w) X.A (spliced (backTo pos (starEach [] X.env))) (fun vs s₁ => wpAny (model X.prog X.w) X.A (call (.builtin "all") (u :: vs)) (EP X pins σ Q) X.xe s₁) X.xe s₁)
        (n := min x.cps.size its.toArray.size) (x := x) (I := s1.heap.objs.size + 4) hr TB hcode S hel I1 hP ht hxs rv (by rw [hlen]) hok M.keep I2.nolimit
        (fun A' hA => (WalksT.zipD2 (prog := X.prog) (w := X.w) (A := A') (sep_of hlt) (drawsStr (prog := X.prog) (w := X.w) (A := A'.in1) hA s1.heap.objs.size x t) (drawsTuple (prog := X.prog) (w := X.w) (A := A'.in1) hA (s1.heap.objs.size + 1) y hne its.toArray)).toU)
        ⟨M.z, M.TI, ⟨_, _, M.TO⟩, M.i1, M.i2, hIT.at fun o e => M.keep _ o e⟩ ?_ ?_ ?_ (show s1.heap.objs.size ≤ h'.objs.size by omega) ?_
      · rintro i vals ⟨x1, x2, ⟨c0, u0, hc0, rfl⟩, h2, rfl⟩
        exact ⟨c0, u0, x2, rfl, hc0, by simpa using h2⟩
      · intro b hb
        have e' : b = s1.heap.objs.size + 4 ∨ b = s1.heap.objs.size + 2 ∨ b = s1.heap.objs.size + 3 ∨ b = s1.heap.objs.size ∨ b = s1.heap.objs.size + 1 ∨ b = y := by simpa using hb
        have hb5 : ∀ d : Nat, d < 5 → s1.heap.objs.size + d < h'.objs.size ∧ (s1.heap.objs.size + d : Nat) ≠ P := fun d hd => ⟨by omega, Nat.ne_of_gt (Nat.lt_of_lt_of_le hPlt (Nat.le_add_right _ _))⟩
        rcases e' with z | z | z | z | z | z
        · rw [z]; exact hb5 4 (by decide)
        · rw [z]; exact hb5 2 (by decide)
        · rw [z]; exact hb5 3 (by decide)
        · rw [z]; exact hb5 0 (by decide)
        · rw [z]; exact hb5 1 (by decide)
        · rw [z]; exact ⟨Nat.lt_of_lt_of_le hlt (by rw [hz]; exact Nat.le_add_right _ _), hyP⟩
      · intro b hb
        have e' : b = s1.heap.objs.size + 4 ∨ b = s1.heap.objs.size + 3 ∨ b = s1.heap.objs.size ∨ b = s1.heap.objs.size + 1 := by simpa using hb
        rcases e' with z | z | z | z
        · rw [z]; exact Nat.le_add_right _ _
        · rw [z]; exact Nat.le_add_right _ _
        · rw [z]; exact Nat.le_refl _
        · rw [z]; exact Nat.le_add_right _ _
      · intro g s5 hG
        obtain ⟨fp, wr, G, F, St, W, hst, htr, hI⟩ := hG
        refine Calls.spliced_nil ?_
        refine call_all_walkS (W.self 0 _ _ _ hst ⟨g, fp, wr, G, _, F, St, _, rfl, W, hst, htr, fun s' hmv => ?_⟩)
        obtain ⟨H2, hT, J⟩ := hI s' hmv
        refine ⟨.bl _, H2, J, rfl, ?_⟩
        rw [hlen]
        exact hR H2 hT
end
end Wk
set_option Elab.async false
set_option linter.all false
set_option maxRecDepth 100000
set_option maxHeartbeats 4000000
/-! Wk: small defs without effects: one if ahead of the return; texts compared; a text in a tuple of texts. -/
namespace Wk
open PySem PySem.Spec PyProof.Rows L2
/-- the test e gives b and keeps all that stands -/
def RT (prog : Program) (w : World) (base : Heap) (D : Nat) (env : Env) (vals : List (Str × V)) (G : Pins) (e : Expr) (b : Bool) : Prop :=
  ∀ (A : Around) (E : Value → Shared → Prop) (s : Shared) (m : Str → Option Value), A.handled = none → A.depth ≤ D → RS base env vals G m s → wpAny (model prog w) A (isTrue e env (eval e env)) (fun y s' => y = b ∧ Keeps s s') E s
section
variable {prog : Program} {w : World} {K : PySem.W.Frag} {mg : Str → Option Value} {base : Heap} {D : Nat} {env : Env} {scope : Scope} {vals : List (Str × V)} {G : Pins} {e e1 e2 e3 : Expr} {es : List Expr} {v : V} {vs : List V} {p p1 p2 pos : Pos}
theorem re_eqS {a b : Str} (h1 : RE prog w base D env vals G e1 (.str a)) (h2 : RE prog w base D env vals G e2 (.str b)) (hm : behindInMarks .Eq e2 = false := by with_unfolding_all rfl) :
    RT prog w base D env vals G (.Compare e1 [.Eq] [e2] p) (a == b) := by
  intro A E s m hA hD r
  refine wpAny_isTrue_Compare1 (thn (h1 A E s m hA hD r) fun y s1 ⟨r1, k1⟩ => (thn (h2 A E s1 m hA hD (r.on k1)) fun z s2 ⟨r2, k2⟩ => ?_)) hm
  obtain ⟨t, rfl⟩ := r1
  obtain ⟨t', rfl⟩ := r2
  exact PyProof.Rows.eq_str (wpAny_truthy_bool ⟨rfl, keeps_trans k1 k2⟩)
def eqIn (a : Str) : Value → Bool
  | .str z _ => z == a
  | _ => false
theorem any_eqIn {a : Str} : ∀ {ys : List Str} {us : List Value}, Vals (ys.map V.str) us → us.any (eqIn a) = ys.any fun y => y == a
  | [], _, .nil => rfl
  | y :: ys, _, .cons r t => by
    obtain ⟨tk, rfl⟩ := r
    rw [List.any_cons, List.any_cons, any_eqIn t]
    rfl
theorem str_of {ys : List Str} : ∀ {us : List Value}, Vals (ys.map V.str) us → ∀ u ∈ us, ∃ z t, u = .str z t := by
  induction ys with
  | nil => intro us h u hu; cases h; cases hu
  | cons y ys ih =>
    intro us h u hu
    cases h with
    | cons r t =>
      rcases List.mem_cons.mp hu with rfl | hu
      · obtain ⟨tk, rfl⟩ := r; exact ⟨y, tk, rfl⟩
      · exact ih t u hu
/-- a text in a tuple of texts of the written part -/
theorem re_inS {a : Str} {l : Addr} {ys : List Str} (M : Mod K mg base) (ht : ∀ H : Hp, SqT K H l (ys.map V.str)) (h1 : RE prog w base D env vals G e1 (.str a)) (h2 : RE prog w base D env vals G e2 (.ref l)) (hm : behindInMarks .In e2 = false := by with_unfolding_all rfl) :
    RE prog w base D env vals G (.Compare e1 [.In] [e2] p) (.bl (ys.any fun y => y == a)) := by
  intro A E s m hA hD r
  refine wpAny_Compare1 (thn (h1 A E s m hA hD r) fun y s1 ⟨r1, k1⟩ => (thn (h2 A E s1 m hA hD (r.on k1)) fun z s2 ⟨r2, k2⟩ => ?_)) hm
  obtain ⟨t, rfl⟩ := r1
  cases r2
  have hb := ((r.on k1).on k2).hb
  rcases ht (fun _ => none) with (h | ⟨_, h⟩) | ⟨o, its, n, lk, hc, hd, hz, rv⟩
  · cases h
  · cases h
  · have hl : s2.heap.IsTuple l its := ⟨o, M.kin.keeps hb _ _ lk, hc, n, hd⟩
    refine SeqAt.in_tupleAt (eqIn a) hl (fun y hy => ?_) ⟨?_, keeps_trans k1 k2⟩
    · obtain ⟨z, t', rfl⟩ := str_of rv y (by simpa using hy)
      exact SeqAt.EqAt.str_str z t' a t
    · rw [← any_eqIn rv, Array.any_toList]
      rfl
/-- a def with one if ahead of its return -/
theorem rf_if {f : Addr} {fd : FuncData} {x : Str} {params : Arguments} {rp rp2 ip : Pos} {b : Bool} {N ps : List Str} (F : FunD K x x params [.If e3 [.Return (some e1) rp] [] ip, .Return (some e2) rp2] scope [] [] f fd) (M : Mod K mg base) (S : FnScope N ps scope) (hloc : ∀ y ∈ ps, scope.names.lookup y = some .local) (hnd : ps.Nodup)
    (hb : ∀ (kV doc pm : Value) (an : Option Addr) (cdv ct : Value) (us : List Value), us.length = ps.length → bindArgs (PySem.W.fnOf x x params [.If e3 [.Return (some e1) rp] [] ip, .Return (some e2) rp2] scope .none kV doc pm an cdv ct) ⟨us, []⟩ = pure (ps.zip us))
    (hl : vs.length = ps.length) (hD : D < recursionLimit) (test : ∀ env : Env, RC scope env → RT prog w base (D + 1) env (ps.zip vs) G e3 b) (body1 : b = true → ∀ env : Env, RC scope env → RE prog w base (D + 1) env (ps.zip vs) G e1 v) (body2 : b = false → ∀ env : Env, RC scope env → RE prog w base (D + 1) env (ps.zip vs) G e2 v) : RF prog w base D f vs G v := by
  intro A s us hA hAD hs r hG
  obtain ⟨oc, od, dV, kV, doc, pm, an, cdv, ct, osl, rfl, lk, hcd, hdv, _⟩ := F.ex
  have KX : K.In s.heap := M.kin.keeps hs
  have lim : s.heap.NoLimit := M.nolimit.keeps hs
  have hul : us.length = ps.length := by rw [← r.length]; exact hl
  have hdn : dV = .none := by
    rcases hdv with ⟨_, h⟩ | ⟨h, _⟩
    · exact h
    · exact absurd rfl h
  subst hdn
  refine codeAny_call_function (Nat.lt_of_le_of_lt hAD hD) (KX _ _ lk) rfl S.co S.gen rfl (PySem.W.codeRec_of KX hcd) ?_
  rw [hb _ _ _ _ _ _ us hul]
  refine wpAny_pure ?_
  refine wpAny_newFunctionEnv_cells S.kind (fun ⟨n, v⟩ hy => .inl (hloc n (List.of_mem_zip hy).1)) fun env he s1 x => ?_
  have hk : ∀ b o, s.heap.get? b = some o → s1.heap.get? b = some o := x.toInCall.keep
  refine ⟨lim.keeps hk, codeAny_func ?_⟩
  have hks : Keeps s s1 := by
    obtain ⟨h1, t1, e1⟩ := x.toInCall.same
    exact ⟨h1, t1, e1, by rw [e1] at hk; exact hk⟩
  have hR : RS base env (ps.zip vs) G _ s1 := ⟨fun b o q => hk b o (hs b o q), x.toInCall.ns, fun q hq => ?_, fun q hq => hk _ _ (hG q hq)⟩
  · have cR : RC scope env := by subst he; exact ⟨S.kind, rfl, rfl, rfl⟩
    have hA2 : (A.deeper env).handled = none := hA
    refine wpAny_execs_cons (wpAny_If (thn (test env cR (A.deeper env) _ s1 _ hA (Nat.succ_le_succ hAD) hR) fun b' s2 ⟨e', k'⟩ => ?_))
    subst e'
    cases b' with
    | true =>
      refine wpAny_execs_cons (wpAny_Return_some (thn (body1 rfl env cR (A.deeper env) _ s2 _ hA (Nat.succ_le_succ hAD) (hR.on k')) fun y s' ⟨ry, ky⟩ => ?_))
      exact ⟨y, rfl, ry, keeps_trans hks (keeps_trans k' ky)⟩
    | false =>
      refine wpAny_execs_nil ?_
      refine wpAny_execs_cons (wpAny_Return_some (thn (body2 rfl env cR (A.deeper env) _ s2 _ hA (Nat.succ_le_succ hAD) (hR.on k')) fun y s' ⟨ry, ky⟩ => ?_))
      exact ⟨y, rfl, ry, keeps_trans hks (keeps_trans k' ky)⟩
  · obtain ⟨i, hi, ei⟩ := List.getElem_of_mem hq
    rw [List.getElem_zip] at ei
    subst ei
    have hi1 : i < ps.length := by rw [List.length_zip] at hi; omega
    have hi2 : i < vs.length := by rw [List.length_zip] at hi; omega
    obtain ⟨u, hu, ru⟩ := r.get (List.getElem?_eq_getElem hi2)
    refine ⟨u, bindL_get hnd (List.getElem?_eq_getElem hi1) hu ?_, ru⟩
    subst he
    exact hloc _ (List.getElem_mem hi1)
end
end Wk
set_option Elab.async false
set_option linter.all false
set_option maxRecDepth 100000
set_option maxHeartbeats 4000000
/-! Wk: enumerate of a tuple. -/
namespace Wk
open PySem PySem.Spec PyProof.Rows L2
open Sem (wp)
theorem meets_enumerate_newT (l : Addr) (ys : Array Value) :
    Meets (Builtin.«enumerate.__new__» ⟨[.type "enumerate", .ref l], []⟩) (fun _ R s => s.heap.IsTuple l ys ∧
      R (.ok (.ret (.ref (s.heap.push { cls := .type "tuple_iterator", data := .fields #[.ref l, .int 0 0] }).objs.size)))
        { s with heap := (s.heap.push { cls := .type "tuple_iterator", data := .fields #[.ref l, .int 0 0] }).push { cls := .type "enumerate", data := .fields #[.none, .bool false, .ref s.heap.objs.size, rawInt 0, .none, .none] } }) :=
  .of_wp fun prog w A R s h => by
    obtain ⟨hp, g, d, tk, os⟩ := s
    obtain ⟨hL, h⟩ := h
    have hsub := sub_enumerate
    obtain ⟨o, ho, hc, n, hd⟩ := id hL
    wp_walk
    refine wpAny_stack_any fun st => wpAny_pure ?_
    split
    · rename_i c _ _ _ _ _
      cases (c == Value.type "enumerate")
      · wp_walk using wpAny_pyIter_tuple hL
        exact ⟨_, rfl, h⟩
      · wp_walk using wpAny_pyIter_tuple hL
        exact ⟨_, rfl, h⟩
    · wp_walk using wpAny_pyIter_tuple hL
      exact ⟨_, rfl, h⟩
end Wk
set_option Elab.async false
set_option linter.all false
set_option maxRecDepth 100000
set_option maxHeartbeats 4000000
/-! Wk: a loop over enumerate of a tuple. -/
namespace Wk
open PySem PySem.Spec PyProof.Rows L2
section
variable {prog : Program} {w : World} {A : Around} {E : Value → Shared → Prop} {s : Shared}
theorem call_enumT {l : Addr} {ys : Array Value} {Q : Value → Shared → Prop} (hl : s.heap.IsTuple l ys)
    (h : ∀ h', IsEnum h' (s.heap.objs.size + 1) s.heap.objs.size 0 .none → h'.IsTupleIter s.heap.objs.size l 0 → h'.objs.size = s.heap.objs.size + 2 →
      (∀ b o, s.heap.get? b = some o → h'.get? b = some o) → Q (.ref (s.heap.objs.size + 1)) { s with heap := h' }) :
    wpAny (model prog w) A (call (.type "enumerate") [.ref l]) Q E s := by
  refine callType_new F.called_enumerate (by decide) (F.typeCall_enumerate_1 _) (F.newCall_enumerate_1 _) (fun obj => F.args_object_init_2 obj _) F.entry_enumerate_new
    (meets_enumerate_newT l ys) ⟨hl, ?_⟩
  have hz : (s.heap.push { cls := .type "tuple_iterator", data := .fields #[.ref l, .int 0 0] }).objs.size = s.heap.objs.size + 1 := Heap.size_push ..
  show _ ∧ _
  rw [hz]
  have he : IsEnum ((s.heap.push { cls := .type "tuple_iterator", data := .fields #[.ref l, .int 0 0] }).push
      { cls := .type "enumerate", data := .fields #[.none, .bool false, .ref s.heap.objs.size, rawInt 0, .none, .none] }) (s.heap.objs.size + 1) s.heap.objs.size 0 .none := by
    have := Heap.get?_push_size (s.heap.push { cls := .type "tuple_iterator", data := .fields #[.ref l, .int 0 0] })
      (o := { cls := .type "enumerate", data := .fields #[.none, .bool false, .ref s.heap.objs.size, rawInt 0, .none, .none] }) rfl
    rw [hz] at this; exact this
  exact ⟨⟨_, he, rfl⟩, h _ he ⟨_, Heap.get?_push_of_some _ (Heap.get?_push_size _ rfl), rfl, rfl⟩ (by rw [Heap.size_push, hz]) fun b o x => Heap.get?_push_of_some _ (Heap.get?_push_of_some _ x)⟩
end
/-- the tuple ys at a, each item in a new pair -/
def IteT (K : PySem.W.Frag) (a : Addr) (ys : List V) : It :=
  ⟨fun i H => SqT K H a ys ∧ i < ys.length, fun i H v H' => ∃ T x, v = .ref T ∧ H T = none ∧ H' = upd H T (.tup [.int (i : Nat), x]) ∧ ys[i]? = some x, fun i H => SqT K H a ys ∧ ys.length ≤ i⟩
theorem turn_enumT {P : Program} {w : World} {K : PySem.W.Frag} {elts : List Expr} {kk : Nat} {tpos : Pos} {a n : Addr} {ys : List V} (ha : a < n) :
    Turn P w K (.Tuple elts kk tpos) (IteT K a ys) [n + 1, n] (n + 1) (fun i h => i ≤ ys.length ∧ (∃ old, IsEnum h (n + 1) n ((i : Nat) : Int) old) ∧ h.IsTupleIter n a i) where
  mem := by simp
  obj := fun i h st b hb => by
    obtain ⟨_, ⟨old, he⟩, ⟨o, ho, hc, hd⟩⟩ := st
    have e' : b = n + 1 ∨ b = n := by simpa using hb
    rcases e' with z | z
    · rw [z]; exact ⟨_, he, fun v q => nomatch q⟩
    · rw [z]; exact ⟨o, ho, fun v q => by rw [hd] at q; cases q⟩
  keep := fun i h h' st k => let ⟨hi, ⟨old, he⟩, ht⟩ := st; ⟨hi, ⟨old, k (n + 1) (by simp) _ he⟩, ht.at fun o q => k n (by simp) o q⟩
  item := by
    intro X hP hw hK hc i pins s σ H E I hf st hg
    subst hP hw hK
    obtain ⟨_, he, hit⟩ := st
    obtain ⟨hq, hi⟩ := hg
    obtain ⟨its, rv, p, _⟩ := I.tuple hq
    have hl := rv.length
    have hsz : its.toArray.size = its.length := List.size_toArray ..
    have hd := I.ok.hd hc
    have hne : a ≠ n := Nat.ne_of_lt ha
    have G := GoesN.enumFrom (prog := X.prog) (w := X.w) (A := X.A) (elts := elts) (x1 := kk) (pos := tpos) 0 (drawsTuple (prog := X.prog) (w := X.w) (A := X.A.in1) hd n a hne its.toArray) (n + 1) (Nat.succ_ne_self n) (by
      intro z
      rcases List.mem_cons.mp z with z | z
      · exact absurd z (Nat.succ_ne_self n)
      · exact absurd (List.mem_singleton.mp z) (Nat.ne_of_gt (Nat.lt_of_lt_of_le ha (Nat.le_add_right n 1)))) (List.mem_cons_self ..)
    have hlive : ∀ c, c ∈ [n + 1, n] → c < s.heap.objs.size := fun c hcm => by
      obtain ⟨old, he⟩ := he
      have e' : c = n + 1 ∨ c = n := by simpa using hcm
      rcases e' with q | q
      · rw [q]; exact Heap.lt_size he
      · rw [q]; obtain ⟨_, e1, _⟩ := hit; exact Heap.lt_size e1
    obtain ⟨old, he⟩ := he
    refine G.goes i s (fun u s2 => ∃ x_1 H', Inv X pins σ H' s2 ∧ RelV x_1 u ∧ (IteT X.K a ys).yld i H x_1 H' ∧ ((i + 1) ≤ ys.length ∧ (∃ old, IsEnum s2.heap (n + 1) n (((i + 1) : Nat) : Int) old) ∧ s2.heap.IsTupleIter n a (i + 1)) ∧ ∀ b_1 ∈ [n + 1, n], H' b_1 = none) E
      (by omega) ⟨⟨old, by rw [Int.zero_add]; exact he⟩, hit, p⟩ fun v h' tk hY st2 hk htk => ?_
    obtain ⟨T, t0, u2, rfl, hT, hu2, hTT⟩ := hY
    obtain ⟨⟨old', he'⟩, hit', _⟩ := st2
    rw [Int.zero_add] at he' hTT
    have hu2' : its[i]? = some u2 := by simpa using hu2
    obtain ⟨y, hy⟩ : ∃ y, ys[i]? = some y := ⟨_, List.getElem?_eq_getElem hi⟩
    obtain ⟨u3, hu3, ru⟩ := rv.get hy
    rw [hu2'] at hu3
    cases hu3
    obtain ⟨oT, eT, cT, nT, dT⟩ := hTT
    have new : ObjOk X.prog X.w (upd H T (.tup [.int (i : Nat), y])) h' T (.tup [.int (i : Nat), y]) :=
      ⟨by show 2 ≤ sizeLine; decide, [.int (i : Nat) t0, u2], .cons ⟨_, rfl⟩ (.cons ru .nil), ⟨oT, eT, cT, nT, dT⟩⟩
    have I1 : Inv X pins σ (upd H T (.tup [.int (i : Nat), y])) { s with heap := h', toks := tk } :=
      I.turnedNew (t' := tk) (ch := [n + 1, n]) (fun c o hb q => hk c o hb q) hf hT new
    refine ⟨.ref T, _, I1, rfl, ⟨_, y, rfl, I.hok.fresh hT, rfl, hy⟩, ⟨hi, ⟨old', he'⟩, hit'⟩, fun c hcm => ?_⟩
    rw [upd_ne (Nat.ne_of_lt (Nat.lt_of_lt_of_le (hlive c hcm) hT))]
    exact (hf c hcm).1
  done := by
    intro X hP hw hK hc i pins s σ H E I hf st hg
    subst hP hw hK
    obtain ⟨hi, ⟨old, he⟩, hit⟩ := st
    obtain ⟨hq, hend⟩ := hg
    obtain ⟨its, rv, p, _⟩ := I.tuple hq
    have hl := rv.length
    have hsz : its.toArray.size = its.length := List.size_toArray ..
    have hd := I.ok.hd hc
    have hne : a ≠ n := Nat.ne_of_lt ha
    have D := drawsTuple (prog := X.prog) (w := X.w) (A := X.A.in1) hd n a hne its.toArray
    have en : i = its.toArray.size := by omega
    refine wpAny_pyNext_enum_endD D he ⟨by rw [← en]; exact hit, p⟩ fun h' hk => ⟨rfl, ?_⟩
    exact I.turnedL (t' := s.toks) (ch := [n + 1, n]) (fun c o hb q => hk c o (fun q' => hb (by simp [q'])) q) hf
  self := fun A i s Q E st h => let ⟨_, ⟨_, he⟩, _⟩ := st; wpAny_pyIter_enum he h
def iEnumT (K : PySem.W.Frag) (ta : TA) : TI := fun σ H R => ta σ H fun vs H1 => ∃ a ys, vs = [.ref a] ∧ SqT K H1 a ys ∧ R (IteT K a ys) H1
theorem pi_enumT {X : Cx} {e : Expr} {ta : TA} {p pos tpos : Pos} {elts : List Expr} {kk : Nat} (hg : Gl X "enumerate") (hm : X.mg "enumerate" = none) (ha : PA X [e] ta) (hs : starEach [e] X.env = [(false, eval e X.env)] := by rfl) :
    PI X (.Tuple elts kk tpos) (.Call (.Name "enumerate" p) [e] [] pos) (iEnumT X.K ta) := by
  refine ⟨fun pins s σ H R I h => ?_⟩
  refine Call_ (ld_blt I hg hm boot_enumerate (PyProof.Rows.callWith_type1 (thn (ha.run pos pins s σ H _ I h) fun us s1 ⟨vs, H1, I1, r1, q1⟩ => ?_) hs rfl))
  obtain ⟨a, ys, ex, hq, q⟩ := q1
  subst ex
  cases r1 with
  | cons r rr =>
    cases rr
    cases r
    obtain ⟨its, rv, p1, _⟩ := I1.tuple hq
    have hlt : a < s1.heap.objs.size := let ⟨_, e1, _⟩ := id p1; Heap.lt_size e1
    refine call_enumT (show s1.heap.IsTuple a its.toArray from p1) fun h' he hit hsz hk => wpAny_pyIter_enum he ?_
    have I2 : Inv X pins σ H1 { s1 with heap := h' } := I1.kept (t' := s1.toks) hk
    refine ⟨s1.heap.objs.size + 1, [s1.heap.objs.size + 1, s1.heap.objs.size], _, _, H1, rfl, I2, turn_enumT (ys := ys) hlt, ⟨Nat.zero_le _, ⟨.none, he⟩, hit⟩, fun b hb => ?_, q⟩
    have e' : b = s1.heap.objs.size + 1 ∨ b = s1.heap.objs.size := by simpa using hb
    have hle : s1.heap.objs.size ≤ b := by
      rcases e' with z | z
      · rw [z]; exact Nat.le_add_right _ _
      · rw [z]; exact Nat.le_refl _
    exact I1.fpOk hle (I1.hok.fresh hle)
/-- a loop over enumerate of a tuple -/
theorem for_enumT {K : PySem.W.Frag} {a : Addr} {ys : List V} {g : TG} {tb : TS} {D : Ends} {σ : L2.St} {H : Hp} (Pv : Nat → L2.St → Hp → Prop) (h0 : Pv 0 σ H) (hq : ∀ i σ H, Pv i σ H → SqT K H a ys)
    (hs : ∀ (i : Nat) (y : V) (T : Addr) (σ : L2.St) (H : Hp), ys[i]? = some y → Pv i σ H → H T = none → g (.ref T) σ (upd H T (.tup [.int (i : Nat), y])) fun σ2 H2 => tb { D with nx := Pv (i + 1), ct := Pv (i + 1), bk := D.nx } σ2 H2) (hd : ∀ σ H, Pv ys.length σ H → D.nx σ H) :
    ∃ W : Nat → Nat → L2.St → Hp → Prop, (∃ m, W 0 m σ H) ∧ ∀ i m σ H, W i m σ H →
      ((IteT K a ys).stop i H ∧ D.nx σ H) ∨ ((IteT K a ys).go i H ∧ ∃ N : L2.St → Hp → Prop, (∀ σ' H', N σ' H' → ∃ m', m' < m ∧ W (i + 1) m' σ' H') ∧ ∀ v H', (IteT K a ys).yld i H v H' → g v σ H' fun σ2 H2 => tb { D with nx := N, ct := N, bk := D.nx } σ2 H2) := by
  refine ⟨fun i m σ H => m = ys.length - i ∧ i ≤ ys.length ∧ Pv i σ H, ⟨ys.length, rfl, Nat.zero_le _, h0⟩, ?_⟩
  rintro i m σ H ⟨rfl, hi, p⟩
  have qy := hq i σ H p
  by_cases hlt : i < ys.length
  · refine .inr ⟨⟨qy, hlt⟩, Pv (i + 1), fun σ' H' p' => ⟨ys.length - (i + 1), by omega, rfl, hlt, p'⟩, fun v H' y => ?_⟩
    obtain ⟨T, y', rfl, hT, rfl, f2⟩ := y
    exact hs i y' T σ H f2 p hT
  · have e : i = ys.length := by omega
    subst e
    exact .inl ⟨⟨qy, Nat.le_refl _⟩, hd σ H p⟩
end Wk
set_option Elab.async false
set_option linter.all false
set_option maxRecDepth 100000
set_option maxHeartbeats 4000000
/-! Wk: all(.. for a, b in zip(..)) again, where the test may compare with lists and tuples (it needs the room of the C stack). -/
namespace Wk
open PySem PySem.Spec PyProof.Rows L2
/-- the kind of a value, with what is pinned, and its items -/
inductive KW (G : Pins) : V → String → Prop
  | non : KW G .non "NoneType"
  | bl {b} : KW G (.bl b) "bool"
  | int {i} : KW G (.int i) "int"
  | str {z} : KW G (.str z) "str"
  | lst {a o its n} : (a, o) ∈ G → o.cls = .type "list" → o.data = .seq its n → KW G (.ref a) "list"
  | tup {a o its n} : (a, o) ∈ G → o.cls = .type "tuple" → o.data = .seq its n → KW G (.ref a) "tuple"
theorem KW.kv {G : Pins} {v : V} {t : String} (h : KW G v t) : KV G v t := by
  cases h with
  | non => exact .non
  | bl => exact .bl
  | int => exact .int
  | str => exact .str
  | lst h c _ => exact .lst h c
  | tup h c _ => exact .tup h c
theorem KW.more {G G' : Pins} {v : V} {t : String} (h : KW G v t) (hs : ∀ q ∈ G, q ∈ G') : KW G' v t := by
  cases h with
  | non => exact .non
  | bl => exact .bl
  | int => exact .int
  | str => exact .str
  | lst h c d => exact .lst (hs _ h) c d
  | tup h c d => exact .tup (hs _ h) c d
section
variable {X : Cx} {pins : List (Addr × Obj)} {σ : L2.St} {H : Hp} {s : Shared}
theorem kw_of {P : Addr} {ps : Array Value} {v : V} {t : String} (I : Inv X pins σ H s) (hP : H P = some (.tbl ps)) (h : KH X.K H v t) : ∃ G : Pins, KW G v t ∧ ∀ q ∈ G, s.heap.get? q.1 = some q.2 ∧ q.1 ≠ P := by
  have nP : ∀ {a : Addr} {o : Obj} {its : Array Value} {n : Nat}, s.heap.get? a = some o → o.data = .seq its n → a ≠ P := fun e d z => by
    rw [z, I.hok P _ hP] at e
    cases e
    cases d
  cases h with
  | non => exact ⟨[], .non, by simp⟩
  | bl => exact ⟨[], .bl, by simp⟩
  | int => exact ⟨[], .int, by simp⟩
  | str => exact ⟨[], .str, by simp⟩
  | @lst a xs e =>
    obtain ⟨its, r, hl, hz⟩ := I.list e
    obtain ⟨o, n, e2, hc, _, hd⟩ := _root_.id hl
    exact ⟨[(a, o)], .lst (List.mem_singleton.mpr rfl) hc hd, fun q hq => by
      cases List.mem_singleton.mp hq
      exact ⟨e2, nP e2 hd⟩⟩
  | @tup a xs e =>
    obtain ⟨its, r, hl, hz⟩ := I.tuple e
    obtain ⟨o, e2, hc, n, hd⟩ := _root_.id hl
    exact ⟨[(a, o)], .tup (List.mem_singleton.mpr rfl) hc hd, fun q hq => by
      cases List.mem_singleton.mp hq
      exact ⟨e2, nP e2 hd⟩⟩
theorem kws_of {P : Addr} {ps : Array Value} (I : Inv X pins σ H s) (hP : H P = some (.tbl ps)) : ∀ (xs : List V), (∀ v ∈ xs, ∃ t, KH X.K H v t) → ∃ G : Pins, (∀ v ∈ xs, ∃ t, KW G v t) ∧ ∀ q ∈ G, s.heap.get? q.1 = some q.2 ∧ q.1 ≠ P
  | [], _ => ⟨[], by simp, by simp⟩
  | v :: xs, h => by
    obtain ⟨t, ht⟩ := h v (List.mem_cons_self ..)
    obtain ⟨G1, k1, g1⟩ := kw_of I hP ht
    obtain ⟨G2, k2, g2⟩ := kws_of I hP xs fun u hu => h u (List.mem_cons_of_mem _ hu)
    refine ⟨G1 ++ G2, fun u hu => ?_, fun q hq => ?_⟩
    · rcases List.mem_cons.mp hu with rfl | hu
      · exact ⟨t, k1.more fun q hq => List.mem_append_left _ hq⟩
      · obtain ⟨t2, h2⟩ := k2 u hu
        exact ⟨t2, h2.more fun q hq => List.mem_append_right _ hq⟩
    · rcases List.mem_append.mp hq with z | z
      · exact g1 q z
      · exact g2 q z
end
/-- as RE, RF, where there is room on the C stack -/
def REU (prog : Program) (w : World) (base : Heap) (D U : Nat) (env : Env) (vals : List (Str × V)) (G : Pins) (e : Expr) (v : V) : Prop :=
  ∀ (A : Around) (E : Value → Shared → Prop) (s : Shared) (m : Str → Option Value), A.handled = none → A.depth ≤ D → A.units ≤ U → RS base env vals G m s → wpAny (model prog w) A (eval e env) (fun y s' => RelV v y ∧ Keeps s s') E s
def RFU (prog : Program) (w : World) (base : Heap) (D U : Nat) (f : Addr) (vs : List V) (G : Pins) (v : V) : Prop :=
  ∀ (A : Around) (s : Shared) (us : List Value), A.handled = none → A.depth ≤ D → A.units ≤ U → (∀ b o, base.get? b = some o → s.heap.get? b = some o) → Vals vs us → (∀ q ∈ G, s.heap.get? q.1 = some q.2) →
    codeAny (model prog w) A (.call (.ref f) ⟨us, []⟩) (fun r s' => ∃ u, r = .ok (.ret u) ∧ RelV v u ∧ Keeps s s') s
section
variable {prog : Program} {w : World} {K : PySem.W.Frag} {mg : Str → Option Value} {base : Heap} {D U : Nat} {env : Env} {scope : Scope} {vals : List (Str × V)} {G : Pins} {e e1 e2 e3 : Expr} {es : List Expr} {v : V} {vs : List V} {p p1 p2 pos : Pos}
theorem RE.u (h : RE prog w base D env vals G e v) : REU prog w base D U env vals G e v := fun A E s m hA hD _ r => h A E s m hA hD r
/-- f(e, ..), f an own def -/
theorem re_callU {x : Str} {f : Addr} (M : Mod K mg base) (c : RC scope env) (hg : scope.names.lookup x = some .globalImplicit) (hm : mg x = some (.ref f)) (hk : PySem.W.keepIn K (.ref f) = true) (F : RFU prog w base D U f vs G v)
    (ha : RA prog w base D env vals G (e :: es) vs) (hdb : (x == ("__debug__" : Str)) = false := by decide) (he : starEach (e :: es) env = (false, eval e env) :: starEach es env := by rfl) (hpl : (backTo pos (starEach es env)).any (·.1) = false := by rfl) :
    REU prog w base D U env vals G (.Call (.Name x p) (e :: es) [] pos) v := by
  intro A E s m hA hD hU r
  refine wpAny_Call_Name_kw (ld_g M c r hg hm ?_ hdb)
  refine PySem.W.callWith_K (h₀ := base) M.kin hk (thn (ha pos A E s m hA hD r) fun us s1 ⟨r1, k1⟩ => ⟨M.kin.keeps (r.on k1).hb, ?_⟩) he hpl
  refine wpAny_call (codeAny_mono (F A s1 us hA hD hU (r.on k1).hb r1 (r.on k1).hG) fun r' s' hq => ?_)
  obtain ⟨u, rfl, ru, k⟩ := hq
  exact ⟨ru, keeps_trans k1 k⟩
/-- is it one of the texts -/
def inTx (ys : List Str) : V → Bool
  | .str a => ys.any fun y => y == a
  | _ => false
theorem any_no {ys : List Str} : ∀ {us : List Value}, Vals (ys.map V.str) us → us.any (fun _ => false) = false := fun _ => by simp
/-- a plain value in a tuple of texts of the written part -/
theorem re_inSU {l : Addr} {ys : List Str} {t : String} (M : Mod K mg base) (ht : ∀ H : Hp, SqT K H l (ys.map V.str)) (kw : KW G v t) (hu : U + 1 < cLine) (h1 : RE prog w base D env vals G e1 v) (h2 : RE prog w base D env vals G e2 (.ref l)) (hm : behindInMarks .In e2 = false := by with_unfolding_all rfl) :
    REU prog w base D U env vals G (.Compare e1 [.In] [e2] p) (.bl (inTx ys v)) := by
  intro A E s m hA hD hU r
  refine wpAny_Compare1 (thn (h1 A E s m hA hD r) fun y s1 ⟨r1, k1⟩ => (thn (h2 A E s1 m hA hD (r.on k1)) fun z s2 ⟨r2, k2⟩ => ?_)) hm
  cases r2
  have hb := ((r.on k1).on k2).hb
  have hG := ((r.on k1).on k2).hG
  have hu1 : A.in1.units < cLine := Nat.lt_of_le_of_lt (Nat.succ_le_succ hU) hu
  rcases ht (fun _ => none) with (h | ⟨_, h⟩) | ⟨o, its, n, lk, hc, hd, hz, rv⟩
  · cases h
  · cases h
  · have hl : s2.heap.IsTuple l its := ⟨o, M.kin.keeps hb _ _ lk, hc, n, hd⟩
    have no : its.any (fun _ => false) = false := by simp
    cases kw with
    | @str z0 =>
      obtain ⟨t, rfl⟩ := r1
      refine SeqAt.in_tupleAt (eqIn z0) hl (fun y hy => ?_) ⟨?_, keeps_trans k1 k2⟩
      · obtain ⟨z, t', rfl⟩ := str_of rv y (by simpa using hy)
        exact SeqAt.EqAt.str_str z t' z0 t
      · rw [← Array.any_toList, any_eqIn rv]
        rfl
    | non =>
      cases r1
      refine SeqAt.in_tupleAt (fun _ => false) hl (fun y hy => ?_) ⟨?_, keeps_trans k1 k2⟩
      · obtain ⟨z, t', rfl⟩ := str_of rv y (by simpa using hy)
        exact SeqAt.EqAt.str_none z t'
      · rw [no]; rfl
    | bl =>
      cases r1
      refine SeqAt.in_tupleAt (fun _ => false) hl (fun y hy => ?_) ⟨?_, keeps_trans k1 k2⟩
      · obtain ⟨z, t', rfl⟩ := str_of rv y (by simpa using hy)
        exact SeqAt.EqAt.str_bool z t' _
      · rw [no]; rfl
    | int =>
      obtain ⟨t, rfl⟩ := r1
      refine SeqAt.in_tupleAt (fun _ => false) hl (fun y hy => ?_) ⟨?_, keeps_trans k1 k2⟩
      · obtain ⟨z, t', rfl⟩ := str_of rv y (by simpa using hy)
        exact SeqAt.EqAt.str_int z t' _ t
      · rw [no]; rfl
    | lst hm hcl hda =>
      cases r1
      refine SeqAt.in_tupleAt (fun _ => false) hl (fun y hy => ?_) ⟨?_, keeps_trans k1 k2⟩
      · obtain ⟨z, t', rfl⟩ := str_of rv y (by simpa using hy)
        exact SeqAt.EqAt.str_list z t' ⟨_, hG _ hm, hcl, _, hda⟩ hu1
      · rw [no]; rfl
    | tup hm hcl hda =>
      cases r1
      refine SeqAt.in_tupleAt (fun _ => false) hl (fun y hy => ?_) ⟨?_, keeps_trans k1 k2⟩
      · obtain ⟨z, t', rfl⟩ := str_of rv y (by simpa using hy)
        exact SeqAt.EqAt.str_tuple z t' ⟨_, hG _ hm, hcl, _, hda⟩ hu1
      · rw [no]; rfl
/-- a def with one if ahead of its return -/
theorem rf_ifU {f : Addr} {fd : FuncData} {x : Str} {params : Arguments} {rp rp2 ip : Pos} {b : Bool} {N ps : List Str} (F : FunD K x x params [.If e3 [.Return (some e1) rp] [] ip, .Return (some e2) rp2] scope [] [] f fd) (M : Mod K mg base) (S : FnScope N ps scope) (hloc : ∀ y ∈ ps, scope.names.lookup y = some .local) (hnd : ps.Nodup)
    (hb : ∀ (kV doc pm : Value) (an : Option Addr) (cdv ct : Value) (us : List Value), us.length = ps.length → bindArgs (PySem.W.fnOf x x params [.If e3 [.Return (some e1) rp] [] ip, .Return (some e2) rp2] scope .none kV doc pm an cdv ct) ⟨us, []⟩ = pure (ps.zip us))
    (hl : vs.length = ps.length) (hD : D < recursionLimit) (test : ∀ env : Env, RC scope env → RT prog w base (D + 1) env (ps.zip vs) G e3 b) (body1 : b = true → ∀ env : Env, RC scope env → REU prog w base (D + 1) (U + 3) env (ps.zip vs) G e1 v) (body2 : b = false → ∀ env : Env, RC scope env → REU prog w base (D + 1) (U + 3) env (ps.zip vs) G e2 v) : RFU prog w base D U f vs G v := by
  intro A s us hA hAD hAU hs r hG
  obtain ⟨oc, od, dV, kV, doc, pm, an, cdv, ct, osl, rfl, lk, hcd, hdv, _⟩ := F.ex
  have KX : K.In s.heap := M.kin.keeps hs
  have lim : s.heap.NoLimit := M.nolimit.keeps hs
  have hul : us.length = ps.length := by rw [← r.length]; exact hl
  have hdn : dV = .none := by
    rcases hdv with ⟨_, h⟩ | ⟨h, _⟩
    · exact h
    · exact absurd rfl h
  subst hdn
  refine codeAny_call_function (Nat.lt_of_le_of_lt hAD hD) (KX _ _ lk) rfl S.co S.gen rfl (PySem.W.codeRec_of KX hcd) ?_
  rw [hb _ _ _ _ _ _ us hul]
  refine wpAny_pure ?_
  refine wpAny_newFunctionEnv_cells S.kind (fun ⟨n, v⟩ hy => .inl (hloc n (List.of_mem_zip hy).1)) fun env he s1 x => ?_
  have hk : ∀ b o, s.heap.get? b = some o → s1.heap.get? b = some o := x.toInCall.keep
  refine ⟨lim.keeps hk, codeAny_func ?_⟩
  have hks : Keeps s s1 := by
    obtain ⟨h1, t1, e1⟩ := x.toInCall.same
    exact ⟨h1, t1, e1, by rw [e1] at hk; exact hk⟩
  have hR : RS base env (ps.zip vs) G _ s1 := ⟨fun b o q => hk b o (hs b o q), x.toInCall.ns, fun q hq => ?_, fun q hq => hk _ _ (hG q hq)⟩
  · have cR : RC scope env := by subst he; exact ⟨S.kind, rfl, rfl, rfl⟩
    have hA2 : (A.deeper env).handled = none := hA
    refine wpAny_execs_cons (wpAny_If (thn (test env cR (A.deeper env) _ s1 _ hA (Nat.succ_le_succ hAD) hR) fun b' s2 ⟨e', k'⟩ => ?_))
    subst e'
    cases b' with
    | true =>
      refine wpAny_execs_cons (wpAny_Return_some (thn (body1 rfl env cR (A.deeper env) _ s2 _ hA (Nat.succ_le_succ hAD) (Nat.add_le_add_right hAU 3) (hR.on k')) fun y s' ⟨ry, ky⟩ => ?_))
      exact ⟨y, rfl, ry, keeps_trans hks (keeps_trans k' ky)⟩
    | false =>
      refine wpAny_execs_nil ?_
      refine wpAny_execs_cons (wpAny_Return_some (thn (body2 rfl env cR (A.deeper env) _ s2 _ hA (Nat.succ_le_succ hAD) (Nat.add_le_add_right hAU 3) (hR.on k')) fun y s' ⟨ry, ky⟩ => ?_))
      exact ⟨y, rfl, ry, keeps_trans hks (keeps_trans k' ky)⟩
  · obtain ⟨i, hi, ei⟩ := List.getElem_of_mem hq
    rw [List.getElem_zip] at ei
    subst ei
    have hi1 : i < ps.length := by rw [List.length_zip] at hi; omega
    have hi2 : i < vs.length := by rw [List.length_zip] at hi; omega
    obtain ⟨u, hu, ru⟩ := r.get (List.getElem?_eq_getElem hi2)
    refine ⟨u, bindL_get hnd (List.getElem?_eq_getElem hi1) hu ?_, ru⟩
    subst he
    exact hloc _ (List.getElem_mem hi1)
end
section
variable {X : Cx} {pins : List (Addr × Obj)} {σ : L2.St} {H : Hp} {s : Shared}
theorem gen_zipU {c P : Addr} {elt : Expr} {xa xb : Str} {gpos : Pos} {scope : Scope} {pb : Str → V → Bool} {ok : Nat → V → Prop} {k n : Nat} {Q' : Value → Shared → Prop} {x : Str} {its : List Value} {xs : List V} {s1 : Shared} {H1 : Hp} {ps : Array Value} {h2 : Heap} {I : Addr} {fp wr : List Addr} {Pt : Nat → Array Value → Prop} {St0 : Nat → Heap → Prop} {Mid : Nat → Addr → Heap → Prop}
    (hr : Room k X.A) (TB : GxR.TabB X.base X.mg c P) (hcode : X.env.code = .ref c) (S : GenS2 X.env scope xa xb)
    (hel : Mod X.K X.mg X.base → ∀ (cenv : Env) (G : Pins) (c : Nat) (v : V) (t : String), RC scope cenv → KW G v t → ok c v → REU X.prog X.w X.base (X.A.depth + 1) (X.A.units + 8) cenv [(xa, .str ⟨#[c]⟩), (xb, v)] G elt (.bl (pb ⟨#[c]⟩ v)))
    (I1 : Inv X pins σ H1 s1) (hP : H1 P = some (.tbl ps)) (ht : TriplesOk ps.toList) (hxs : ∀ v ∈ xs, ∃ t, KH X.K H1 v t) (rv : Vals xs its) (hn : n = min x.cps.size xs.length) (hok : ∀ (i c : Nat) (v : V), x.cps[i]? = some c → xs[i]? = some v → ok c v)
    (hk2 : ∀ b o, s1.heap.get? b = some o → h2.get? b = some o) (lim2 : h2.NoLimit) (W0 : ∀ A' : Around, A'.handled = none → WalksU X.prog X.w A' I fp wr n Pt St0 Mid) (hst0 : St0 0 h2)
    (hPt : ∀ i vals, Pt i vals → ∃ (c u : Nat) (v' : Value), vals = #[.str ⟨#[c]⟩ u, v'] ∧ x.cps[i]? = some c ∧ its[i]? = some v')
    (hfp : ∀ b ∈ fp, b < h2.objs.size ∧ b ≠ P) (hwr : ∀ b ∈ wr, s1.heap.objs.size ≤ b) (hsz2 : s1.heap.objs.size ≤ h2.objs.size)
    (hQ : ∀ g s5, ReadyZ X pins σ H1 P n (trZ pb x xs) g s5 → Q' (.ref g) s5) :
    h2.NoLimit ∧ wpAny (model X.prog X.w) X.A (genexprCode X.env gpos (X.env.qual ++ "<genexpr>") scope) (fun code s₃ => wpAny (model X.prog X.w) X.A (builtinsFor X.env.globals X.env.builtins) (fun bi s₄ =>
        ∃ Ia fp wr n₀ Pt St₀ Mid pz F, Value.ref I = .ref Ia ∧ (∀ A' : Around, A'.handled = none → WalksU X.prog X.w A' Ia fp wr n₀ Pt St₀ Mid) ∧ (∀ i vals, Pt i vals → ∃ va vb, vals = #[va, vb]) ∧ St₀ 0 s₄.heap ∧ (∀ b ∈ fp, b < s₄.heap.objs.size) ∧ s₄.heap.NoLimit ∧ cStatics ∉ wr ∧
          (∀ href : Heap, (∀ b o, s₄.heap.get? b = some o → href.get? b = some o) →
            QuietGenTD X.prog X.w (genEnv scope (cloFrom X.env.cells scope.names []) s₄.heap.objs.size code bi X.env) xa xb [] elt (List.range s₄.heap.objs.size) wr Pt pz F href (X.A.depth + 1) (X.A.units + 8)) ∧
          (∀ a h₅ tk gs, gs.bare = true → s₄.heap.objs.size < a → h₅.objs.size = a + 1 → (∀ b o, s₄.heap.get? b = some o → h₅.get? b = some o) →
            WalksS X.prog X.w X.A.in4 a (a :: s₄.heap.objs.size :: List.range s₄.heap.objs.size) (s₄.heap.objs.size :: wr) (GenOnlyQ s₄.gens.size) (passing pz n₀ 0).length
              (fun j y => ∃ i, (passing pz n₀ 0)[j]? = some i ∧ F i y) (GenAt X.prog X.w X.A.in4 a s₄.gens.size s₄.heap.objs.size (List.range s₄.heap.objs.size) wr pz n₀ F) →
            GenAt X.prog X.w X.A.in4 a s₄.gens.size s₄.heap.objs.size (List.range s₄.heap.objs.size) wr pz n₀ F 0 { s₄ with gens := s₄.gens.push gs, toks := tk, heap := h₅ } →
            Q' (.ref a) { s₄ with gens := s₄.gens.push gs, toks := tk, heap := h₅ })) X.xe s₃) X.xe { s1 with heap := h2 } := by
  obtain ⟨G, hkv, hG⟩ := kws_of I1 hP xs hxs
  have hlen : its.length = xs.length := by rw [← rv.length]
  have hat : ∀ (i : Nat) (u : Value), its[i]? = some u → ∃ v, xs[i]? = some v ∧ RelV v u := fun i u hv2 => by
    have hi2 : i < its.length := (List.getElem?_eq_some_iff.mp hv2).1
    obtain ⟨a, ha⟩ : ∃ a, xs[i]? = some a := ⟨xs[i]'(by omega), List.getElem?_eq_getElem _⟩
    obtain ⟨u2, hu, ru⟩ := rv.get ha
    rw [hv2] at hu
    cases hu
    exact ⟨a, ha, ru⟩
  have hPs : s1.heap.get? P = some { cls := .none, data := .fields ps } := I1.hok P _ hP
  have hPlt : P < s1.heap.objs.size := Heap.lt_size hPs
  have hP2 : h2.get? P = some { cls := .none, data := .fields ps } := hk2 _ _ hPs
  have cd : PySem.W.CodeHd h2 c P := TB.code.keeps fun b u e => hk2 _ _ (I1.bk b u e)
  have cont : ∀ (code : Value) (h3 : Heap) (tk : Nat) (ps' : Array Value), Heap.ExtBut P h2 h3 → h2.objs.size ≤ h3.objs.size → h3.get? P = some { cls := .none, data := .fields ps' } → (∃ more, ps' = ps ++ more) → TriplesOk ps'.toList →
      wpAny (model X.prog X.w) X.A (builtinsFor X.env.globals X.env.builtins) (fun bi s₄ =>
        ∃ Ia fp wr n₀ Pt St₀ Mid pz F, Value.ref I = .ref Ia ∧ (∀ A' : Around, A'.handled = none → WalksU X.prog X.w A' Ia fp wr n₀ Pt St₀ Mid) ∧ (∀ i vals, Pt i vals → ∃ va vb, vals = #[va, vb]) ∧ St₀ 0 s₄.heap ∧ (∀ b ∈ fp, b < s₄.heap.objs.size) ∧ s₄.heap.NoLimit ∧ cStatics ∉ wr ∧
          (∀ href : Heap, (∀ b o, s₄.heap.get? b = some o → href.get? b = some o) →
            QuietGenTD X.prog X.w (genEnv scope (cloFrom X.env.cells scope.names []) s₄.heap.objs.size code bi X.env) xa xb [] elt (List.range s₄.heap.objs.size) wr Pt pz F href (X.A.depth + 1) (X.A.units + 8)) ∧
          (∀ a h₅ tk gs, gs.bare = true → s₄.heap.objs.size < a → h₅.objs.size = a + 1 → (∀ b o, s₄.heap.get? b = some o → h₅.get? b = some o) →
            WalksS X.prog X.w X.A.in4 a (a :: s₄.heap.objs.size :: List.range s₄.heap.objs.size) (s₄.heap.objs.size :: wr) (GenOnlyQ s₄.gens.size) (passing pz n₀ 0).length
              (fun j y => ∃ i, (passing pz n₀ 0)[j]? = some i ∧ F i y) (GenAt X.prog X.w X.A.in4 a s₄.gens.size s₄.heap.objs.size (List.range s₄.heap.objs.size) wr pz n₀ F) →
            GenAt X.prog X.w X.A.in4 a s₄.gens.size s₄.heap.objs.size (List.range s₄.heap.objs.size) wr pz n₀ F 0 { s₄ with gens := s₄.gens.push gs, toks := tk, heap := h₅ } →
            Q' (.ref a) { s₄ with gens := s₄.gens.push gs, toks := tk, heap := h₅ })) X.xe { s1 with heap := h3, toks := tk } := by
    intro code h3 tk ps' hx hsz hP3 hmore ht3
    obtain ⟨bm, ob, e1, e2, e3, e4, e5, e6, e7, e8⟩ := TB.bm
    have hcP : cStatics ≠ P := fun e => by
      obtain ⟨_, hns, _⟩ := I1.nolimit
      obtain ⟨o', es, ep, ho, hd, _⟩ := hns
      rw [e, hPs] at ho
      cases ho
      cases hd
    have hcl : cStatics < s1.heap.objs.size := let ⟨_, hns, _⟩ := I1.nolimit; hns.lt
    have keep3 : ∀ b u, b ≠ P → s1.heap.get? b = some u → h3.get? b = some u := fun b u hb e => hx b u hb (hk2 _ _ e)
    have hbP : ∀ b u, X.base.get? b = some u → b ≠ P := fun b u e z => by
      have e2 := (I1.bs b u e).2
      rw [z, hP] at e2
      cases e2
    have lim3 : h3.NoLimit := lim2.extBut hx hcP
    have hxat : ∀ (i c u : Nat) (v' : Value), x.cps[i]? = some c → its[i]? = some v' → ∃ v, xs[i]? = some v ∧ RelV v v' := fun i c u v' _ h => hat i v' h
    refine wpAny_builtinsFor (m := X.mg) (by rw [I1.ok.glob]; exact ((I1.mod.glob.keeps I1.bk).keeps hk2).extBut hx TB.gP) e1 e2 (keep3 _ _ e4 (I1.bk _ _ e5)) e6 e7 e8 ?_
    refine ⟨I, fp, wr, n, Pt, St0, Mid, (fun _ => true),
      (fun i z => ∃ c v, x.cps[i]? = some c ∧ xs[i]? = some v ∧ z = .bool (pb ⟨#[c]⟩ v)), rfl, W0, (fun i vals h => let ⟨c, u, v', e, _⟩ := hPt i vals h; ⟨_, _, e⟩), ?_, ?_, lim3, ?_, ?_, ?_⟩
    · exact (W0 X.A hr.hd).frame _ _ _ hst0 fun b hb u e => hx b u (hfp b hb).2 e
    · intro b hb
      have e9 : h2.objs.size ≤ h3.objs.size := by omega
      exact Nat.lt_of_lt_of_le (hfp b hb).1 e9
    · intro z
      have := hwr _ z
      exact absurd hcl (Nat.not_lt_of_le this)
    · intro href hhref
      refine ⟨fun A' E' i va vb s₂ m₂ hA hD hU hPv hn2 hma hmb hk => ?_, fun A' E' i va vb s₂ m₂ hA hD hU hPv hp hn2 hma hmb hk => ?_⟩
      · simp only [List.forIn_nil]
        exact wpAny_pure ⟨rfl, keeps_self _⟩
      · obtain ⟨c0, u0, v', ev, hc0, hv'⟩ := hPt i _ hPv
        obtain ⟨rfl, rfl⟩ : va = .str ⟨#[c0]⟩ u0 ∧ vb = v' := by simpa using congrArg Array.toList ev
        obtain ⟨v, hv, ru⟩ := hat i vb hv'
        obtain ⟨t, kv⟩ := hkv v (List.mem_of_getElem? hv)
        have kept : ∀ b q, b ≠ P → s1.heap.get? b = some q → s₂.heap.get? b = some q := fun b q hb e => by
          have hl := Heap.lt_size e
          refine hk b (List.mem_range.mpr (Nat.lt_of_lt_of_le hl (show s1.heap.objs.size ≤ h3.objs.size by omega))) (fun z => ?_) q (hhref b q (keep3 b q hb e))
          exact absurd hl (Nat.not_lt_of_le (hwr b z))
        have hR : RS X.base (genEnv scope (cloFrom X.env.cells scope.names []) h3.objs.size code builtinsNs X.env) [(xa, .str ⟨#[c0]⟩), (xb, v)] G m₂ s₂ :=
          ⟨fun b q e => kept b q (hbP b q e) (I1.bk b q e), hn2, fun q hq => by
            rcases List.mem_cons.mp hq with z | z
            · cases z; exact ⟨_, hma, ⟨_, rfl⟩⟩
            · cases List.mem_singleton.mp z; exact ⟨vb, hmb, ru⟩, fun q hq => kept q.1 q.2 (hG q hq).2 (hG q hq).1⟩
        refine wpAny_mono (hel I1.mod (genEnv scope (cloFrom X.env.cells scope.names []) h3.objs.size code builtinsNs X.env) G c0 v t ⟨S.kind, rfl, I1.ok.glob, rfl⟩ kv (hok i c0 v hc0 hv) A' E' s₂ m₂ hA hD hU hR) (fun z s3 r => ⟨⟨c0, v, hc0, hv, ?_⟩, r.2⟩) fun _ _ e => e
        exact r.1
    · intro g h5 tk5 gs hgb hag hsz5 hk5 W5 hgat
      simp only [GxR.passing_true, List.length_range] at W5
      refine hQ g _ ⟨_, _, _, _, _, W5.in4_1, hgat, ?_, fun s' hm => ?_⟩
      · intro j z sj Qj Ej hy hQj
        obtain ⟨i, hij, c0, v, hc0, hv, rfl⟩ := hy
        obtain ⟨hj, ej⟩ := List.getElem?_eq_some_iff.mp hij
        rw [List.getElem_range] at ej
        subst ej
        rw [trZ_some hc0 hv] at hQj
        exact wpAny_truthy_bool hQj
      · obtain ⟨more, em⟩ := hmore
        have nwr : ∀ b u, s1.heap.get? b = some u → b ∉ h3.objs.size :: wr := fun b u e hb => by
          have hl := Heap.lt_size e
          rcases List.mem_cons.mp hb with z | z
          · rw [z] at hl
            have h9 : (h3.objs.size : Nat) < s1.heap.objs.size := hl
            omega
          · exact absurd hl (Nat.not_lt_of_le (hwr b z))
        have J := GxR.inv_tab (more := more) (h' := s'.heap) (g' := s'.gens) (d' := s'.drawn) (t' := s'.toks) I1 hP (fun b u hb e => hm.heap b u (nwr b u e) (hk5 b u (keep3 b u hb e)))
          (by rw [← em]; exact hm.heap P _ (nwr P _ hPs) (hk5 P _ hP3)) (AllBare.movedS (I1.bare.push hgb) hm)
        rw [GxR.sh_eta s1 s' hm.os] at J
        refine ⟨upd H1 P (.tbl (ps ++ more)), ⟨⟨ps ++ more, upd_same, by rw [← em]; exact ht3⟩, fun b hb => upd_ne hb⟩, J⟩
  refine ⟨lim2, ?_⟩
  cases hf : codeAmong gpos ps.toList with
  | none =>
    refine wpAny_genexprCodeX hcode (cd.code hP2 ht) (cd.tab hP2) hf fun c' h' tk hx hge hlt hco' _ htab' _ => ?_
    obtain ⟨o1, vs, f1, tf, fl, tg, inF, tx, tt, op, _, _, _, _, _, _, _, _, _, htr, _⟩ := hco'
    exact cont _ h' tk _ hx (Nat.le_trans hge (Nat.le_of_lt hlt)) htab'.2 ⟨_, rfl⟩ htr
  | some cv =>
    refine wpAny_genexprCode_hit hcode (cd.code hP2 ht) hf ?_
    exact cont cv h2 s1.toks ps (Heap.ExtBut.refl _ _) (Nat.le_refl _) hP2 ⟨#[], by simp⟩ ht
theorem pe_allZU {c P : Addr} {elt e1 e2 : Expr} {xa xb : Str} {p p2 pa pb2 pt pos pos2 gpos : Pos} {kt : Nat} {scope : Scope} {pb : Str → V → Bool} {ok : Nat → V → Prop} {ta : TA} {k : Nat}
    (hr : Room k X.A) (hg : Gl X "all") (hm : X.mg "all" = none) (hgz : Gl X "zip") (hmz : X.mg "zip" = none) (TB : GxR.TabB X.base X.mg c P) (hcode : X.env.code = .ref c) (S : GenS2 X.env scope xa xb) (ha : PA X [e1, e2] ta)
    (hel : Mod X.K X.mg X.base → ∀ (cenv : Env) (G : Pins) (c : Nat) (v : V) (t : String), RC scope cenv → KW G v t → ok c v → REU X.prog X.w X.base (X.A.depth + 1) (X.A.units + 8) cenv [(xa, .str ⟨#[c]⟩), (xb, v)] G elt (.bl (pb ⟨#[c]⟩ v)))
    (hs : ∀ v, genFold (.Call (.Name "zip" p2) [e1, e2] [] pos2) X.env v = pure v)
    (he : starEach [.GeneratorExp elt [⟨.Tuple [.Name xa pa, .Name xb pb2] kt pt, .Call (.Name "zip" p2) [e1, e2] [] pos2, [], 0⟩] scope gpos] X.env = (false, eval (.GeneratorExp elt [⟨.Tuple [.Name xa pa, .Name xb pb2] kt pt, .Call (.Name "zip" p2) [e1, e2] [] pos2, [], 0⟩] scope gpos) X.env) :: starEach [] X.env := by rfl)
    (hs2 : starEach [e1, e2] X.env = (false, eval e1 X.env) :: starEach [e2] X.env := by rfl) (hpl : (backTo pos2 (starEach [e2] X.env)).any (·.1) = false := by rfl) :
    PE X (.Call (.Name "all" p) [.GeneratorExp elt [⟨.Tuple [.Name xa pa, .Name xb pb2] kt pt, .Call (.Name "zip" p2) [e1, e2] [] pos2, [], 0⟩] scope gpos] [] pos) (tAllZ X.K P pb ok ta) := by
  refine ⟨fun pins s σ H Q I h => ?_⟩
  refine wpAny_Call_Name_kw (ld_blt I hg hm (by rfl) ?_)
  refine PyProof.Rows.callWith_builtin1 ?_ he (by rfl)
  rw [he]
  show wpAny _ _ (spliced ((false, eval (.GeneratorExp elt [⟨.Tuple [.Name xa pa, .Name xb pb2] kt pt, .Call (.Name "zip" p2) [e1, e2] [] pos2, [], 0⟩] scope gpos) X.env) :: backTo pos (starEach [] X.env))) _ _ s
  refine Calls.spliced_cons ?_
  refine wpAny_GeneratorExp_walksQTD hr.hd S.co (closure_ok S.free) S.cell S.dot S.la S.lb S.ab S.kind (by have := hr.dp; omega) ?_ hs
  refine Call_ (ld_blt I hgz hmz PyProof.Rows.boot_zip (PyProof.Rows.callWith_type1 (thn (ha.run pos2 pins s σ H _ I h) fun us s1 ⟨vs, H1, I1, r1, q1⟩ => ?_) hs2 hpl))
  obtain ⟨x, y, xs, ex, hy, hxs, hok, ⟨ps, hP, ht⟩, hR⟩ := q1
  subst ex
  cases r1 with
  | cons r rr =>
    cases rr with
    | cons r' rr =>
      cases rr
      obtain ⟨t, rfl⟩ := r
      cases r'
      obtain ⟨its, rv, hl, _⟩ := I1.tuple hy
      have hIT : s1.heap.IsTuple y its.toArray := hl
      have hlt : y < s1.heap.objs.size := let ⟨_, e1, _⟩ := id hl; Heap.lt_size e1
      have hyP : y ≠ P := fun z => by
        obtain ⟨_, e, hc1, hd1⟩ := _root_.id hl
        obtain ⟨_, hd1⟩ := hd1
        rw [z, I1.hok P _ hP] at e
        cases e
        cases hd1
      have hPlt : P < s1.heap.objs.size := Heap.lt_size (I1.hok P _ hP)
      have hlen : its.toArray.size = xs.length := by rw [rv.length]; exact List.size_toArray ..
      refine call_zipS hIT fun h' M => wpAny_pyIter_zip M.z ?_
      have I2 : Inv X pins σ H1 { s1 with heap := h' } := I1.kept (t' := s1.toks) M.keep
      have hne : y ≠ s1.heap.objs.size + 1 := Nat.ne_of_lt (Nat.lt_of_lt_of_le hlt (Nat.le_add_right _ 1))
      have hz := M.size
      refine gen_zipU (Q' := fun u s₁ => wpAny (model X.prog X.w) X.A (spliced (backTo pos (starEach [] X.env))) (fun vs s₁ => wpAny (model X.prog X.w) X.A (call (.builtin "all") (u :: vs)) (EP X pins σ Q) X.xe s₁) X.xe s₁)
        (n := min x.cps.size its.toArray.size) (x := x) (I := s1.heap.objs.size + 4) hr TB hcode S hel I1 hP ht hxs rv (by rw [hlen]) hok M.keep I2.nolimit
        (fun A' hA => (WalksT.zipD2 (prog := X.prog) (w := X.w) (A := A') (sep_of hlt) (drawsStr (prog := X.prog) (w := X.w) (A := A'.in1) hA s1.heap.objs.size x t) (drawsTuple (prog := X.prog) (w := X.w) (A := A'.in1) hA (s1.heap.objs.size + 1) y hne its.toArray)).toU)
        ⟨M.z, M.TI, ⟨_, _, M.TO⟩, M.i1, M.i2, hIT.at fun o e => M.keep _ o e⟩ ?_ ?_ ?_ (show s1.heap.objs.size ≤ h'.objs.size by omega) ?_
      · rintro i vals ⟨x1, x2, ⟨c0, u0, hc0, rfl⟩, h2, rfl⟩
        exact ⟨c0, u0, x2, rfl, hc0, by simpa using h2⟩
      · intro b hb
        have e' : b = s1.heap.objs.size + 4 ∨ b = s1.heap.objs.size + 2 ∨ b = s1.heap.objs.size + 3 ∨ b = s1.heap.objs.size ∨ b = s1.heap.objs.size + 1 ∨ b = y := by simpa using hb
        have hb5 : ∀ d : Nat, d < 5 → s1.heap.objs.size + d < h'.objs.size ∧ (s1.heap.objs.size + d : Nat) ≠ P := fun d hd => ⟨by omega, Nat.ne_of_gt (Nat.lt_of_lt_of_le hPlt (Nat.le_add_right _ _))⟩
        rcases e' with z | z | z | z | z | z
        · rw [z]; exact hb5 4 (by decide)
        · rw [z]; exact hb5 2 (by decide)
        · rw [z]; exact hb5 3 (by decide)
        · rw [z]; exact hb5 0 (by decide)
        · rw [z]; exact hb5 1 (by decide)
        · rw [z]; exact ⟨Nat.lt_of_lt_of_le hlt (by rw [hz]; exact Nat.le_add_right _ _), hyP⟩
      · intro b hb
        have e' : b = s1.heap.objs.size + 4 ∨ b = s1.heap.objs.size + 3 ∨ b = s1.heap.objs.size ∨ b = s1.heap.objs.size + 1 := by simpa using hb
        rcases e' with z | z | z | z
        · rw [z]; exact Nat.le_add_right _ _
        · rw [z]; exact Nat.le_add_right _ _
        · rw [z]; exact Nat.le_refl _
        · rw [z]; exact Nat.le_add_right _ _
      · intro g s5 hG
        obtain ⟨fp, wr, G, F, St, W, hst, htr, hI⟩ := hG
        refine Calls.spliced_nil ?_
        refine call_all_walkS (W.self 0 _ _ _ hst ⟨g, fp, wr, G, _, F, St, _, rfl, W, hst, htr, fun s' hmv => ?_⟩)
        obtain ⟨H2, hT, J⟩ := hI s' hmv
        refine ⟨.bl _, H2, J, rfl, ?_⟩
        rw [hlen]
        exact hR H2 hT
end
end Wk
set_option Elab.async false
set_option linter.all false
set_option maxRecDepth 100000
set_option maxHeartbeats 4000000
namespace K08
open PySem PySem.Spec PyProof.Rows L2 Wk
def top (i : Nat) : Stmt := PySem.Challenge.pw_wardwork_k08_code_and_back.main.body.getD i (.Pass ⟨0, 0, 0, 0⟩)
/-- what the top leaves that the defs lean on -/
structure Txt (K : PySem.W.Frag) (mg : Str → Option Value) (aREG aOPS : Addr) : Prop extends Bt mg where
  g_WORDS : ∃ u, mg "WORDS" = some u ∧ RelV (.int 65536) u
  g_REGISTERS : ∃ u, mg "REGISTERS" = some u ∧ RelV (.ref aREG) u
  g_OPERATIONS : ∃ u, mg "OPERATIONS" = some u ∧ RelV (.ref aOPS) u
abbrev FunT (K : PySem.W.Frag) (x : Str) (st : Stmt) (f : Addr) (fd : FuncData) : Prop := FunD K x x (defArgs st) (defBody st) (defScope st) [] [] f fd
/-- a def of the module that stands under its name -/
def DefAt (K : PySem.W.Frag) (mg : Str → Option Value) (x : Str) (st : Stmt) : Prop := ∃ f fd, FunT K x st f fd ∧ mg x = some (.ref f)
/-- the same, with its code object -/
def DefAtC (K : PySem.W.Frag) (mg : Str → Option Value) (x : Str) (st : Stmt) (c : Addr) : Prop := ∃ f fd, (FunT K x st f fd ∧ fd.code = .ref c) ∧ mg x = some (.ref f)
section
variable {P : Program} {w : World} {K : PySem.W.Frag} {mg : Str → Option Value} {base : Heap} {aREG aOPS : Addr}
theorem mk {x : Str} {st : Stmt} {N ps : List Str} {k : Nat} {sp : Sp} (d : DefAt K mg x st) (S : FnScope N ps (defScope st))
    (hb : ∀ (kV doc pm : Value) (an : Option Addr) (cdv ct : Value) (us : List Value), us.length = ps.length → bindArgs (PySem.W.fnOf x x (defArgs st) (defBody st) (defScope st) .none kV doc pm an cdv ct) ⟨us, []⟩ = pure (ps.zip us))
    (len : ∀ vs H Q E, sp vs H Q E → vs.length = ps.length)
    (body : ∀ (f : Addr) (cdv : Value) (A : Around) (outer : List Env) (s : Shared) (H : Hp) (vs : List V) (Q : VK) (E : XK), Room k (A.deeper (envOfC x (defScope st) s.heap.objs.size f cdv)) → sp vs H Q E →
      ∃ t, PSs (cxOf CX0 P w K mg base N x (defScope st) f cdv A outer s H E).nox (defBody st) t ∧ t { nx := fun _ H' => Q .non H', rt := Q } (start N vs) H) : C8.Cal P w K mg base (k + 1) x sp [] := by
  obtain ⟨f, fd, F, hm⟩ := d
  refine ⟨f, fd, ps, [], F.ok S len (fun cdv A outer s H vs Q E hr hsp => ?_), hm, F.kp, F.bindsN hb, .nil⟩
  obtain ⟨t, h, q⟩ := body f cdv A outer s H vs Q E hr hsp
  exact ⟨t, h.nox, q⟩
theorem mkC {x : Str} {st : Stmt} {c : Addr} {N ps : List Str} {k : Nat} {sp : Sp} (d : DefAtC K mg x st c) (S : FnScope N ps (defScope st))
    (hb : ∀ (kV doc pm : Value) (an : Option Addr) (cdv ct : Value) (us : List Value), us.length = ps.length → bindArgs (PySem.W.fnOf x x (defArgs st) (defBody st) (defScope st) .none kV doc pm an cdv ct) ⟨us, []⟩ = pure (ps.zip us))
    (len : ∀ vs H Q E, sp vs H Q E → vs.length = ps.length)
    (body : ∀ (f : Addr) (A : Around) (outer : List Env) (s : Shared) (H : Hp) (vs : List V) (Q : VK) (E : XK), Room k (A.deeper (envOfC x (defScope st) s.heap.objs.size f (.ref c))) → sp vs H Q E →
      ∃ t, PSs (cxOf CX0 P w K mg base N x (defScope st) f (.ref c) A outer s H E).nox (defBody st) t ∧ t { nx := fun _ H' => Q .non H', rt := Q } (start N vs) H) : C8.Cal P w K mg base (k + 1) x sp [] := by
  obtain ⟨f, fd, ⟨F, hc⟩, hm⟩ := d
  refine ⟨f, fd, ps, [], ?_, hm, F.kp, F.bindsN hb, .nil⟩
  obtain ⟨oc, od, dV, kV, doc, pm, an, cdv, ct, osl, rfl, lk, hcd, _, _⟩ := F.ex
  cases (show cdv = .ref c from hc)
  exact fn_of lk hcd S len fun A outer s H vs Q E hr hsp => let ⟨t, h, q⟩ := body f A outer s H vs Q E hr hsp; ⟨t, h.nox, q⟩
theorem mkF {x : Str} {st : Stmt} {N ps : List Str} {k : Nat} {sp : Sp} {f : Addr} {fd : FuncData} (F : FunT K x st f fd) (S : FnScope N ps (defScope st))
    (len : ∀ vs H Q E, sp vs H Q E → vs.length = ps.length)
    (body : ∀ (f : Addr) (cdv : Value) (A : Around) (outer : List Env) (s : Shared) (H : Hp) (vs : List V) (Q : VK) (E : XK), Room k (A.deeper (envOfC x (defScope st) s.heap.objs.size f cdv)) → sp vs H Q E →
      ∃ t, PSs (cxOf CX0 P w K mg base N x (defScope st) f cdv A outer s H E).nox (defBody st) t ∧ t { nx := fun _ H' => Q .non H', rt := Q } (start N vs) H) : FnOk P w K mg base CX0 (k + 1) f fd ps sp :=
  F.ok S len fun cdv A outer s H vs Q E hr hsp => let ⟨t, h, q⟩ := body f cdv A outer s H vs Q E hr hsp; ⟨t, h.nox, q⟩
abbrev s__law_mixed : Stmt := top 33
abbrev nm__law_mixed : List Str := ["number", "turn", "many", "first", "second", "third"]
theorem sc__law_mixed : FnScope nm__law_mixed ["number", "turn", "many"] (defScope s__law_mixed) := ⟨rfl, rfl, rfl, by decide +kernel, rfl, by decide +kernel, by decide +kernel⟩
abbrev s__law_store : Stmt := top 34
abbrev nm__law_store : List Str := ["script", "salt", "seed", "cell"]
theorem sc__law_store : FnScope nm__law_store ["script", "salt"] (defScope s__law_store) := ⟨rfl, rfl, rfl, by decide +kernel, rfl, by decide +kernel, by decide +kernel⟩
abbrev s__law_take : Stmt := top 35
abbrev nm__law_take : List Str := ["store", "many", "cell", "digit"]
theorem sc__law_take : FnScope nm__law_take ["store", "many"] (defScope s__law_take) := ⟨rfl, rfl, rfl, by decide +kernel, rfl, by decide +kernel, by decide +kernel⟩
abbrev s__law_between : Stmt := top 36
abbrev nm__law_between : List Str := ["store", "low", "high", "many", "way"]
theorem sc__law_between : FnScope nm__law_between ["store", "low", "high"] (defScope s__law_between) := ⟨rfl, rfl, rfl, by decide +kernel, rfl, by decide +kernel, by decide +kernel⟩
abbrev s__law_pick : Stmt := top 37
abbrev nm__law_pick : List Str := ["store", "row"]
theorem sc__law_pick : FnScope nm__law_pick ["store", "row"] (defScope s__law_pick) := ⟨rfl, rfl, rfl, by decide +kernel, rfl, by decide +kernel, by decide +kernel⟩
abbrev s__law_alike : Stmt := top 42
abbrev nm__law_alike : List Str := ["one", "two", "k"]
theorem sc__law_alike : FnScope nm__law_alike ["one", "two"] (defScope s__law_alike) := ⟨rfl, rfl, rfl, by decide +kernel, rfl, by decide +kernel, by decide +kernel⟩
abbrev s__law_copy : Stmt := top 43
abbrev nm__law_copy : List Str := ["value", "x"]
theorem sc__law_copy : FnScope nm__law_copy ["value"] (defScope s__law_copy) := ⟨rfl, rfl, rfl, by decide +kernel, rfl, by decide +kernel, by decide +kernel⟩
abbrev s_is_integer : Stmt := top 17
abbrev nm_is_integer : List Str := ["x"]
theorem sc_is_integer : FnScope nm_is_integer ["x"] (defScope s_is_integer) := ⟨rfl, rfl, rfl, by decide +kernel, rfl, by decide +kernel, by decide +kernel⟩
abbrev s_is_in_range : Stmt := top 18
abbrev nm_is_in_range : List Str := ["x", "least", "most"]
theorem sc_is_in_range : FnScope nm_is_in_range ["x", "least", "most"] (defScope s_is_in_range) := ⟨rfl, rfl, rfl, by decide +kernel, rfl, by decide +kernel, by decide +kernel⟩
abbrev s_is_word : Stmt := top 19
abbrev nm_is_word : List Str := ["x"]
theorem sc_is_word : FnScope nm_is_word ["x"] (defScope s_is_word) := ⟨rfl, rfl, rfl, by decide +kernel, rfl, by decide +kernel, by decide +kernel⟩
abbrev s_ask_word : Stmt := top 20
abbrev nm_ask_word : List Str := ["name", "word"]
theorem sc_ask_word : FnScope nm_ask_word ["name", "word"] (defScope s_ask_word) := ⟨rfl, rfl, rfl, by decide +kernel, rfl, by decide +kernel, by decide +kernel⟩
def regL : List Str := ["a", "b", "c", "d"]
def opsL : List (Str × Str) := [("halt", ""), ("set", "RN"), ("copy", "RS"), ("load", "RS"), ("store", "RS"), ("add", "RS"), ("sub", "RS"), ("mul", "RS"), ("div", "RS"), ("less", "RS"), ("same", "RS"), ("jump", "N"), ("zero", "RN"), ("trap", "N"), ("link", "RN"), ("back", "R")]
abbrev s_instruction_of : Stmt := top 25
abbrev nm_instruction_of : List Str := ["word", "name", "sorts", "first", "last", "operands", "sort"]
theorem sc_instruction_of : FnScope nm_instruction_of ["word"] (defScope s_instruction_of) := ⟨rfl, rfl, rfl, by decide +kernel, rfl, by decide +kernel, by decide +kernel⟩
abbrev s__greatest_last : Stmt := top 30
abbrev nm__greatest_last : List Str := ["sorts"]
theorem sc__greatest_last : FnScope nm__greatest_last ["sorts"] (defScope s__greatest_last) := ⟨rfl, rfl, rfl, by decide +kernel, rfl, by decide +kernel, by decide +kernel⟩
abbrev s_BadArgument____init__ : Stmt := inClass (top 3) 0
abbrev nm_BadArgument____init__ : List Str := ["self", "name"]
theorem sc_BadArgument____init__ : FnScope nm_BadArgument____init__ ["self", "name"] (defScope s_BadArgument____init__) := ⟨rfl, rfl, rfl, by decide +kernel, rfl, by decide +kernel, by decide +kernel⟩
abbrev s__law_error : Stmt := top 44
abbrev nm__law_error : List Str := ["e", "rows"]
theorem sc__law_error : FnScope nm__law_error ["e"] (defScope s__law_error) := ⟨rfl, rfl, rfl, by decide +kernel, rfl, by decide +kernel, by decide +kernel⟩
abbrev s__law_operations : Stmt := top 45
abbrev nm__law_operations : List Str := ["rows"]
theorem sc__law_operations : FnScope nm__law_operations [] (defScope s__law_operations) := ⟨rfl, rfl, rfl, by decide +kernel, rfl, by decide +kernel, by decide +kernel⟩
abbrev s__law_instruction : Stmt := top 46
abbrev nm__law_instruction : List Str := ["store", "top", "letters", "row", "parts", "sign"]
theorem sc__law_instruction : FnScope nm__law_instruction ["store", "top"] (defScope s__law_instruction) := ⟨rfl, rfl, rfl, by decide +kernel, rfl, by decide +kernel, by decide +kernel⟩
abbrev s__law_code : Stmt := top 47
abbrev nm__law_code : List Str := ["instruction", "letters", "number", "shape", "first", "last", "k", "row"]
theorem sc__law_code : FnScope nm__law_code ["instruction"] (defScope s__law_code) := ⟨rfl, rfl, rfl, by decide +kernel, rfl, by decide +kernel, by decide +kernel⟩
abbrev s__law_wrong_integer : Stmt := top 41
abbrev nm__law_wrong_integer : List Str := ["store", "low", "high", "near", "others"]
theorem sc__law_wrong_integer : FnScope nm__law_wrong_integer ["store", "low", "high"] (defScope s__law_wrong_integer) := ⟨rfl, rfl, rfl, by decide +kernel, rfl, by decide +kernel, by decide +kernel⟩
abbrev s_is_number : Stmt := top 28
abbrev nm_is_number : List Str := ["x"]
theorem sc_is_number : FnScope nm_is_number ["x"] (defScope s_is_number) := ⟨rfl, rfl, rfl, by decide +kernel, rfl, by decide +kernel, by decide +kernel⟩
abbrev s__is_operand : Stmt := top 31
abbrev nm__is_operand : List Str := ["sort", "operand"]
theorem sc__is_operand : FnScope nm__is_operand ["sort", "operand"] (defScope s__is_operand) := ⟨rfl, rfl, rfl, by decide +kernel, rfl, by decide +kernel, by decide +kernel⟩
abbrev s_is_instruction : Stmt := top 26
abbrev nm_is_instruction : List Str := ["x", "sorts"]
theorem sc_is_instruction : FnScope nm_is_instruction ["x"] (defScope s_is_instruction) := ⟨rfl, rfl, rfl, by decide +kernel, rfl, by decide +kernel, by decide +kernel⟩
abbrev s_operands_of : Stmt := top 27
abbrev nm_operands_of : List Str := ["name", "number"]
theorem sc_operands_of : FnScope nm_operands_of ["name"] (defScope s_operands_of) := ⟨rfl, rfl, rfl, by decide +kernel, rfl, by decide +kernel, by decide +kernel⟩
abbrev s__number_of : Stmt := top 29
abbrev nm__number_of : List Str := ["name", "number", "operation"]
theorem sc__number_of : FnScope nm__number_of ["name"] (defScope s__number_of) := ⟨rfl, rfl, rfl, by decide +kernel, rfl, by decide +kernel, by decide +kernel⟩
abbrev s_code_of : Stmt := top 24
abbrev nm_code_of : List Str := ["instruction", "number", "code", "sort", "operand"]
theorem sc_code_of : FnScope nm_code_of ["instruction"] (defScope s_code_of) := ⟨rfl, rfl, rfl, by decide +kernel, rfl, by decide +kernel, by decide +kernel⟩
abbrev s__law_integer : Stmt := top 38
abbrev nm__law_integer : List Str := ["store", "edges"]
theorem sc__law_integer : FnScope nm__law_integer ["store"] (defScope s__law_integer) := ⟨rfl, rfl, rfl, by decide +kernel, rfl, by decide +kernel, by decide +kernel⟩
abbrev s__law_text : Stmt := top 39
abbrev nm__law_text : List Str := ["store", "count", "signs", "k"]
theorem sc__law_text : FnScope nm__law_text ["store", "count"] (defScope s__law_text) := ⟨rfl, rfl, rfl, by decide +kernel, rfl, by decide +kernel, by decide +kernel⟩
abbrev s__law_plain : Stmt := top 40
abbrev nm__law_plain : List Str := ["store", "deep", "way", "rows", "k"]
theorem sc__law_plain : FnScope nm__law_plain ["store", "deep"] (defScope s__law_plain) := ⟨rfl, rfl, rfl, by decide +kernel, rfl, by decide +kernel, by decide +kernel⟩
abbrev s__law_asked : Stmt := top 49
abbrev nm__law_asked : List Str := ["value", "e"]
theorem sc__law_asked : FnScope nm__law_asked ["value"] (defScope s__law_asked) := ⟨rfl, rfl, rfl, by decide +kernel, rfl, by decide +kernel, by decide +kernel⟩
abbrev s__law_drawn : Stmt := top 50
abbrev nm__law_drawn : List Str := ["store", "row", "letters", "parts", "sign"]
theorem sc__law_drawn : FnScope nm__law_drawn ["store", "row"] (defScope s__law_drawn) := ⟨rfl, rfl, rfl, by decide +kernel, rfl, by decide +kernel, by decide +kernel⟩
abbrev s__law_no_instruction : Stmt := top 48
abbrev nm__law_no_instruction : List Str := ["store", "odd", "registers", "others", "right", "way", "pair", "parts", "value", "row"]
theorem sc__law_no_instruction : FnScope nm__law_no_instruction ["store"] (defScope s__law_no_instruction) := ⟨rfl, rfl, rfl, by decide +kernel, rfl, by decide +kernel, by decide +kernel⟩
abbrev s_law : Stmt := top 51
abbrev nm_law : List Str := ["script", "store", "k", "rows", "row", "codes", "wrong", "given", "code", "j"]
theorem sc_law : FnScope nm_law ["script"] (defScope s_law) := ⟨rfl, rfl, rfl, by decide +kernel, rfl, by decide +kernel, by decide +kernel⟩
end
end K08
namespace K08
open PySem PySem.Spec PyProof.Rows L2 Wk
/-! ### the head -/
/-! ### what is looked at: the module's names and the interpreter's own statics -/
def obsA (as : List Addr) (fa : List He.Fa) (fn : List He.DefD) (tf : List He.Defn) (ex : PySem.W.Frag → Bool) (g : Addr → Option Obj) : He.AlX := (He.obsT fa fn [] (He.frT g as), ex (He.frT g as) && He.tabsB g tf (He.frT g as))
theorem saysA {as : List Addr} {fa : List He.Fa} {fn : List He.DefD} {tf : List He.Defn} {ex : PySem.W.Frag → Bool} {w : World} {h : Heap} (e : obsA as fa fn tf ex h.get? = He.valX fn [] w) : He.SaysX fa fn [] tf ex w h (He.frT h.get? as) := by
  have e1 : He.obsT fa fn [] (He.frT h.get? as) = He.valT fn [] w := congrArg (fun z : He.AlX => z.1) e
  have e2 : (ex (He.frT h.get? as) && He.tabsB h.get? tf (He.frT h.get? as)) = true := congrArg (fun z : He.AlX => z.2) e
  obtain ⟨h1, h2⟩ := He.ba e2
  have tb : ∀ p ∈ tf, PySem.W.codeHdIn (He.frT h.get? as) (He.cT (He.frT h.get? as) p).1 (He.cT (He.frT h.get? as) p).2 = true ∧ ∃ o, h.get? (He.cT (He.frT h.get? as) p).2 = some o ∧ He.emptyTab o = true := fun p hp => by
    obtain ⟨z1, z2⟩ := He.ba (List.all_eq_true.mp h2 p hp)
    refine ⟨z1, ?_⟩
    split at z2
    · exact ⟨_, by assumption, z2⟩
    · cases z2
  exact ⟨e1, h1, fun p hp => (tb p hp).1, fun p hp => let ⟨_, _, q, z⟩ := tb p hp; He.frT_none q z, fun p hp => let ⟨_, _, q, z⟩ := tb p hp; q.trans (congrArg some (He.emptyTab_eq z))⟩
def tupAt (K : PySem.W.Frag) (a : Addr) (vs : List V) : Bool := match K.lookup a with
  | some ⟨.type c, _, .seq its _, _⟩ => decide (c = "tuple") && (decide (its.size ≤ sizeLine) && He.relAll vs its.toList)
  | _ => false
theorem tupAt_ok {K : PySem.W.Frag} {a : Addr} {vs : List V} (h : tupAt K a vs = true) (H : Hp) : SqT K H a vs := by
  unfold tupAt at h
  split at h
  · rename_i c d its n sl q
    obtain ⟨h1, h2⟩ := He.ba h
    obtain ⟨h3, h4⟩ := He.ba h2
    exact .inr ⟨_, its, n, q, congrArg Value.type (of_decide_eq_true h1), rfl, of_decide_eq_true h3, He.relAll_ok h4⟩
  · cases h
def regB (K : PySem.W.Frag) : Bool := match K.lookup (He.ga K "REGISTERS") with
  | some ⟨.type c, none, _, _⟩ => decide (c = "tuple")
  | _ => false
theorem regB_ok {K : PySem.W.Frag} (h : regB K = true) : ∃ o, K.lookup (He.ga K "REGISTERS") = some o ∧ o.cls = .type "tuple" ∧ o.dict = none := by
  unfold regB at h
  split at h
  · rename_i c dt sl q
    exact ⟨_, q, congrArg Value.type (of_decide_eq_true h), rfl⟩
  · cases h
def adr : Value → Addr
  | .ref a => a
  | _ => 0
def opsAs (K : PySem.W.Frag) : List Addr := match K.lookup (He.ga K "OPERATIONS") with
  | some ⟨_, _, .seq its _, _⟩ => its.toList.map adr
  | _ => []
def opsB (K : PySem.W.Frag) : Bool := tupAt K (He.ga K "OPERATIONS") ((opsAs K).map V.ref) && (decide ((opsAs K).length = 16) && ((opsAs K).zip opsL).all fun q => tupAt K q.1 [.str q.2.1, .str q.2.2])
theorem opsB_ok {K : PySem.W.Frag} (h : opsB K = true) : ∃ as : List Addr, as.length = 16 ∧ (∀ H, SqT K H (He.ga K "OPERATIONS") (as.map V.ref)) ∧ ∀ (i : Nat) (a : Addr) (r : Str × Str), as[i]? = some a → opsL[i]? = some r → ∀ H, SqT K H a [.str r.1, .str r.2] := by
  obtain ⟨h1, h2⟩ := He.ba h
  obtain ⟨h3, h4⟩ := He.ba h2
  refine ⟨opsAs K, of_decide_eq_true h3, fun H => tupAt_ok h1 H, fun i a r ha hr H => tupAt_ok (List.all_eq_true.mp h4 (a, r) ?_) H⟩
  refine List.mem_of_getElem? (i := i) ?_
  exact List.getElem?_zip_eq_some.mpr ⟨ha, hr⟩
/-- an own class of errors over ValueError -/
def oexB (K : PySem.W.Frag) (C : Addr) : Bool := (match K.lookup C with
  | some ⟨.type t, _, .cls cd, sl⟩ => decide (t = "type") && ((match cd.mro with
    | .ref C' :: bm => decide (C' = C) && PySem.HandSPX.refsVE bm
    | _ => false) && (cd.hasDict && (!cd.hasDel && (match sl.toList with
    | [_, _, _, _, some (.builtin n), _] => decide (n = "ValueError.__new__")
    | _ => false))))
  | _ => false) && (He.eqO (PySem.W.findIn K (.ref C) "__setattr__") (some (some (.builtin "object.__setattr__"))) && (decide (PySem.W.subIn K (.ref C) (.type "BaseException") = some true) && (decide (PySem.W.typeIn K (.ref C) = some (.type "type")) && PySem.W.keepIn K (.ref C))))
theorem oexB_ok {K : PySem.W.Frag} {C : Addr} (h : oexB K C = true) : OexC K C := by
  obtain ⟨h1, h⟩ := He.ba h
  obtain ⟨h2, h⟩ := He.ba h
  obtain ⟨h3, h⟩ := He.ba h
  obtain ⟨h4, h5⟩ := He.ba h
  refine ⟨?_, He.eqO_ok h2, of_decide_eq_true h3, of_decide_eq_true h4, h5⟩
  split at h1
  · rename_i t dd cd sl lk
    obtain ⟨k1, h1⟩ := He.ba h1
    obtain ⟨k2, h1⟩ := He.ba h1
    obtain ⟨k3, h1⟩ := He.ba h1
    obtain ⟨k4, k5⟩ := He.ba h1
    obtain ⟨nm, bs, mro, ns, qn, hd, sn, sub, ab, col, del⟩ := cd
    dsimp only at k2 k3 k4
    obtain rfl : t = "type" := of_decide_eq_true k1
    obtain rfl : hd = true := k3
    obtain rfl : del = false := by cases del with
      | false => rfl
      | true => cases k4
    cases mro with
    | nil => cases k2
    | cons u bm =>
      cases u with
      | ref C' =>
        obtain ⟨k6, k7⟩ := He.ba k2
        obtain rfl : C' = C := of_decide_eq_true k6
        obtain ⟨l⟩ := sl
        match l, k5, lk with
        | [k0, k1, k2, k3, some (.builtin n), k5'], k5, lk =>
          obtain rfl : n = "ValueError.__new__" := of_decide_eq_true k5
          exact ⟨_, _, _, _, _, _, _, _, _, _, _, _, _, _, _, lk, k7⟩
      | _ => cases k2
  · cases h1
def excB (K : PySem.W.Frag) (D : Addr) : Bool := He.eqO (PySem.W.findIn K (.ref D) "__getattribute__") (some (some (.builtin "BaseException.__getattribute__"))) && (He.eqO (PySem.W.findIn K (.ref D) "__getattr__") (some none) && (decide (PySem.W.subIn K (.ref D) (.type "BaseException") = some true) && (PySem.W.hasDictIn K D &&
  (He.eqO (PySem.W.findIn K (.ref D) "__class__") (some (some (.builtin "object.__class__"))) && (He.eqO (PySem.W.specialIn K (.builtin "object.__class__") "__get__") (some (some (.builtin "getset_descriptor.__get__"))) && (decide (PySem.W.takesIn K (.builtin "object.__class__") = some true) && decide (PySem.W.mroIn K D (.type "object") = some true)))))))
theorem excB_ok {K : PySem.W.Frag} {D : Addr} (h : excB K D = true) : ExcC K D := by
  obtain ⟨h1, h⟩ := He.ba h
  obtain ⟨h2, h⟩ := He.ba h
  obtain ⟨h3, h⟩ := He.ba h
  obtain ⟨h4, h⟩ := He.ba h
  obtain ⟨h5, h⟩ := He.ba h
  obtain ⟨h6, h⟩ := He.ba h
  obtain ⟨h7, h8⟩ := He.ba h
  exact ⟨He.eqO_ok h1, He.eqO_ok h2, of_decide_eq_true h3, h4, He.eqO_ok h5, He.eqO_ok h6, of_decide_eq_true h7, of_decide_eq_true h8⟩
def wrB (K : PySem.W.Frag) (W : Addr) : Bool := PySem.W.readsIn K W (.type "type") && (match PySem.W.findCls K (.ref W) (.type "type") "__init__" with
  | some (.val v) => decide (v = .builtin "ValueError.__init__")
  | _ => false)
theorem wrB_ok {K : PySem.W.Frag} {W : Addr} (h : wrB K W = true) : ∃ mc, PySem.W.readsIn K W mc = true ∧ PySem.W.findCls K (.ref W) mc "__init__" = some (.val (.builtin "ValueError.__init__")) := by
  obtain ⟨h1, h2⟩ := He.ba h
  refine ⟨_, h1, ?_⟩
  split at h2
  · rename_i v e
    rw [e, of_decide_eq_true h2]
  · cases h2
def errOthers : List Str := ["BadText", "LabelTwice", "LabelMissing", "TooLong", "Unknown", "Taken", "NotAllowed", "WrongState", "RingOfWaits", "Full", "Stopped", "SourceError"]
/-- BadArgument, WardError, the others -/
def errB (K : PySem.W.Frag) : Bool := let C := He.ga K "BadArgument"; let W := He.ga K "WardError"; let f := He.ma K C "__init__"
  He.eqO (PySem.W.nsIn K mainGlobals "BadArgument") (some (some (.ref C))) && (He.eqO (PySem.W.nsIn K mainGlobals "WardError") (some (some (.ref W))) && (He.eqO (PySem.W.nsIn K mainGlobals "ValueError") (some none) && (oexB K C && (L2.xfB K C && (excB K C && (He.eqO (PySem.W.findIn K (.ref C) "name") (some none) &&
    (He.eqO (PySem.W.findIn K (.ref C) "__init__") (some (some (.ref f))) && (decide (PySem.W.typeIn K (.ref f) = some (.type "function")) && (He.eqO (PySem.W.specialIn K (.ref W) "__getattribute__") (some (some (.builtin "type.__getattribute__"))) && (wrB K W && (decide (PySem.W.kitOne K (.ref C) (.ref W) = some true) &&
    (decide (PySem.W.exmOne K (.ref C) (.ref W) = some true) && (decide (PySem.W.kitOne K (.ref C) (.type "ValueError") = some true) && (decide (PySem.W.kitOne K (.ref C) (.ref C) = some true) &&
    errOthers.all fun x => He.eqO (PySem.W.nsIn K mainGlobals x) (some (some (.ref (He.ga K x)))) && decide (PySem.W.kitOne K (.ref C) (.ref (He.ga K x)) = some false)))))))))))))))
def ex (K : PySem.W.Frag) : Bool := He.tupB K "REGISTERS" [.str "a", .str "b", .str "c", .str "d"] && (regB K && (opsB K && errB K))
def d_is_integer : He.DefD := ⟨("is_integer", none), "is_integer", "is_integer", defArgs s_is_integer, defBody s_is_integer, defScope s_is_integer, [], []⟩
def d_is_in_range : He.DefD := ⟨("is_in_range", none), "is_in_range", "is_in_range", defArgs s_is_in_range, defBody s_is_in_range, defScope s_is_in_range, [], []⟩
def d_is_word : He.DefD := ⟨("is_word", none), "is_word", "is_word", defArgs s_is_word, defBody s_is_word, defScope s_is_word, [], []⟩
def d_ask_word : He.DefD := ⟨("ask_word", none), "ask_word", "ask_word", defArgs s_ask_word, defBody s_ask_word, defScope s_ask_word, [], []⟩
def d_code_of : He.DefD := ⟨("code_of", none), "code_of", "code_of", defArgs s_code_of, defBody s_code_of, defScope s_code_of, [], []⟩
def d_instruction_of : He.DefD := ⟨("instruction_of", none), "instruction_of", "instruction_of", defArgs s_instruction_of, defBody s_instruction_of, defScope s_instruction_of, [], []⟩
def d_is_instruction : He.DefD := ⟨("is_instruction", none), "is_instruction", "is_instruction", defArgs s_is_instruction, defBody s_is_instruction, defScope s_is_instruction, [], []⟩
def d_operands_of : He.DefD := ⟨("operands_of", none), "operands_of", "operands_of", defArgs s_operands_of, defBody s_operands_of, defScope s_operands_of, [], []⟩
def d_is_number : He.DefD := ⟨("is_number", none), "is_number", "is_number", defArgs s_is_number, defBody s_is_number, defScope s_is_number, [], []⟩
def d__number_of : He.DefD := ⟨("_number_of", none), "_number_of", "_number_of", defArgs s__number_of, defBody s__number_of, defScope s__number_of, [], []⟩
def d__greatest_last : He.DefD := ⟨("_greatest_last", none), "_greatest_last", "_greatest_last", defArgs s__greatest_last, defBody s__greatest_last, defScope s__greatest_last, [], []⟩
def d__is_operand : He.DefD := ⟨("_is_operand", none), "_is_operand", "_is_operand", defArgs s__is_operand, defBody s__is_operand, defScope s__is_operand, [], []⟩
def d__law_mixed : He.DefD := ⟨("_law_mixed", none), "_law_mixed", "_law_mixed", defArgs s__law_mixed, defBody s__law_mixed, defScope s__law_mixed, [], []⟩
def d__law_store : He.DefD := ⟨("_law_store", none), "_law_store", "_law_store", defArgs s__law_store, defBody s__law_store, defScope s__law_store, [], []⟩
def d__law_take : He.DefD := ⟨("_law_take", none), "_law_take", "_law_take", defArgs s__law_take, defBody s__law_take, defScope s__law_take, [], []⟩
def d__law_between : He.DefD := ⟨("_law_between", none), "_law_between", "_law_between", defArgs s__law_between, defBody s__law_between, defScope s__law_between, [], []⟩
def d__law_pick : He.DefD := ⟨("_law_pick", none), "_law_pick", "_law_pick", defArgs s__law_pick, defBody s__law_pick, defScope s__law_pick, [], []⟩
def d__law_integer : He.DefD := ⟨("_law_integer", none), "_law_integer", "_law_integer", defArgs s__law_integer, defBody s__law_integer, defScope s__law_integer, [], []⟩
def d__law_text : He.DefD := ⟨("_law_text", none), "_law_text", "_law_text", defArgs s__law_text, defBody s__law_text, defScope s__law_text, [], []⟩
def d__law_plain : He.DefD := ⟨("_law_plain", none), "_law_plain", "_law_plain", defArgs s__law_plain, defBody s__law_plain, defScope s__law_plain, [], []⟩
def d__law_wrong_integer : He.DefD := ⟨("_law_wrong_integer", none), "_law_wrong_integer", "_law_wrong_integer", defArgs s__law_wrong_integer, defBody s__law_wrong_integer, defScope s__law_wrong_integer, [], []⟩
def d__law_alike : He.DefD := ⟨("_law_alike", none), "_law_alike", "_law_alike", defArgs s__law_alike, defBody s__law_alike, defScope s__law_alike, [], []⟩
def d__law_copy : He.DefD := ⟨("_law_copy", none), "_law_copy", "_law_copy", defArgs s__law_copy, defBody s__law_copy, defScope s__law_copy, [], []⟩
def d__law_error : He.DefD := ⟨("_law_error", none), "_law_error", "_law_error", defArgs s__law_error, defBody s__law_error, defScope s__law_error, [], []⟩
def d__law_operations : He.DefD := ⟨("_law_operations", none), "_law_operations", "_law_operations", defArgs s__law_operations, defBody s__law_operations, defScope s__law_operations, [], []⟩
def d__law_instruction : He.DefD := ⟨("_law_instruction", none), "_law_instruction", "_law_instruction", defArgs s__law_instruction, defBody s__law_instruction, defScope s__law_instruction, [], []⟩
def d__law_code : He.DefD := ⟨("_law_code", none), "_law_code", "_law_code", defArgs s__law_code, defBody s__law_code, defScope s__law_code, [], []⟩
def d__law_no_instruction : He.DefD := ⟨("_law_no_instruction", none), "_law_no_instruction", "_law_no_instruction", defArgs s__law_no_instruction, defBody s__law_no_instruction, defScope s__law_no_instruction, [], []⟩
def d__law_asked : He.DefD := ⟨("_law_asked", none), "_law_asked", "_law_asked", defArgs s__law_asked, defBody s__law_asked, defScope s__law_asked, [], []⟩
def d__law_drawn : He.DefD := ⟨("_law_drawn", none), "_law_drawn", "_law_drawn", defArgs s__law_drawn, defBody s__law_drawn, defScope s__law_drawn, [], []⟩
def d_law : He.DefD := ⟨("law", none), "law", "law", defArgs s_law, defBody s_law, defScope s_law, [], []⟩
def d_B_init : He.DefD := ⟨("BadArgument", some "__init__"), "__init__", "BadArgument.__init__", defArgs s_BadArgument____init__, defBody s_BadArgument____init__, defScope s_BadArgument____init__, [], []⟩
def fn0 : List He.DefD := [d_is_integer, d_is_in_range, d_is_word, d_ask_word, d_code_of, d_instruction_of, d_is_instruction, d_operands_of, d_is_number, d__number_of, d__greatest_last, d__is_operand]
def fn1 : List He.DefD := [d__law_mixed, d__law_store, d__law_take, d__law_between, d__law_pick, d__law_integer, d__law_text, d__law_plain, d__law_wrong_integer, d__law_alike, d__law_copy, d__law_error]
def fn2 : List He.DefD := [d__law_operations, d__law_instruction, d__law_code, d__law_no_instruction, d__law_asked, d__law_drawn, d_law, d_B_init]
def fn : List He.DefD := fn0 ++ (fn1 ++ (fn2))
def fa0 : List He.Fa := [.glo "is_integer", .glo "is_in_range", .glo "is_word", .glo "ask_word", .glo "code_of", .glo "instruction_of", .glo "is_instruction", .glo "operands_of", .glo "is_number", .glo "_number_of", .glo "_greatest_last", .glo "_is_operand"]
def fa1 : List He.Fa := [.glo "_law_mixed", .glo "_law_store", .glo "_law_take", .glo "_law_between", .glo "_law_pick", .glo "_law_integer", .glo "_law_text", .glo "_law_plain", .glo "_law_wrong_integer", .glo "_law_alike", .glo "_law_copy", .glo "_law_error"]
def fa2 : List He.Fa := [.glo "_law_operations", .glo "_law_instruction", .glo "_law_code", .glo "_law_no_instruction", .glo "_law_asked", .glo "_law_drawn", .glo "law", .glo "REGISTERS", .glo "OPERATIONS", .int "WORDS" 65536, .free "int", .free "len"]
def fa3 : List He.Fa := [.free "range", .free "list", .free "abs", .free "min", .free "max", .free "isinstance", .free "bool", .free "str", .free "tuple", .free "dict", .free "sorted", .free "all"]
def fa4 : List He.Fa := [.free "any", .free "zip", .free "enumerate", .free "sum"]
def fa : List He.Fa := fa0 ++ (fa1 ++ (fa2 ++ (fa3 ++ (fa4))))
def tf : List He.Defn := [("is_instruction", none)]
def NN : Nat := 6
abbrev AlY : Type := He.AlX
def asY (g : Addr → Option Obj) : List Addr := He.asD g NN ++ [cStatics]
def obsY (g : Addr → Option Obj) : AlY := obsA (asY g) fa fn tf ex g
theorem saysY (w : World) (s : Shared) (e : obsY s.heap.get? = He.valX fn [] w) : ∃ K : PySem.W.Frag, K.In s.heap ∧ He.SaysX fa fn [] tf ex w s.heap K := by
  have e1 : obsA (asY s.heap.get?) fa fn tf ex s.heap.get? = He.valX fn [] w := e
  exact ⟨He.frT s.heap.get? (asY s.heap.get?), He.frT_in, saysA e1⟩
def hookY : PySem.W.Hook where
  α := AlY
  obs := fun s => obsY s.heap.get?
  val := fun w => He.valX fn [] w
  says := fun w h => ∃ K : PySem.W.Frag, K.In h ∧ He.SaysX fa fn [] tf ex w h K
  of := fun _ s e => saysY _ s e
  keeps := fun _ _ _ ⟨K, hK, c⟩ k => ⟨K, PySem.W.Frag.In.keeps hK k, ⟨c.t, c.more, c.hd, c.out, fun p hp => k _ _ (c.empty p hp)⟩⟩
def ob (s : PySem.W.SharedT) : AlY := obsY (HandSHeadRun.getT s)
theorem ob_eq (s : PySem.W.SharedT) : ob s = hookY.obs s.abs := by
  show obsY (HandSHeadRun.getT s) = obsY s.abs.heap.get?
  rw [show HandSHeadRun.getT s = s.abs.heap.get? from funext (HandSHeadRun.getT_eq s)]
abbrev R : PySem.W.OpenRow := PySem.W.OpenLaw.row PySem.Challenge.rw_wardwork_k08_code_and_back
def loose0 : List Str := ["WardError", "SourceError", "BadArgument", "BadText", "LabelTwice", "LabelMissing", "TooLong", "Unknown", "Taken", "NotAllowed", "WrongState", "RingOfWaits"]
def loose1 : List Str := ["Full", "Stopped", "WORDS", "REGISTERS", "OPERATIONS", "is_integer", "is_in_range", "is_word", "ask_word", "code_of", "instruction_of", "is_instruction"]
def loose2 : List Str := ["operands_of", "is_number", "_number_of", "_greatest_last", "_is_operand", "_law_mixed", "_law_store", "_law_take", "_law_between", "_law_pick", "_law_integer", "_law_text"]
def loose3 : List Str := ["_law_plain", "_law_wrong_integer", "_law_alike", "_law_copy", "_law_error", "_law_operations", "_law_instruction", "_law_code", "_law_no_instruction", "_law_asked", "_law_drawn"]
def loose : List Str := loose0 ++ (loose1 ++ (loose2 ++ (loose3)))
end K08
namespace K08
open PySem PySem.Spec PyProof.Rows L2 Wk
theorem run (w : World) : HandSHeadRun.RunEq R (PySem.W.view R.prog [51]) hookY ob 20000 loose w := by
  intro os
  kernel_rfl
end K08
set_option Elab.async false
set_option linter.all false
set_option maxRecDepth 100000
set_option maxHeartbeats 4000000
namespace K08
open PySem PySem.Spec PyProof.Rows L2 Wk
local macro_rules | `(tactic| walk_at "u1") => `(tactic| fail "no more")
local macro_rules | `(tactic| walk_at "pos") => `(tactic| first | assumption | omega | decide | (simp only [Int.ofNat_eq_natCast] at *; omega))
local macro_rules | `(tactic| walk_at "sz") => `(tactic| first
  | (simp only [List.length_cons, List.length_nil]; decide)
  | exact Evl.sz_of (by omega)
  | exact Evl.sz_lt (by omega)
  | exact Evl.sz_of (by simp only [List.length_map, List.length_append, List.length_cons, List.length_nil, List.length_replicate]; omega)
  | exact Evl.sz_lt (by simp only [List.length_map, List.length_append, List.length_cons, List.length_nil, List.length_replicate]; omega))
local macro_rules | `(tactic| walk_at "cond") => `(tactic| first
  | exact Or.inr ⟨by decide, by decide⟩
  | (show (0 : Int) < _; first | decide | assumption | omega)
  | exact Or.inl ⟨by omega, by omega⟩
  | exact Or.inr ⟨by omega, by omega⟩
  | exact ⟨by decide, by decide, by decide⟩
  | exact log2_lt (by omega) (by omega)
  | exact ⟨by omega, by omega⟩)
local macro_rules | `(tactic| walk_at "ty") => `(tactic| first
  | exact ty_int | exact ty_bl | exact ty_str | exact ty_non
  | exact ty_L (by assumption) | exact ty_T (by assumption)
  | exact ty_L (SqL.of (by assumption)) | exact ty_T (SqT.of (by assumption)))
local macro_rules | `(tactic| walk_at "kit") => `(tactic| first
  | exact k_ii | exact k_ib | exact k_is | exact k_il | exact k_it
  | exact k_bb | exact k_bi | exact k_bs | exact k_bl | exact k_bt
  | exact k_ss | exact k_sb | exact k_si | exact k_sl | exact k_st
  | exact k_ll | exact k_lb | exact k_li | exact k_ls | exact k_lt
  | exact k_tt | exact k_tb | exact k_ti | exact k_ts | exact k_tl
  | exact k_nn | exact k_ni | exact k_ns | exact k_nl | exact k_nt)
local macro_rules | `(tactic| walk_at "s1") => `(tactic| first
  | with_reducible refine w_seq ?_
  | with_reducible refine w_set ?_
  | with_reducible refine w_op ?_
  | ((with_reducible refine' w_var ?h1 ?_); (case h1 => rfl))
  | with_reducible refine w_c ?_
  | with_reducible refine w_cb ?_
  | with_reducible refine w_cons ?_
  | with_reducible refine w_nil ?_
  | with_reducible refine w_I0 ?_
  | ((with_reducible refine' w_I ?c1 ?_); case c1 => walk_at "cond")
  | with_reducible refine w_ret ?_
  | with_reducible refine w_next ?_
  | with_reducible refine w_ifS ?_
  | with_reducible refine w_test ?_
  | with_reducible refine w_tB ?_
  | with_reducible refine w_k ?_
  | with_reducible refine w_eqI ?_
  | with_reducible refine w_neI ?_
  | with_reducible refine w_eqS ?_
  | with_reducible refine w_neS ?_
  | with_reducible refine w_and ?_
  | with_reducible refine w_or ?_
  | with_reducible refine w_not ?_
  | with_reducible refine w_andV ?_
  | with_reducible refine w_orV ?_
  | with_reducible refine w_notV ?_
  | with_reducible refine w_ifE ?_
  | with_reducible refine w_true ?_
  | with_reducible refine w_false ?_
  | with_reducible refine w_ntrue ?_
  | with_reducible refine w_nfalse ?_
  | with_reducible refine w_call ?_
  | with_reducible refine c_int ?_
  | with_reducible refine c_abs ?_
  | with_reducible refine c_max ?_
  | with_reducible refine c_min ?_
  | with_reducible refine w_drop ?_
  | with_reducible refine w_sfld ?_
  | with_reducible refine w_meth ?_
  | with_reducible refine w_make ?_
  | with_reducible refine w_prop ?_
  | with_reducible refine w_callK ?_
  | with_reducible refine w_callN ?_
  | with_reducible refine w_star ?_
  | with_reducible refine w_gcons ?_
  | with_reducible refine w_gname ?_
  | with_reducible refine w_gnil ?_
  | with_reducible refine w_retN ?_
  | with_reducible refine w_tup ?_
  | with_reducible refine w_lst ?_
  | with_reducible refine w_fld ?_
  | with_reducible refine w_bm ?_
  | with_reducible refine w_bm0 ?_
  | with_reducible refine w_forL ?_
  | with_reducible refine w_forT ?_
  | with_reducible refine w_forS ?_
  | with_reducible refine w_forR ?_
  | with_reducible refine w_lcR ?_
  | with_reducible refine w_lcL ?_
  | with_reducible refine w_lcT ?_
  | with_reducible refine w_isN ?_
  | with_reducible refine w_notN ?_
  | with_reducible refine w_asg ?_
  | with_reducible refine w_gsub ?_
  | ((with_reducible refine' w_aug ?h1 ?_); (case h1 => rfl))
  | with_reducible refine w_augS ?_
  | with_reducible refine w_ipI ?_
  | with_reducible refine w_un ?_
  | with_reducible refine w_U ?_
  | ((with_reducible refine' w_iteF ?f1 ?_); case f1 => (first | (intro h; cases h; done) | decide))
  | ((with_reducible refine' w_iteT ?f1 ?_); case f1 => rfl)
  | ((with_reducible refine' w_iteNF ?f1 ?_); case f1 => rfl)
  | ((with_reducible refine' w_iteNT ?f1 ?_); case f1 => (first | (intro h; cases h; done) | decide))
  | ((with_reducible refine' c_isi ?t1 ?k1 ?_); (case t1 => walk_at "ty"); (case k1 => walk_at "kit"))
  | ((with_reducible refine' w_eq ?e1 ?_); case e1 => rfl)
  | ((with_reducible refine' w_ne ?e1 ?_); case e1 => rfl)
  | walk_at "u1")
local macro_rules | `(tactic| walk_at "s") => `(tactic| repeat walk_at "s1")
local macro_rules | `(tactic| walk_at "mem") => `(tactic| first | with_reducible exact List.mem_cons_self .. | ((with_reducible refine' List.mem_cons_of_mem _ ?q); (case q => walk_at "mem")) | assumption | ((with_reducible refine' List.mem_append_right _ ?q); (case q => walk_at "mem")) | (exact List.mem_append_left _ (by assumption)))
local macro_rules | `(tactic| walk_at "pk") => `(tactic| first | with_reducible exact Pk.here | ((with_reducible refine' Pk.there ?q); (case q => walk_at "pk")) | ((with_reducible refine' Pk.app ?q); (case q => walk_at "pk")))
local macro_rules | `(tactic| walk_at "pkb") => `(tactic| first | with_reducible exact PkB.here | ((with_reducible refine' PkB.there ?q); (case q => walk_at "pkb")) | ((with_reducible refine' PkB.app ?q); (case q => walk_at "pkb")))
local macro_rules | `(tactic| walk_at "spl") => `(tactic| first | with_reducible exact Spl.nil | ((with_reducible refine' Spl.cons ?h ?t); (case h => walk_at "pk"); (case t => walk_at "spl")) | ((with_reducible refine' Spl.blk ?h ?t); (case h => walk_at "pkb"); (case t => walk_at "spl")))
local macro_rules | `(tactic| walk_at "sbx") => `(tactic| first | with_reducible exact Sb.refl | with_reducible exact Sb.nil | with_reducible exact Sb.left | ((with_reducible refine' Sb.cons ?h ?t); (case h => walk_at "pk"); (case t => walk_at "sbx")) | ((with_reducible refine' Sb.blk ?h ?t); (case h => walk_at "pkb"); (case t => walk_at "sbx")) | ((with_reducible refine' Sb.drop ?q); (case q => walk_at "sbx")) | ((with_reducible refine' Sb.right ?q); (case q => walk_at "sbx")))
local macro_rules | `(tactic| walk_at "hd") => `(tactic| first | assumption | exact Hd.sb (by assumption) (by walk_at "sbx"))
local macro_rules | `(tactic| walk_at "sq") => `(tactic| first
  | assumption
  | exact Hd.sqL (by assumption) (by walk_at "mem")
  | exact Hd.sqT (by assumption) (by walk_at "mem")
  | exact Hd.sqF (by assumption) (by walk_at "mem")
  | (refine .inl ?_; walk_at "sq")
  | (refine .inr ?_; walk_at "sq"))
local macro_rules | `(tactic| walk_at "at") => `(tactic| first | rfl | assumption | exact atI_nat (by assumption))
local macro_rules | `(tactic| walk_at "dn1") => `(tactic| first
  | exact Dn.int | exact Dn.str | exact Dn.non | exact Dn.bl | assumption
  | ((refine' Dn.tp ?a1 ?m1 ?l1 ?p1); (case a1 => assumption); (case m1 => walk_at "mem"); (case l1 => (simp only [List.length_cons, List.length_nil]; omega)); (case p1 => walk_at "dns"))
  | ((refine' Dn.lt ?a1 ?m1 ?l1 ?p1); (case a1 => assumption); (case m1 => walk_at "mem"); (case l1 => (simp only [List.length_cons, List.length_nil]; omega)); (case p1 => walk_at "dns")))
local macro_rules | `(tactic| walk_at "dns") => `(tactic| first | exact Paired.nil | exact Dn.ints | ((refine' Paired.cons ?a1 ?b1); (case a1 => walk_at "dn1"); (case b1 => walk_at "dns")))
local macro_rules | `(tactic| walk_at "g1") => `(tactic| first
  | ((with_reducible refine' g_ixI ?h1 ?h2 ?h3 ?_); (case h1 => assumption); (case h2 => walk_at "mem"); (case h3 => omega); intro z hz)
  | ((with_reducible refine' g_ixIT ?h1 ?h2 ?h3 ?_); (case h1 => assumption); (case h2 => walk_at "mem"); (case h3 => omega); intro z hz)
  | ((with_reducible refine' g_setI ?h1 ?h2 ?h3 ?_); (case h1 => assumption); (case h2 => walk_at "pk"); (case h3 => omega); intro H2 hh2)
  | ((with_reducible refine' w_ixL ?h1 ?h2 ?_); (case h1 => walk_at "sq"); (case h2 => walk_at "at"))
  | ((with_reducible refine' w_ixT ?h1 ?h2 ?_); (case h1 => walk_at "sq"); (case h2 => walk_at "at"))
  | ((with_reducible refine' w_ixAny ?h1 ?h2 ?_); (case h1 => walk_at "sq"); (case h2 => walk_at "at"))
  | ((with_reducible refine' c_lenA ?h1 ?_); (case h1 => walk_at "sq"))
  | ((with_reducible refine' c_isi ?t1 ?k1 ?_); (case t1 => first | exact ty_T (by walk_at "sq") | exact ty_L (by walk_at "sq")); (case k1 => walk_at "kit"))
  | ((with_reducible refine' g_lst ?h1 ?h2 ?_); (case h1 => assumption); (case h2 => walk_at "sz"); intro p H2 hh2)
  | ((with_reducible refine' g_tup ?h1 ?h2 ?_); (case h1 => assumption); (case h2 => walk_at "sz"); intro p H2 hh2)
  | ((with_reducible refine' g_dict ?h1 ?_); (case h1 => assumption); intro p H2 hh2)
  | ((with_reducible refine' g_listL ?h1 ?h2 ?_); (case h1 => assumption); (case h2 => walk_at "sq"); intro p H2 hh2)
  | ((with_reducible refine' g_listT ?h1 ?h2 ?_); (case h1 => assumption); (case h2 => walk_at "sq"); intro p H2 hh2)
  | ((with_reducible refine' g_tupL ?h1 ?h2 ?_); (case h1 => assumption); (case h2 => walk_at "sq"); intro p H2 hh2)
  | ((with_reducible refine' g_set ?h1 ?h2 ?h3 ?_); (case h1 => assumption); (case h2 => walk_at "pk"); (case h3 => first | rfl | assumption | exact Evl.ixN_nat (by first | omega | (simp only [List.length_cons, List.length_nil]; omega))); intro H2 hh2)
  | ((with_reducible refine' g_kbm ?h1 ?h2 ?_); (case h1 => assumption); (case h2 => walk_at "mem"))
  | ((with_reducible refine' g_kbm0 ?h1 ?h2 ?_); (case h1 => assumption); (case h2 => walk_at "mem"))
  | ((with_reducible refine' g_app ?h1 ?h2 ?h3 ?_); (case h1 => assumption); (case h2 => walk_at "pk"); (case h3 => walk_at "sz"); intro H2 hh2)
  | ((with_reducible refine' g_kapp ?h1 ?h2 ?h3 ?_); (case h1 => assumption); (case h2 => walk_at "pk"); (case h3 => walk_at "sz"); intro H2 hh2)
  | ((with_reducible refine' g_fld ?h1 ?h2 ?h3 ?h4 ?h5 ?_); (case h1 => assumption); (case h2 => walk_at "mem"); (case h3 => assumption); (case h4 => assumption); (case h5 => rfl))
  | ((with_reducible refine' g_sfld ?h1 ?h2 ?h3 ?h4 ?h5 ?_); (case h1 => assumption); (case h2 => walk_at "pk"); (case h3 => assumption); (case h4 => assumption); (case h5 => decide); intro H2 hh2)
  | ((with_reducible refine' g_meth ?h1 ?h2 ?h3 ?_); (case h1 => assumption); (case h2 => walk_at "mem"); (case h3 => rfl))
  | ((with_reducible refine' g_prop ?h1 ?h2 ?_); (case h1 => assumption); (case h2 => walk_at "mem"))
  | ((with_reducible refine' g_make ?h1 ?_); (case h1 => assumption); intro x H2 hh2)
  | ((with_reducible refine' g_cat ?h1 ?h2 ?h3 ?h4 ?_); (case h1 => assumption); (case h2 => walk_at "mem"); (case h3 => walk_at "mem"); (case h4 => walk_at "sz"); intro p H2 hh2)
  | ((with_reducible refine' g_inT ?h1 ?h2 ?h3 ?h4 ?h5 ?_); (case h1 => assumption); (case h2 => walk_at "mem"); (case h3 => rfl); (case h4 => rfl); (case h5 => rfl)))
local macro_rules | `(tactic| walk_at "gs") => `(tactic| repeat first | walk_at "s1" | walk_at "g1")
local macro_rules | `(tactic| walk_at "ite") => `(tactic| first
  | ((with_reducible refine' w_iteT ?h1 ?_); (case h1 => omega))
  | ((with_reducible refine' w_iteF ?h1 ?_); (case h1 => omega))
  | (with_reducible refine w_ite ?_ ?_ <;> intro hq)
  | ((with_reducible refine' w_iteNT ?h1 ?_); (case h1 => omega))
  | ((with_reducible refine' w_iteNF ?h1 ?_); (case h1 => omega))
  | (with_reducible refine w_iteN ?_ ?_ <;> intro hq))
local macro_rules | `(tactic| walk_at "go") => `(tactic| repeat' first | walk_at "s1" | walk_at "g1" | walk_at "ite")
section
variable {P : Program} {w : World} {K : PySem.W.Frag} {mg : Str → Option Value} {base : Heap} {aREG aOPS : Addr}
/-! ### the draws: what every law draws with -/
/-- the store of draws at st, the script's cells at c -/
def StoreAt (H : Hp) (st c : Addr) : Prop := ∃ (ns : List Int) (i b t z : Int), H st = some (.lst [.ref c, .int i, .int b, .int t, .int z]) ∧ H c = some (.lst (ns.map V.int)) ∧ 0 ≤ i ∧ 0 ≤ b ∧ 0 ≤ z ∧ z < 2147483647
theorem StoreAt.ne {H : Hp} {st c : Addr} (S : StoreAt H st c) : c ≠ st := by
  obtain ⟨ns, i, b, t, z, h1, h2, _⟩ := S
  refine ne_of h2 h1 fun e => ?_
  cases ns with
  | nil => cases e
  | cons n ns => cases e
theorem StoreAt.upt {H H' : Hp} {st c : Addr} {S : List Addr} (s : StoreAt H st c) (u : Upt S H H') (h1 : st ∉ S) (h2 : c ∉ S) : StoreAt H' st c := by
  obtain ⟨ns, i, b, t, z, e1, e2, r⟩ := s
  exact ⟨ns, i, b, t, z, u _ _ h1 e1, u _ _ h2 e2, r⟩
theorem StoreAt.new {H H' : Hp} {st c p : Addr} {o : HO} (s : StoreAt H st c) (n : New H H' p o) : StoreAt H' st c := s.upt n.keep (by simp) (by simp)
theorem StoreAt.off {H H' : Hp} {st c p : Addr} {o : HO} (s : StoreAt H st c) (n : New H H' p o) : p ≠ st ∧ p ≠ c := by
  obtain ⟨ns, i, b, t, z, e1, e2, r⟩ := s
  exact ⟨n.ne' e1, n.ne' e2⟩
theorem StoreAt.chg {H H' : Hp} {st c p : Addr} {o : HO} (s : StoreAt H st c) (n : Chg H H' p o) (h1 : p ≠ st) (h2 : p ≠ c) : StoreAt H' st c := s.upt n.keep (fun z => h1 (List.mem_singleton.mp z).symm) (fun z => h2 (List.mem_singleton.mp z).symm)
theorem store_chg {H H' : Hp} {st c : Addr} {ns : List Int} {i b t z : Int} (n : Chg H H' st (.lst [.ref c, .int i, .int b, .int t, .int z])) (e : H c = some (.lst (ns.map V.int))) (ne : c ≠ st) (h1 : 0 ≤ i) (h2 : 0 ≤ b) (h3 : 0 ≤ z) (h4 : z < 2147483647) : StoreAt H' st c :=
  ⟨ns, i, b, t, z, n.at_, n.keep.at1 ne e, h1, h2, h3, h4⟩
/-- a number that is drawn: how the store and the heap may stand behind it -/
def Drawn (st c : Addr) (H : Hp) (P : Int → Prop) (Q : VK) : Prop := ∀ (k : Int) (H' : Hp), P k → StoreAt H' st c → Upt [st] H H' → Q (.int k) H'
/-- number and turn give something from 0 to many - 1 -/
def sp_mixed : Sp := fun vs H Q _ => ∃ n t m : Int, vs = [.int n, .int t, .int m] ∧ 0 < m ∧ ∀ k : Int, 0 ≤ k → k < m → Q (.int k) H
theorem c_mixed (T : Txt K mg aREG aOPS) (d : DefAt K mg "_law_mixed" s__law_mixed) : C8.Cal P w K mg base 1 "_law_mixed" sp_mixed [] := by
  refine mk d sc__law_mixed (fun _ _ _ _ _ _ us hl => match us, hl with | [_, _, _], _ => rfl) (fun vs H Q E h => ?_) (fun f cdv A outer s H vs Q E hr h => ?_)
  · obtain ⟨n, t, m, rfl, _⟩ := h
    rfl
  · obtain ⟨n, t, m, rfl, hm, k⟩ := h
    refine ⟨_, (pss_cons (ps_set (i := 3) sc__law_mixed.nd rfl (Or.inl rfl) (pe_op op_mod (pe_callTy Wk.b_int (by rfl) T.b_int (by decide +kernel) (pa_cons (pe_op op_add (pe_op op_add (pe_op op_mul (pe_callTy Wk.b_int (by rfl) T.b_int (by decide +kernel) (pa_cons (pv 0) pa_nil)) pe_int) (pe_op op_mul (pe_callTy Wk.b_int (by rfl) T.b_int (by decide +kernel) (pa_cons (pv 1) pa_nil)) pe_int)) pe_int) pa_nil)) pe_int))
  (pss_cons (ps_set (i := 4) sc__law_mixed.nd rfl (Or.inl rfl) (pe_op op_mod (pe_callTy Wk.b_int (by rfl) T.b_int (by decide +kernel) (pa_cons (pe_op op_add (pe_op op_add (pe_op op_mul (pv 3) (pv 3)) (pe_op op_mul (pe_callTy Wk.b_int (by rfl) T.b_int (by decide +kernel) (pa_cons (pv 1) pa_nil)) pe_int)) pe_int) pa_nil)) pe_int))
  (pss_cons (ps_set (i := 5) sc__law_mixed.nd rfl (Or.inl rfl) (pe_op op_mod (pe_callTy Wk.b_int (by rfl) T.b_int (by decide +kernel) (pa_cons (pe_op op_add (pe_op op_mul (pv 4) (pv 4)) (pv 3)) pa_nil)) pe_int))
  (pss_cons (ps_if (pt_cmpR op_gt (pv 2) pe_int (nomark _))
    (pss_one (ps_ret (pe_op op_mod (pe_callTy Wk.b_int (by rfl) T.b_int (by decide +kernel) (pa_cons (pe_op op_add (pe_op op_mul (pv 4) pe_int) (pv 5)) pa_nil)) (pv 2))))
    pss_nil)
  (pss_one (ps_ret (pe_op op_mod (pv 5) (pv 2)))))))), ?_⟩
    walk_at "s"
    refine w_ite (fun h1 => ?_) (fun h1 => ?_)
    all_goals walk_at "s"
    all_goals exact k _ (Int.emod_nonneg _ (by omega)) (Int.emod_lt_of_pos _ hm)
theorem u_mixed {n t m : Int} {H : Hp} {Q : VK} {E : XK} (hm : 0 < m) (q : ∀ k : Int, 0 ≤ k → k < m → Q (.int k) H) : sp_mixed [.int n, .int t, .int m] H Q E := ⟨n, t, m, rfl, hm, q⟩
def sp_store (K : PySem.W.Frag) : Sp := fun vs H Q _ => ∃ (a : Addr) (ns : List Int) (salt : Int), vs = [.ref a, .int salt] ∧ SqL K H a (ns.map V.int) ∧ ns.length ≤ 63 ∧ 0 ≤ salt ∧ salt ≤ 200000 ∧
  ∀ st c H', H st = none → H c = none → StoreAt H' st c → Upt [] H H' → Q (.ref st) H'
theorem c_store (T : Txt K mg aREG aOPS) (d : DefAt K mg "_law_store" s__law_store) : C8.Cal P w K mg base 1 "_law_store" (sp_store K) [] := by
  refine mk d sc__law_store (fun _ _ _ _ _ _ us hl => match us, hl with | [_, _], _ => rfl) (fun vs H Q E h => ?_) (fun f cdv A outer s H vs Q E hr h => ?_)
  · obtain ⟨a, ns, z, rfl, _⟩ := h
    rfl
  · obtain ⟨a, ns, z, rfl, hS, hl, hz0, hz1, k⟩ := h
    refine ⟨_, (pss_cons (ps_set (i := 2) sc__law_store.nd rfl (Or.inl rfl) (pe_op op_add (pe_op op_mul (pv 1) pe_int) (pe_callB Wk.b_len (by rfl) T.b_len (by decide +kernel) (pa_cons (pv 0) pa_nil))))
  (pss_cons (ps_for PassesOwn.never rfl (pi_list (pv 0)) (pg_name (i := 3) sc__law_store.nd rfl (Or.inl rfl))
    (pss_one (ps_set (i := 2) sc__law_store.nd rfl (Or.inl rfl) (pe_op op_mod (pe_callTy Wk.b_int (by rfl) T.b_int (by decide +kernel) (pa_cons (pe_op op_add (pe_op op_add (pe_op op_mul (pv 2) pe_int) (pe_op op_mod (pe_callTy Wk.b_int (by rfl) T.b_int (by decide +kernel) (pa_cons (pv 3) pa_nil)) pe_int)) pe_int) pa_nil)) pe_int))))
  (pss_one (ps_ret (pe_lst (pa_cons (pe_callTy Wk.b_list (by rfl) T.b_list (by decide +kernel) (pa_cons (pv 0) pa_nil)) (pa_cons pe_int (pa_cons pe_int (pa_cons pe_int (pa_cons (pv 2) pa_nil)))))))))), ?_⟩
    walk_at "s"
    refine c_lenL hS ?_
    walk_at "s"
    refine l_list hS (fun i σ H2 => H2 = H ∧ ∃ (s : Int) (v : Option V), σ = [some (.ref a), some (.int z), some (.int s), v] ∧ 0 ≤ s ∧ s < 2147483647) ⟨rfl, _, _, rfl, ?_, ?_⟩ (fun i σ H2 _ ⟨e, _⟩ => by rw [e]; exact hS) ?_ ?_
    · rw [List.length_map]; omega
    · rw [List.length_map]; omega
    · rintro i y σ H2 hi ⟨rfl, s, v, rfl, h0, h1⟩
      obtain ⟨n, rfl⟩ := item_int hi
      walk_at "s"
      exact ⟨rfl, _, _, rfl, Int.emod_nonneg _ (by omega), Int.emod_lt_of_pos _ (by omega)⟩
    · rintro σ H2 ⟨rfl, s, v, rfl, h0, h1⟩
      walk_at "s"
      refine c_listL hS fun c H3 n3 => ?_
      walk_at "s"
      refine w_new (by walk_at "sz") fun st H4 n4 => ?_
      have e := n4.keep.at0 n3.at_
      exact k st c H4 (n3.keep.free (by simp) n4.no) n3.no ⟨ns, 0, 0, 0, s, n4.at_, e, by omega, by omega, h0, h1⟩ (n3.keep.trans n4.keep)
theorem u_store {a : Addr} {ns : List Int} {z : Int} {H : Hp} {Q : VK} {E : XK} (h : SqL K H a (ns.map V.int)) (hl : ns.length ≤ 63) (h0 : 0 ≤ z) (h1 : z ≤ 200000) (q : ∀ st c H', H st = none → H c = none → StoreAt H' st c → Upt [] H H' → Q (.ref st) H') : sp_store K [.ref a, .int z] H Q E :=
  ⟨a, ns, z, rfl, h, hl, h0, h1, q⟩
def sp_take : Sp := fun vs H Q _ => ∃ (st c : Addr) (m : Int), vs = [.ref st, .int m] ∧ StoreAt H st c ∧ m ≤ 4611686018427387904 ∧ Drawn st c H (fun k => 0 ≤ k ∧ (k < m ∨ k = 0)) Q
theorem c_take (T : Txt K mg aREG aOPS) (d : DefAt K mg "_law_take" s__law_take) (c__law_mixed : C8.Cal P w K mg base 1 "_law_mixed" sp_mixed []) : C8.Cal P w K mg base 2 "_law_take" sp_take [] := by
  refine mk d sc__law_take (fun _ _ _ _ _ _ us hl => match us, hl with | [_, _], _ => rfl) (fun vs H Q E h => ?_) (fun f cdv A outer s H vs Q E hr h => ?_)
  · obtain ⟨st, c, m, rfl, _⟩ := h
    rfl
  · obtain ⟨st, c, m, rfl, S, hm, k⟩ := h
    have ne := S.ne
    obtain ⟨ns, i, b, t, z, h1, h2, hi, hb, hz0, hz1⟩ := S
    refine ⟨_, (pss_cons (ps_augS (pv 0) pe_int Wk.get_list pe_int ip_add set_list)
  (pss_cons (ps_if (pt_cmpR op_lt (pv 1) pe_int (nomark _))
    (pss_one (ps_ret pe_int))
    pss_nil)
  (C8.pss_cut (ps_if (PW.pt (pw_and (pt_cmpR op_eq (pe_ix ix_list (pv 0) pe_int (fun _ _ => rfl)) pe_int (nomark _)) (pw_and1 (pt_cmpR op_lt (pe_ix ix_list (pv 0) pe_int (fun _ _ => rfl)) (pe_callB Wk.b_len (by rfl) T.b_len (by decide +kernel) (pa_cons (pe_ix ix_list (pv 0) pe_int (fun _ _ => rfl)) pa_nil)) (nomark _)))))
    (pss_cons (ps_set (i := 2) sc__law_take.nd rfl (Or.inl rfl) (pe_callTy Wk.b_int (by rfl) T.b_int (by decide +kernel) (pa_cons (pe_ix ix_list (pe_ix ix_list (pv 0) pe_int (fun _ _ => rfl)) (pe_ix ix_list (pv 0) pe_int (fun _ _ => rfl)) (fun _ _ => rfl)) pa_nil)))
      (pss_cons (ps_augS (pv 0) pe_int Wk.get_list pe_int ip_add set_list)
      (pss_cons (ps_if (pt_cmpR op_lt (pe_callB Wk.b_abs (by rfl) T.b_abs (by decide +kernel) (pa_cons (pv 2) pa_nil)) (pe_op op_pow pe_int pe_int) (nomark _))
        (pss_one (ps_ret (C8.pe_c c__law_mixed hr (by first | decide | omega) rfl (pa_cons (pv 2) (pa_cons (pe_ix ix_list (pv 0) pe_int (fun _ _ => rfl)) (pa_cons (pv 1) pa_nil))))))
        pss_nil)
      (pss_one (ps_asg (pe_callB Wk.b_abs (by rfl) T.b_abs (by decide +kernel) (pa_cons (pv 2) pa_nil)) (pg_sub (pv 0) pe_int set_list))))))
    pss_nil)
  (pss_cons (ps_if (pt_cmpR op_eq (pe_ix ix_list (pv 0) pe_int (fun _ _ => rfl)) pe_int (nomark _))
    (pss_one (ps_ret (C8.pe_c c__law_mixed hr (by first | decide | omega) rfl (pa_cons (pe_ix ix_list (pv 0) pe_int (fun _ _ => rfl)) (pa_cons (pe_ix ix_list (pv 0) pe_int (fun _ _ => rfl)) (pa_cons (pv 1) pa_nil))))))
    pss_nil)
  (pss_cons (ps_set (i := 3) sc__law_take.nd rfl (Or.inl rfl) (pe_op op_mod (pe_callTy Wk.b_int (by rfl) T.b_int (by decide +kernel) (pa_cons (pe_ix ix_list (pv 0) pe_int (fun _ _ => rfl)) pa_nil)) (pv 1)))
  (pss_cons (ps_asg (pe_op op_fdivW (pe_callTy Wk.b_int (by rfl) T.b_int (by decide +kernel) (pa_cons (pe_ix ix_list (pv 0) pe_int (fun _ _ => rfl)) pa_nil)) (pv 1)) (pg_sub (pv 0) pe_int set_list))
  (pss_one (ps_ret (pv 3))))))))), ?_⟩
    walk_at "s"
    refine w_ixL (SqL.of h1) rfl ?_
    walk_at "s"
    refine w_setI h1 rfl fun H2 g2 => ?_
    walk_at "s"
    have a2 : H2 st = some (.lst [.ref c, .int i, .int b, .int (t + 1), .int z]) := g2.at_
    have e2 : H2 c = some (.lst (ns.map V.int)) := g2.keep.at1 ne h2
    refine w_ite (fun q1 => ?_) (fun q1 => ?_)
    · walk_at "s"
      exact k 0 H2 ⟨by omega, .inr rfl⟩ (store_chg g2 h2 ne hi hb hz0 hz1) g2.keep
    · walk_at "s"
      refine w_cut (fun σ H3 => Upt [st] H H3 ∧ H3 c = some (.lst (ns.map V.int)) ∧ ∃ (i b : Int) (v : Option V), 0 ≤ i ∧ 0 ≤ b ∧ H3 st = some (.lst [.ref c, .int i, .int b, .int (t + 1), .int z]) ∧ σ = [some (.ref st), some (.int m), v, none]) ?_ ?_
      · walk_at "s"
        refine w_ixL (SqL.of a2) rfl ?_
        walk_at "s"
        refine w_ite (fun q2 => ?_) (fun q2 => ?_)
        · walk_at "s"
          refine w_ixL (SqL.of a2) rfl ?_
          walk_at "s"
          refine w_ixL (SqL.of a2) rfl ?_
          walk_at "s"
          refine c_lenL (SqL.of e2) ?_
          walk_at "s"
          rw [List.length_map]
          refine w_ite (fun q3 => ?_) (fun q3 => ?_)
          · obtain ⟨n, hn, hat⟩ := atI_ints hi q3
            walk_at "s"
            refine w_ixL (SqL.of a2) rfl ?_
            walk_at "s"
            refine w_ixL (SqL.of a2) rfl ?_
            walk_at "s"
            refine w_ixL (SqL.of e2) hat ?_
            walk_at "s"
            refine w_ixL (SqL.of a2) rfl ?_
            walk_at "s"
            refine w_setI a2 rfl fun H3 g3 => ?_
            walk_at "s"
            have a3 : H3 st = some (.lst [.ref c, .int (i + 1), .int b, .int (t + 1), .int z]) := g3.at_
            have e3 : H3 c = some (.lst (ns.map V.int)) := g3.keep.at1 ne e2
            refine w_ite (fun q4 => ?_) (fun q4 => ?_)
            · walk_at "s"
              refine w_ixL (SqL.of a3) rfl ?_
              walk_at "s"
              refine u_mixed (by omega) fun v hv0 hv1 => ?_
              exact k v H3 ⟨hv0, .inl hv1⟩ ⟨ns, _, _, _, _, a3, e3, by omega, hb, hz0, hz1⟩ (g2.keep.trans g3.keep)
            · walk_at "s"
              refine w_setI a3 rfl fun H4 g4 => ?_
              walk_at "s"
              have hb4 : 0 ≤ (if n < 0 then -n else n) := by split <;> omega
              exact ⟨(g2.keep.trans g3.keep).trans g4.keep, g4.keep.at1 ne e3, _, _, _, by omega, hb4, g4.at_, rfl⟩
          · walk_at "s"
            exact ⟨g2.keep, e2, _, _, _, hi, hb, a2, rfl⟩
        · walk_at "s"
          exact ⟨g2.keep, e2, _, _, _, hi, hb, a2, rfl⟩
      · rintro σ H3 ⟨u3, e3, i3, b3, v, hi3, hb3, a3, rfl⟩
        walk_at "s"
        refine w_ixL (SqL.of a3) rfl ?_
        walk_at "s"
        refine w_ite (fun q2 => ?_) (fun q2 => ?_)
        · walk_at "s"
          refine w_ixL (SqL.of a3) rfl ?_
          walk_at "s"
          refine w_ixL (SqL.of a3) rfl ?_
          walk_at "s"
          refine u_mixed (by omega) fun v hv0 hv1 => ?_
          exact k v H3 ⟨hv0, .inl hv1⟩ ⟨ns, _, _, _, _, a3, e3, hi3, hb3, hz0, hz1⟩ u3
        · walk_at "s"
          refine w_ixL (SqL.of a3) rfl ?_
          walk_at "s"
          refine w_ixL (SqL.of a3) rfl ?_
          walk_at "s"
          refine w_setI a3 rfl fun H4 g4 => ?_
          walk_at "s"
          exact k _ H4 ⟨Int.emod_nonneg _ (by omega), .inl (Int.emod_lt_of_pos _ (by omega))⟩ ⟨ns, _, _, _, _, g4.at_, g4.keep.at1 ne e3, hi3, Int.ediv_nonneg hb3 (by omega), hz0, hz1⟩ (u3.trans g4.keep)
theorem u_take {st c : Addr} {m : Int} {H : Hp} {Q : VK} {E : XK} (S : StoreAt H st c) (hm : m ≤ 4611686018427387904) (q : ∀ k H', 0 ≤ k ∧ (k < m ∨ k = 0) → StoreAt H' st c → Upt [st] H H' → Q (.int k) H') : sp_take [.ref st, .int m] H Q E :=
  ⟨st, c, m, rfl, S, hm, q⟩
end
end K08
set_option Elab.async false
set_option linter.all false
set_option maxRecDepth 100000
set_option maxHeartbeats 4000000
namespace K08
open PySem PySem.Spec PyProof.Rows L2 Wk
local macro_rules | `(tactic| walk_at "u1") => `(tactic| fail "no more")
local macro_rules | `(tactic| walk_at "pos") => `(tactic| first | assumption | omega | decide | (simp only [Int.ofNat_eq_natCast] at *; omega))
local macro_rules | `(tactic| walk_at "sz") => `(tactic| first
  | (simp only [List.length_cons, List.length_nil]; decide)
  | exact Evl.sz_of (by omega)
  | exact Evl.sz_lt (by omega)
  | exact Evl.sz_of (by simp only [List.length_map, List.length_append, List.length_cons, List.length_nil, List.length_replicate]; omega)
  | exact Evl.sz_lt (by simp only [List.length_map, List.length_append, List.length_cons, List.length_nil, List.length_replicate]; omega))
local macro_rules | `(tactic| walk_at "cond") => `(tactic| first
  | exact Or.inr ⟨by decide, by decide⟩
  | (show (0 : Int) < _; first | decide | assumption | omega)
  | exact Or.inl ⟨by omega, by omega⟩
  | exact Or.inr ⟨by omega, by omega⟩
  | exact ⟨by decide, by decide, by decide⟩
  | exact log2_lt (by omega) (by omega)
  | exact ⟨by omega, by omega⟩)
local macro_rules | `(tactic| walk_at "ty") => `(tactic| first
  | exact ty_int | exact ty_bl | exact ty_str | exact ty_non
  | exact ty_L (by assumption) | exact ty_T (by assumption)
  | exact ty_L (SqL.of (by assumption)) | exact ty_T (SqT.of (by assumption)))
local macro_rules | `(tactic| walk_at "kit") => `(tactic| first
  | exact k_ii | exact k_ib | exact k_is | exact k_il | exact k_it
  | exact k_bb | exact k_bi | exact k_bs | exact k_bl | exact k_bt
  | exact k_ss | exact k_sb | exact k_si | exact k_sl | exact k_st
  | exact k_ll | exact k_lb | exact k_li | exact k_ls | exact k_lt
  | exact k_tt | exact k_tb | exact k_ti | exact k_ts | exact k_tl
  | exact k_nn | exact k_ni | exact k_ns | exact k_nl | exact k_nt)
local macro_rules | `(tactic| walk_at "s1") => `(tactic| first
  | with_reducible refine w_seq ?_
  | with_reducible refine w_set ?_
  | with_reducible refine w_op ?_
  | ((with_reducible refine' w_var ?h1 ?_); (case h1 => rfl))
  | with_reducible refine w_c ?_
  | with_reducible refine w_cb ?_
  | with_reducible refine w_cons ?_
  | with_reducible refine w_nil ?_
  | with_reducible refine w_I0 ?_
  | ((with_reducible refine' w_I ?c1 ?_); case c1 => walk_at "cond")
  | with_reducible refine w_ret ?_
  | with_reducible refine w_next ?_
  | with_reducible refine w_ifS ?_
  | with_reducible refine w_test ?_
  | with_reducible refine w_tB ?_
  | with_reducible refine w_k ?_
  | with_reducible refine w_eqI ?_
  | with_reducible refine w_neI ?_
  | with_reducible refine w_eqS ?_
  | with_reducible refine w_neS ?_
  | with_reducible refine w_and ?_
  | with_reducible refine w_or ?_
  | with_reducible refine w_not ?_
  | with_reducible refine w_andV ?_
  | with_reducible refine w_orV ?_
  | with_reducible refine w_notV ?_
  | with_reducible refine w_ifE ?_
  | with_reducible refine w_true ?_
  | with_reducible refine w_false ?_
  | with_reducible refine w_ntrue ?_
  | with_reducible refine w_nfalse ?_
  | with_reducible refine w_call ?_
  | with_reducible refine c_int ?_
  | with_reducible refine c_abs ?_
  | with_reducible refine c_max ?_
  | with_reducible refine c_min ?_
  | with_reducible refine w_drop ?_
  | with_reducible refine w_sfld ?_
  | with_reducible refine w_meth ?_
  | with_reducible refine w_make ?_
  | with_reducible refine w_prop ?_
  | with_reducible refine w_callK ?_
  | with_reducible refine w_callN ?_
  | with_reducible refine w_star ?_
  | with_reducible refine w_gcons ?_
  | with_reducible refine w_gname ?_
  | with_reducible refine w_gnil ?_
  | with_reducible refine w_retN ?_
  | with_reducible refine w_tup ?_
  | with_reducible refine w_lst ?_
  | with_reducible refine w_fld ?_
  | with_reducible refine w_bm ?_
  | with_reducible refine w_bm0 ?_
  | with_reducible refine w_forL ?_
  | with_reducible refine w_forT ?_
  | with_reducible refine w_forS ?_
  | with_reducible refine w_forR ?_
  | with_reducible refine w_lcR ?_
  | with_reducible refine w_lcL ?_
  | with_reducible refine w_lcT ?_
  | with_reducible refine w_isN ?_
  | with_reducible refine w_notN ?_
  | with_reducible refine w_asg ?_
  | with_reducible refine w_gsub ?_
  | ((with_reducible refine' w_aug ?h1 ?_); (case h1 => rfl))
  | with_reducible refine w_augS ?_
  | with_reducible refine w_ipI ?_
  | with_reducible refine w_un ?_
  | with_reducible refine w_U ?_
  | ((with_reducible refine' w_iteF ?f1 ?_); case f1 => (first | (intro h; cases h; done) | decide))
  | ((with_reducible refine' w_iteT ?f1 ?_); case f1 => rfl)
  | ((with_reducible refine' w_iteNF ?f1 ?_); case f1 => rfl)
  | ((with_reducible refine' w_iteNT ?f1 ?_); case f1 => (first | (intro h; cases h; done) | decide))
  | ((with_reducible refine' c_isi ?t1 ?k1 ?_); (case t1 => walk_at "ty"); (case k1 => walk_at "kit"))
  | ((with_reducible refine' w_eq ?e1 ?_); case e1 => rfl)
  | ((with_reducible refine' w_ne ?e1 ?_); case e1 => rfl)
  | walk_at "u1")
local macro_rules | `(tactic| walk_at "s") => `(tactic| repeat walk_at "s1")
local macro_rules | `(tactic| walk_at "mem") => `(tactic| first | with_reducible exact List.mem_cons_self .. | ((with_reducible refine' List.mem_cons_of_mem _ ?q); (case q => walk_at "mem")) | assumption | ((with_reducible refine' List.mem_append_right _ ?q); (case q => walk_at "mem")) | (exact List.mem_append_left _ (by assumption)))
local macro_rules | `(tactic| walk_at "pk") => `(tactic| first | with_reducible exact Pk.here | ((with_reducible refine' Pk.there ?q); (case q => walk_at "pk")) | ((with_reducible refine' Pk.app ?q); (case q => walk_at "pk")))
local macro_rules | `(tactic| walk_at "pkb") => `(tactic| first | with_reducible exact PkB.here | ((with_reducible refine' PkB.there ?q); (case q => walk_at "pkb")) | ((with_reducible refine' PkB.app ?q); (case q => walk_at "pkb")))
local macro_rules | `(tactic| walk_at "spl") => `(tactic| first | with_reducible exact Spl.nil | ((with_reducible refine' Spl.cons ?h ?t); (case h => walk_at "pk"); (case t => walk_at "spl")) | ((with_reducible refine' Spl.blk ?h ?t); (case h => walk_at "pkb"); (case t => walk_at "spl")))
local macro_rules | `(tactic| walk_at "sbx") => `(tactic| first | with_reducible exact Sb.refl | with_reducible exact Sb.nil | with_reducible exact Sb.left | ((with_reducible refine' Sb.cons ?h ?t); (case h => walk_at "pk"); (case t => walk_at "sbx")) | ((with_reducible refine' Sb.blk ?h ?t); (case h => walk_at "pkb"); (case t => walk_at "sbx")) | ((with_reducible refine' Sb.drop ?q); (case q => walk_at "sbx")) | ((with_reducible refine' Sb.right ?q); (case q => walk_at "sbx")))
local macro_rules | `(tactic| walk_at "hd") => `(tactic| first | assumption | exact Hd.sb (by assumption) (by walk_at "sbx"))
local macro_rules | `(tactic| walk_at "sq") => `(tactic| first
  | assumption
  | exact Hd.sqL (by assumption) (by walk_at "mem")
  | exact Hd.sqT (by assumption) (by walk_at "mem")
  | exact Hd.sqF (by assumption) (by walk_at "mem")
  | (refine .inl ?_; walk_at "sq")
  | (refine .inr ?_; walk_at "sq"))
local macro_rules | `(tactic| walk_at "at") => `(tactic| first | rfl | assumption | exact atI_nat (by assumption))
local macro_rules | `(tactic| walk_at "dn1") => `(tactic| first
  | exact Dn.int | exact Dn.str | exact Dn.non | exact Dn.bl | assumption
  | ((refine' Dn.tp ?a1 ?m1 ?l1 ?p1); (case a1 => assumption); (case m1 => walk_at "mem"); (case l1 => (simp only [List.length_cons, List.length_nil]; omega)); (case p1 => walk_at "dns"))
  | ((refine' Dn.lt ?a1 ?m1 ?l1 ?p1); (case a1 => assumption); (case m1 => walk_at "mem"); (case l1 => (simp only [List.length_cons, List.length_nil]; omega)); (case p1 => walk_at "dns")))
local macro_rules | `(tactic| walk_at "dns") => `(tactic| first | exact Paired.nil | exact Dn.ints | ((refine' Paired.cons ?a1 ?b1); (case a1 => walk_at "dn1"); (case b1 => walk_at "dns")))
local macro_rules | `(tactic| walk_at "g1") => `(tactic| first
  | ((with_reducible refine' g_ixI ?h1 ?h2 ?h3 ?_); (case h1 => assumption); (case h2 => walk_at "mem"); (case h3 => omega); intro z hz)
  | ((with_reducible refine' g_ixIT ?h1 ?h2 ?h3 ?_); (case h1 => assumption); (case h2 => walk_at "mem"); (case h3 => omega); intro z hz)
  | ((with_reducible refine' g_setI ?h1 ?h2 ?h3 ?_); (case h1 => assumption); (case h2 => walk_at "pk"); (case h3 => omega); intro H2 hh2)
  | ((with_reducible refine' w_ixL ?h1 ?h2 ?_); (case h1 => walk_at "sq"); (case h2 => walk_at "at"))
  | ((with_reducible refine' w_ixT ?h1 ?h2 ?_); (case h1 => walk_at "sq"); (case h2 => walk_at "at"))
  | ((with_reducible refine' w_ixAny ?h1 ?h2 ?_); (case h1 => walk_at "sq"); (case h2 => walk_at "at"))
  | ((with_reducible refine' c_lenA ?h1 ?_); (case h1 => walk_at "sq"))
  | ((with_reducible refine' c_isi ?t1 ?k1 ?_); (case t1 => first | exact ty_T (by walk_at "sq") | exact ty_L (by walk_at "sq")); (case k1 => walk_at "kit"))
  | ((with_reducible refine' g_lst ?h1 ?h2 ?_); (case h1 => assumption); (case h2 => walk_at "sz"); intro p H2 hh2)
  | ((with_reducible refine' g_tup ?h1 ?h2 ?_); (case h1 => assumption); (case h2 => walk_at "sz"); intro p H2 hh2)
  | ((with_reducible refine' g_dict ?h1 ?_); (case h1 => assumption); intro p H2 hh2)
  | ((with_reducible refine' g_listL ?h1 ?h2 ?_); (case h1 => assumption); (case h2 => walk_at "sq"); intro p H2 hh2)
  | ((with_reducible refine' g_listT ?h1 ?h2 ?_); (case h1 => assumption); (case h2 => walk_at "sq"); intro p H2 hh2)
  | ((with_reducible refine' g_tupL ?h1 ?h2 ?_); (case h1 => assumption); (case h2 => walk_at "sq"); intro p H2 hh2)
  | ((with_reducible refine' g_set ?h1 ?h2 ?h3 ?_); (case h1 => assumption); (case h2 => walk_at "pk"); (case h3 => first | rfl | assumption | exact Evl.ixN_nat (by first | omega | (simp only [List.length_cons, List.length_nil]; omega))); intro H2 hh2)
  | ((with_reducible refine' g_kbm ?h1 ?h2 ?_); (case h1 => assumption); (case h2 => walk_at "mem"))
  | ((with_reducible refine' g_kbm0 ?h1 ?h2 ?_); (case h1 => assumption); (case h2 => walk_at "mem"))
  | ((with_reducible refine' g_app ?h1 ?h2 ?h3 ?_); (case h1 => assumption); (case h2 => walk_at "pk"); (case h3 => walk_at "sz"); intro H2 hh2)
  | ((with_reducible refine' g_kapp ?h1 ?h2 ?h3 ?_); (case h1 => assumption); (case h2 => walk_at "pk"); (case h3 => walk_at "sz"); intro H2 hh2)
  | ((with_reducible refine' g_fld ?h1 ?h2 ?h3 ?h4 ?h5 ?_); (case h1 => assumption); (case h2 => walk_at "mem"); (case h3 => assumption); (case h4 => assumption); (case h5 => rfl))
  | ((with_reducible refine' g_sfld ?h1 ?h2 ?h3 ?h4 ?h5 ?_); (case h1 => assumption); (case h2 => walk_at "pk"); (case h3 => assumption); (case h4 => assumption); (case h5 => decide); intro H2 hh2)
  | ((with_reducible refine' g_meth ?h1 ?h2 ?h3 ?_); (case h1 => assumption); (case h2 => walk_at "mem"); (case h3 => rfl))
  | ((with_reducible refine' g_prop ?h1 ?h2 ?_); (case h1 => assumption); (case h2 => walk_at "mem"))
  | ((with_reducible refine' g_make ?h1 ?_); (case h1 => assumption); intro x H2 hh2)
  | ((with_reducible refine' g_cat ?h1 ?h2 ?h3 ?h4 ?_); (case h1 => assumption); (case h2 => walk_at "mem"); (case h3 => walk_at "mem"); (case h4 => walk_at "sz"); intro p H2 hh2)
  | ((with_reducible refine' g_inT ?h1 ?h2 ?h3 ?h4 ?h5 ?_); (case h1 => assumption); (case h2 => walk_at "mem"); (case h3 => rfl); (case h4 => rfl); (case h5 => rfl)))
local macro_rules | `(tactic| walk_at "gs") => `(tactic| repeat first | walk_at "s1" | walk_at "g1")
local macro_rules | `(tactic| walk_at "ite") => `(tactic| first
  | ((with_reducible refine' w_iteT ?h1 ?_); (case h1 => omega))
  | ((with_reducible refine' w_iteF ?h1 ?_); (case h1 => omega))
  | (with_reducible refine w_ite ?_ ?_ <;> intro hq)
  | ((with_reducible refine' w_iteNT ?h1 ?_); (case h1 => omega))
  | ((with_reducible refine' w_iteNF ?h1 ?_); (case h1 => omega))
  | (with_reducible refine w_iteN ?_ ?_ <;> intro hq))
local macro_rules | `(tactic| walk_at "go") => `(tactic| repeat' first | walk_at "s1" | walk_at "g1" | walk_at "ite")
section
variable {P : Program} {w : World} {K : PySem.W.Frag} {mg : Str → Option Value} {base : Heap} {aREG aOPS : Addr}
def sp_pick (K : PySem.W.Frag) : Sp := fun vs H Q _ => ∃ (st c r : Addr) (xs : List V), vs = [.ref st, .ref r] ∧ StoreAt H st c ∧ SqL K H r xs ∧ r ≠ st ∧ 0 < xs.length ∧ xs.length ≤ 100000 ∧
  ∀ v H', v ∈ xs → StoreAt H' st c → Upt [st] H H' → Q v H'
theorem c_pick (T : Txt K mg aREG aOPS) (d : DefAt K mg "_law_pick" s__law_pick) (c__law_take : C8.Cal P w K mg base 2 "_law_take" sp_take []) : C8.Cal P w K mg base 3 "_law_pick" (sp_pick K) [] := by
  refine mk d sc__law_pick (fun _ _ _ _ _ _ us hl => match us, hl with | [_, _], _ => rfl) (fun vs H Q E h => ?_) (fun f cdv A outer s H vs Q E hr h => ?_)
  · obtain ⟨st, c, r, xs, rfl, _⟩ := h
    rfl
  · obtain ⟨st, c, r, xs, rfl, S, hr1, hne, h0, h1, k⟩ := h
    refine ⟨_, (pss_one (ps_ret (pe_ix ix_list (pv 1) (C8.pe_c c__law_take hr (by first | decide | omega) rfl (pa_cons (pv 0) (pa_cons (pe_callB Wk.b_len (by rfl) T.b_len (by decide +kernel) (pa_cons (pv 1) pa_nil)) pa_nil))) (fun _ _ => rfl)))), ?_⟩
    walk_at "s"
    refine c_lenL hr1 ?_
    walk_at "s"
    refine u_take S (by omega) fun n H2 hn S2 U2 => ?_
    walk_at "s"
    obtain ⟨j, rfl⟩ := Int.eq_ofNat_of_zero_le hn.1
    have hj : j < xs.length := by omega
    refine w_ixL (Upt.seqL U2 (by simpa using hne) hr1) (atI_nat (List.getElem?_eq_getElem hj)) ?_
    exact k _ H2 (List.getElem_mem hj) S2 U2
theorem u_pick {st c r : Addr} {xs : List V} {H : Hp} {Q : VK} {E : XK} (S : StoreAt H st c) (hr : SqL K H r xs) (hne : r ≠ st) (h0 : 0 < xs.length) (h1 : xs.length ≤ 100000) (q : ∀ v H', v ∈ xs → StoreAt H' st c → Upt [st] H H' → Q v H') : sp_pick K [.ref st, .ref r] H Q E :=
  ⟨st, c, r, xs, rfl, S, hr, hne, h0, h1, q⟩
def sp_between : Sp := fun vs H Q _ => ∃ (st c : Addr) (lo hi : Int), vs = [.ref st, .int lo, .int hi] ∧ StoreAt H st c ∧ lo ≤ hi ∧ hi - lo < 4611686018427387904 ∧ Drawn st c H (fun k => lo ≤ k ∧ k ≤ hi) Q
theorem c_between (T : Txt K mg aREG aOPS) (d : DefAt K mg "_law_between" s__law_between) (c__law_take : C8.Cal P w K mg base 2 "_law_take" sp_take []) : C8.Cal P w K mg base 3 "_law_between" sp_between [] := by
  refine mk d sc__law_between (fun _ _ _ _ _ _ us hl => match us, hl with | [_, _, _], _ => rfl) (fun vs H Q E h => ?_) (fun f cdv A outer s H vs Q E hr h => ?_)
  · obtain ⟨st, c, lo, hi, rfl, _⟩ := h
    rfl
  · obtain ⟨st, c, lo, hi, rfl, S, h0, h1, k⟩ := h
    refine ⟨_, (pss_cons (ps_set (i := 3) sc__law_between.nd rfl (Or.inl rfl) (pe_op op_add (pe_op op_sub (pv 2) (pv 1)) pe_int))
  (pss_cons (ps_set (i := 4) sc__law_between.nd rfl (Or.inl rfl) (C8.pe_c c__law_take hr (by first | decide | omega) rfl (pa_cons (pv 0) (pa_cons pe_int pa_nil))))
  (pss_cons (ps_if (pt_cmpR op_eq (pv 4) pe_int (nomark _))
    (pss_one (ps_ret (pe_op op_add (pv 1) (C8.pe_c c__law_take hr (by first | decide | omega) rfl (pa_cons (pv 0) (pa_cons (pe_callB (Wk.b_min rfl) (by rfl) T.b_min (by decide +kernel) (pa_cons (pv 3) (pa_cons pe_int pa_nil))) pa_nil))))))
    pss_nil)
  (pss_cons (ps_if (pt_cmpR op_eq (pv 4) pe_int (nomark _))
    (pss_one (ps_ret (pe_op op_sub (pv 2) (C8.pe_c c__law_take hr (by first | decide | omega) rfl (pa_cons (pv 0) (pa_cons (pe_callB (Wk.b_min rfl) (by rfl) T.b_min (by decide +kernel) (pa_cons (pv 3) (pa_cons pe_int pa_nil))) pa_nil))))))
    pss_nil)
  (pss_one (ps_ret (pe_op op_add (pv 1) (C8.pe_c c__law_take hr (by first | decide | omega) rfl (pa_cons (pv 0) (pa_cons (pv 3) pa_nil)))))))))), ?_⟩
    walk_at "s"
    refine u_take S (by omega) fun n H2 hn S2 U2 => ?_
    walk_at "s"
    refine w_ite (fun q1 => ?_) (fun q1 => ?_)
    · walk_at "s"
      refine u_take S2 (by split <;> omega) fun n2 H3 hn2 S3 U3 => ?_
      walk_at "s"
      exact k _ H3 (by have := hn2.2; split at this <;> omega) S3 (U2.trans U3)
    · walk_at "s"
      refine w_ite (fun q2 => ?_) (fun q2 => ?_)
      · walk_at "s"
        refine u_take S2 (by split <;> omega) fun n2 H3 hn2 S3 U3 => ?_
        walk_at "s"
        exact k _ H3 (by have := hn2.2; split at this <;> omega) S3 (U2.trans U3)
      · walk_at "s"
        refine u_take S2 (by omega) fun n2 H3 hn2 S3 U3 => ?_
        walk_at "s"
        exact k _ H3 (by omega) S3 (U2.trans U3)
theorem u_between {st c : Addr} {lo hi : Int} {H : Hp} {Q : VK} {E : XK} (S : StoreAt H st c) (h0 : lo ≤ hi) (h1 : hi - lo < 4611686018427387904) (q : ∀ k H', lo ≤ k ∧ k ≤ hi → StoreAt H' st c → Upt [st] H H' → Q (.int k) H') : sp_between [.ref st, .int lo, .int hi] H Q E :=
  ⟨st, c, lo, hi, rfl, S, h0, h1, q⟩
def sp_size : Sp := fun vs H Q _ => ∃ (st c : Addr) (m : Int), vs = [.ref st, .int m] ∧ StoreAt H st c ∧ 0 ≤ m ∧ m ≤ 1000000 ∧ Drawn st c H (fun k => 0 ≤ k ∧ k ≤ m) Q
theorem u_size {st c : Addr} {m : Int} {H : Hp} {Q : VK} {E : XK} (S : StoreAt H st c) (h0 : 0 ≤ m) (h1 : m ≤ 1000000) (q : ∀ k H', 0 ≤ k ∧ k ≤ m → StoreAt H' st c → Upt [st] H H' → Q (.int k) H') : sp_size [.ref st, .int m] H Q E :=
  ⟨st, c, m, rfl, S, h0, h1, q⟩
def sp_word : Sp := fun vs H Q _ => ∃ (st c : Addr), vs = [.ref st] ∧ StoreAt H st c ∧ Drawn st c H (fun k => 0 ≤ k ∧ k < 65536) Q
theorem u_word {st c : Addr} {H : Hp} {Q : VK} {E : XK} (S : StoreAt H st c) (q : ∀ k H', 0 ≤ k ∧ k < 65536 → StoreAt H' st c → Upt [st] H H' → Q (.int k) H') : sp_word [.ref st] H Q E :=
  ⟨st, c, rfl, S, q⟩
end
end K08
set_option Elab.async false
set_option linter.all false
set_option maxRecDepth 100000
set_option maxHeartbeats 4000000
namespace K08
open PySem PySem.Spec PyProof.Rows L2 Wk
local macro_rules | `(tactic| walk_at "u1") => `(tactic| fail "no more")
local macro_rules | `(tactic| walk_at "pos") => `(tactic| first | assumption | omega | decide | (simp only [Int.ofNat_eq_natCast] at *; omega))
local macro_rules | `(tactic| walk_at "sz") => `(tactic| first
  | (simp only [List.length_cons, List.length_nil]; decide)
  | exact Evl.sz_of (by omega)
  | exact Evl.sz_lt (by omega)
  | exact Evl.sz_of (by simp only [List.length_map, List.length_append, List.length_cons, List.length_nil, List.length_replicate]; omega)
  | exact Evl.sz_lt (by simp only [List.length_map, List.length_append, List.length_cons, List.length_nil, List.length_replicate]; omega))
local macro_rules | `(tactic| walk_at "cond") => `(tactic| first
  | exact Or.inr ⟨by decide, by decide⟩
  | (show (0 : Int) < _; first | decide | assumption | omega)
  | exact Or.inl ⟨by omega, by omega⟩
  | exact Or.inr ⟨by omega, by omega⟩
  | exact ⟨by decide, by decide, by decide⟩
  | exact log2_lt (by omega) (by omega)
  | exact ⟨by omega, by omega⟩)
local macro_rules | `(tactic| walk_at "ty") => `(tactic| first
  | exact ty_int | exact ty_bl | exact ty_str | exact ty_non
  | exact ty_L (by assumption) | exact ty_T (by assumption)
  | exact ty_L (SqL.of (by assumption)) | exact ty_T (SqT.of (by assumption)))
local macro_rules | `(tactic| walk_at "kit") => `(tactic| first
  | exact k_ii | exact k_ib | exact k_is | exact k_il | exact k_it
  | exact k_bb | exact k_bi | exact k_bs | exact k_bl | exact k_bt
  | exact k_ss | exact k_sb | exact k_si | exact k_sl | exact k_st
  | exact k_ll | exact k_lb | exact k_li | exact k_ls | exact k_lt
  | exact k_tt | exact k_tb | exact k_ti | exact k_ts | exact k_tl
  | exact k_nn | exact k_ni | exact k_ns | exact k_nl | exact k_nt)
local macro_rules | `(tactic| walk_at "s1") => `(tactic| first
  | with_reducible refine w_seq ?_
  | with_reducible refine w_set ?_
  | with_reducible refine w_op ?_
  | ((with_reducible refine' w_var ?h1 ?_); (case h1 => rfl))
  | with_reducible refine w_c ?_
  | with_reducible refine w_cb ?_
  | with_reducible refine w_cons ?_
  | with_reducible refine w_nil ?_
  | with_reducible refine w_I0 ?_
  | ((with_reducible refine' w_I ?c1 ?_); case c1 => walk_at "cond")
  | with_reducible refine w_ret ?_
  | with_reducible refine w_next ?_
  | with_reducible refine w_ifS ?_
  | with_reducible refine w_test ?_
  | with_reducible refine w_tB ?_
  | with_reducible refine w_k ?_
  | with_reducible refine w_eqI ?_
  | with_reducible refine w_neI ?_
  | with_reducible refine w_eqS ?_
  | with_reducible refine w_neS ?_
  | with_reducible refine w_and ?_
  | with_reducible refine w_or ?_
  | with_reducible refine w_not ?_
  | with_reducible refine w_andV ?_
  | with_reducible refine w_orV ?_
  | with_reducible refine w_notV ?_
  | with_reducible refine w_ifE ?_
  | with_reducible refine w_true ?_
  | with_reducible refine w_false ?_
  | with_reducible refine w_ntrue ?_
  | with_reducible refine w_nfalse ?_
  | with_reducible refine w_call ?_
  | with_reducible refine c_int ?_
  | with_reducible refine c_abs ?_
  | with_reducible refine c_max ?_
  | with_reducible refine c_min ?_
  | with_reducible refine w_drop ?_
  | with_reducible refine w_sfld ?_
  | with_reducible refine w_meth ?_
  | with_reducible refine w_make ?_
  | with_reducible refine w_prop ?_
  | with_reducible refine w_callK ?_
  | with_reducible refine w_callN ?_
  | with_reducible refine w_star ?_
  | with_reducible refine w_gcons ?_
  | with_reducible refine w_gname ?_
  | with_reducible refine w_gnil ?_
  | with_reducible refine w_retN ?_
  | with_reducible refine w_tup ?_
  | with_reducible refine w_lst ?_
  | with_reducible refine w_fld ?_
  | with_reducible refine w_bm ?_
  | with_reducible refine w_bm0 ?_
  | with_reducible refine w_forL ?_
  | with_reducible refine w_forT ?_
  | with_reducible refine w_forS ?_
  | with_reducible refine w_forR ?_
  | with_reducible refine w_lcR ?_
  | with_reducible refine w_lcL ?_
  | with_reducible refine w_lcT ?_
  | with_reducible refine w_isN ?_
  | with_reducible refine w_notN ?_
  | with_reducible refine w_asg ?_
  | with_reducible refine w_gsub ?_
  | ((with_reducible refine' w_aug ?h1 ?_); (case h1 => rfl))
  | with_reducible refine w_augS ?_
  | with_reducible refine w_ipI ?_
  | with_reducible refine w_un ?_
  | with_reducible refine w_U ?_
  | ((with_reducible refine' w_iteF ?f1 ?_); case f1 => (first | (intro h; cases h; done) | decide))
  | ((with_reducible refine' w_iteT ?f1 ?_); case f1 => rfl)
  | ((with_reducible refine' w_iteNF ?f1 ?_); case f1 => rfl)
  | ((with_reducible refine' w_iteNT ?f1 ?_); case f1 => (first | (intro h; cases h; done) | decide))
  | ((with_reducible refine' c_isi ?t1 ?k1 ?_); (case t1 => walk_at "ty"); (case k1 => walk_at "kit"))
  | ((with_reducible refine' w_eq ?e1 ?_); case e1 => rfl)
  | ((with_reducible refine' w_ne ?e1 ?_); case e1 => rfl)
  | walk_at "u1")
local macro_rules | `(tactic| walk_at "s") => `(tactic| repeat walk_at "s1")
local macro_rules | `(tactic| walk_at "mem") => `(tactic| first | with_reducible exact List.mem_cons_self .. | ((with_reducible refine' List.mem_cons_of_mem _ ?q); (case q => walk_at "mem")) | assumption | ((with_reducible refine' List.mem_append_right _ ?q); (case q => walk_at "mem")) | (exact List.mem_append_left _ (by assumption)))
local macro_rules | `(tactic| walk_at "pk") => `(tactic| first | with_reducible exact Pk.here | ((with_reducible refine' Pk.there ?q); (case q => walk_at "pk")) | ((with_reducible refine' Pk.app ?q); (case q => walk_at "pk")))
local macro_rules | `(tactic| walk_at "pkb") => `(tactic| first | with_reducible exact PkB.here | ((with_reducible refine' PkB.there ?q); (case q => walk_at "pkb")) | ((with_reducible refine' PkB.app ?q); (case q => walk_at "pkb")))
local macro_rules | `(tactic| walk_at "spl") => `(tactic| first | with_reducible exact Spl.nil | ((with_reducible refine' Spl.cons ?h ?t); (case h => walk_at "pk"); (case t => walk_at "spl")) | ((with_reducible refine' Spl.blk ?h ?t); (case h => walk_at "pkb"); (case t => walk_at "spl")))
local macro_rules | `(tactic| walk_at "sbx") => `(tactic| first | with_reducible exact Sb.refl | with_reducible exact Sb.nil | with_reducible exact Sb.left | ((with_reducible refine' Sb.cons ?h ?t); (case h => walk_at "pk"); (case t => walk_at "sbx")) | ((with_reducible refine' Sb.blk ?h ?t); (case h => walk_at "pkb"); (case t => walk_at "sbx")) | ((with_reducible refine' Sb.drop ?q); (case q => walk_at "sbx")) | ((with_reducible refine' Sb.right ?q); (case q => walk_at "sbx")))
local macro_rules | `(tactic| walk_at "hd") => `(tactic| first | assumption | exact Hd.sb (by assumption) (by walk_at "sbx"))
local macro_rules | `(tactic| walk_at "sq") => `(tactic| first
  | assumption
  | exact Hd.sqL (by assumption) (by walk_at "mem")
  | exact Hd.sqT (by assumption) (by walk_at "mem")
  | exact Hd.sqF (by assumption) (by walk_at "mem")
  | (refine .inl ?_; walk_at "sq")
  | (refine .inr ?_; walk_at "sq"))
local macro_rules | `(tactic| walk_at "at") => `(tactic| first | rfl | assumption | exact atI_nat (by assumption))
local macro_rules | `(tactic| walk_at "dn1") => `(tactic| first
  | exact Dn.int | exact Dn.str | exact Dn.non | exact Dn.bl | assumption
  | ((refine' Dn.tp ?a1 ?m1 ?l1 ?p1); (case a1 => assumption); (case m1 => walk_at "mem"); (case l1 => (simp only [List.length_cons, List.length_nil]; omega)); (case p1 => walk_at "dns"))
  | ((refine' Dn.lt ?a1 ?m1 ?l1 ?p1); (case a1 => assumption); (case m1 => walk_at "mem"); (case l1 => (simp only [List.length_cons, List.length_nil]; omega)); (case p1 => walk_at "dns")))
local macro_rules | `(tactic| walk_at "dns") => `(tactic| first | exact Paired.nil | exact Dn.ints | ((refine' Paired.cons ?a1 ?b1); (case a1 => walk_at "dn1"); (case b1 => walk_at "dns")))
local macro_rules | `(tactic| walk_at "g1") => `(tactic| first
  | ((with_reducible refine' g_ixI ?h1 ?h2 ?h3 ?_); (case h1 => assumption); (case h2 => walk_at "mem"); (case h3 => omega); intro z hz)
  | ((with_reducible refine' g_ixIT ?h1 ?h2 ?h3 ?_); (case h1 => assumption); (case h2 => walk_at "mem"); (case h3 => omega); intro z hz)
  | ((with_reducible refine' g_setI ?h1 ?h2 ?h3 ?_); (case h1 => assumption); (case h2 => walk_at "pk"); (case h3 => omega); intro H2 hh2)
  | ((with_reducible refine' w_ixL ?h1 ?h2 ?_); (case h1 => walk_at "sq"); (case h2 => walk_at "at"))
  | ((with_reducible refine' w_ixT ?h1 ?h2 ?_); (case h1 => walk_at "sq"); (case h2 => walk_at "at"))
  | ((with_reducible refine' w_ixAny ?h1 ?h2 ?_); (case h1 => walk_at "sq"); (case h2 => walk_at "at"))
  | ((with_reducible refine' c_lenA ?h1 ?_); (case h1 => walk_at "sq"))
  | ((with_reducible refine' c_isi ?t1 ?k1 ?_); (case t1 => first | exact ty_T (by walk_at "sq") | exact ty_L (by walk_at "sq")); (case k1 => walk_at "kit"))
  | ((with_reducible refine' g_lst ?h1 ?h2 ?_); (case h1 => assumption); (case h2 => walk_at "sz"); intro p H2 hh2)
  | ((with_reducible refine' g_tup ?h1 ?h2 ?_); (case h1 => assumption); (case h2 => walk_at "sz"); intro p H2 hh2)
  | ((with_reducible refine' g_dict ?h1 ?_); (case h1 => assumption); intro p H2 hh2)
  | ((with_reducible refine' g_listL ?h1 ?h2 ?_); (case h1 => assumption); (case h2 => walk_at "sq"); intro p H2 hh2)
  | ((with_reducible refine' g_listT ?h1 ?h2 ?_); (case h1 => assumption); (case h2 => walk_at "sq"); intro p H2 hh2)
  | ((with_reducible refine' g_tupL ?h1 ?h2 ?_); (case h1 => assumption); (case h2 => walk_at "sq"); intro p H2 hh2)
  | ((with_reducible refine' g_set ?h1 ?h2 ?h3 ?_); (case h1 => assumption); (case h2 => walk_at "pk"); (case h3 => first | rfl | assumption | exact Evl.ixN_nat (by first | omega | (simp only [List.length_cons, List.length_nil]; omega))); intro H2 hh2)
  | ((with_reducible refine' g_kbm ?h1 ?h2 ?_); (case h1 => assumption); (case h2 => walk_at "mem"))
  | ((with_reducible refine' g_kbm0 ?h1 ?h2 ?_); (case h1 => assumption); (case h2 => walk_at "mem"))
  | ((with_reducible refine' g_app ?h1 ?h2 ?h3 ?_); (case h1 => assumption); (case h2 => walk_at "pk"); (case h3 => walk_at "sz"); intro H2 hh2)
  | ((with_reducible refine' g_kapp ?h1 ?h2 ?h3 ?_); (case h1 => assumption); (case h2 => walk_at "pk"); (case h3 => walk_at "sz"); intro H2 hh2)
  | ((with_reducible refine' g_fld ?h1 ?h2 ?h3 ?h4 ?h5 ?_); (case h1 => assumption); (case h2 => walk_at "mem"); (case h3 => assumption); (case h4 => assumption); (case h5 => rfl))
  | ((with_reducible refine' g_sfld ?h1 ?h2 ?h3 ?h4 ?h5 ?_); (case h1 => assumption); (case h2 => walk_at "pk"); (case h3 => assumption); (case h4 => assumption); (case h5 => decide); intro H2 hh2)
  | ((with_reducible refine' g_meth ?h1 ?h2 ?h3 ?_); (case h1 => assumption); (case h2 => walk_at "mem"); (case h3 => rfl))
  | ((with_reducible refine' g_prop ?h1 ?h2 ?_); (case h1 => assumption); (case h2 => walk_at "mem"))
  | ((with_reducible refine' g_make ?h1 ?_); (case h1 => assumption); intro x H2 hh2)
  | ((with_reducible refine' g_cat ?h1 ?h2 ?h3 ?h4 ?_); (case h1 => assumption); (case h2 => walk_at "mem"); (case h3 => walk_at "mem"); (case h4 => walk_at "sz"); intro p H2 hh2)
  | ((with_reducible refine' g_inT ?h1 ?h2 ?h3 ?h4 ?h5 ?_); (case h1 => assumption); (case h2 => walk_at "mem"); (case h3 => rfl); (case h4 => rfl); (case h5 => rfl)))
local macro_rules | `(tactic| walk_at "gs") => `(tactic| repeat first | walk_at "s1" | walk_at "g1")
local macro_rules | `(tactic| walk_at "ite") => `(tactic| first
  | ((with_reducible refine' w_iteT ?h1 ?_); (case h1 => omega))
  | ((with_reducible refine' w_iteF ?h1 ?_); (case h1 => omega))
  | (with_reducible refine w_ite ?_ ?_ <;> intro hq)
  | ((with_reducible refine' w_iteNT ?h1 ?_); (case h1 => omega))
  | ((with_reducible refine' w_iteNF ?h1 ?_); (case h1 => omega))
  | (with_reducible refine w_iteN ?_ ?_ <;> intro hq))
local macro_rules | `(tactic| walk_at "go") => `(tactic| repeat' first | walk_at "s1" | walk_at "g1" | walk_at "ite")
section
variable {P : Program} {w : World} {K : PySem.W.Frag} {mg : Str → Option Value} {base : Heap} {aREG aOPS : Addr}
/-! ### likeness -/
/-- two things of one datum, nested less than n deep, are alike -/
def sp_alike (K : PySem.W.Frag) (n : Nat) : Sp := fun vs H Q _ => ∃ (v1 v2 : V) (d : PyData), vs = [v1, v2] ∧ (match n with
  | 0 => False
  | n + 1 => Dn K [] H n v1 d ∧ Dn K [] H n v2 d) ∧ Q (.bl true) H
theorem alike_step (n : Nat) (T : Txt K mg aREG aOPS) (d : DefAt K mg "_law_alike" s__law_alike) (c__law_alike : C8.Cal P w K mg base n "_law_alike" (sp_alike K n) []) : C8.Cal P w K mg base (n + 1) "_law_alike" (sp_alike K (n + 1)) [] := by
  refine mk d sc__law_alike (fun _ _ _ _ _ _ us hl => match us, hl with | [_, _], _ => rfl) (fun vs H Q E h => ?_) (fun f cdv A outer s H vs Q E hr h => ?_)
  · obtain ⟨v1, v2, d, rfl, _⟩ := h
    rfl
  · obtain ⟨v1, v2, d, rfl, hd, k⟩ := h
    refine ⟨_, (pss_cons (ps_if (PW.pt (pw_or (pt_cmpR op_isN1 (pv 0) pe_non (nomark _)) (pw_or1 (pt_cmpR op_isN1 (pv 1) pe_non (nomark _)))))
    (pss_one (ps_ret (pe_and (pe_cmpR op_isN1 (pv 0) pe_non (nomark _)) (pe_one (pe_cmpR op_isN1 (pv 1) pe_non (nomark _))))))
    pss_nil)
  (pss_cons (ps_if (PW.pt (pw_or (pt_val (pe_callB call_isi (by rfl) T.b_isinstance (by decide +kernel) (pa_cons (pv 0) (pa_cons (pe_bltn (v := .ty "bool") (by rfl) T.b_bool (by decide +kernel) rfl) pa_nil)))) (pw_or1 (pt_val (pe_callB call_isi (by rfl) T.b_isinstance (by decide +kernel) (pa_cons (pv 1) (pa_cons (pe_bltn (v := .ty "bool") (by rfl) T.b_bool (by decide +kernel) rfl) pa_nil)))))))
    (pss_one (ps_ret (pe_and (pe_callB call_isi (by rfl) T.b_isinstance (by decide +kernel) (pa_cons (pv 0) (pa_cons (pe_bltn (v := .ty "bool") (by rfl) T.b_bool (by decide +kernel) rfl) pa_nil))) (pe_and (pe_callB call_isi (by rfl) T.b_isinstance (by decide +kernel) (pa_cons (pv 1) (pa_cons (pe_bltn (v := .ty "bool") (by rfl) T.b_bool (by decide +kernel) rfl) pa_nil))) (pe_one (pe_cmpR op_eq (pv 0) (pv 1) (nomark _)))))))
    pss_nil)
  (pss_cons (ps_if (pt_val (pe_callB call_isi (by rfl) T.b_isinstance (by decide +kernel) (pa_cons (pv 0) (pa_cons (pe_bltn (v := .ty "int") (by rfl) T.b_int (by decide +kernel) rfl) pa_nil))))
    (pss_one (ps_ret (pe_and (pe_callB call_isi (by rfl) T.b_isinstance (by decide +kernel) (pa_cons (pv 1) (pa_cons (pe_bltn (v := .ty "int") (by rfl) T.b_int (by decide +kernel) rfl) pa_nil))) (pe_one (pe_cmpR op_eq (pv 0) (pv 1) (nomark _))))))
    pss_nil)
  (pss_cons (ps_if (pt_val (pe_callB call_isi (by rfl) T.b_isinstance (by decide +kernel) (pa_cons (pv 0) (pa_cons (pe_bltn (v := .ty "str") (by rfl) T.b_str (by decide +kernel) rfl) pa_nil))))
    (pss_one (ps_ret (pe_and (pe_callB call_isi (by rfl) T.b_isinstance (by decide +kernel) (pa_cons (pv 1) (pa_cons (pe_bltn (v := .ty "str") (by rfl) T.b_str (by decide +kernel) rfl) pa_nil))) (pe_one (pe_cmpR op_eq (pv 0) (pv 1) (nomark _))))))
    pss_nil)
  (pss_cons (ps_if (pt_val (pe_callB call_isi (by rfl) T.b_isinstance (by decide +kernel) (pa_cons (pv 0) (pa_cons (pe_bltn (v := .ty "list") (by rfl) T.b_list (by decide +kernel) rfl) pa_nil))))
    (pss_one (ps_if (pt_not (pt_val (pe_callB call_isi (by rfl) T.b_isinstance (by decide +kernel) (pa_cons (pv 1) (pa_cons (pe_bltn (v := .ty "list") (by rfl) T.b_list (by decide +kernel) rfl) pa_nil)))))
        (pss_one (ps_ret pe_bl))
        pss_nil))
    (pss_one (ps_if (PW.pt (pw_or (pt_not (pt_val (pe_callB call_isi (by rfl) T.b_isinstance (by decide +kernel) (pa_cons (pv 0) (pa_cons (pe_bltn (v := .ty "tuple") (by rfl) T.b_tuple (by decide +kernel) rfl) pa_nil))))) (pw_or1 (pt_not (pt_val (pe_callB call_isi (by rfl) T.b_isinstance (by decide +kernel) (pa_cons (pv 1) (pa_cons (pe_bltn (v := .ty "tuple") (by rfl) T.b_tuple (by decide +kernel) rfl) pa_nil))))))))
        (pss_one (ps_ret pe_bl))
        pss_nil)))
  (pss_cons (ps_if (pt_cmpR op_ne (pe_callB Wk.b_len (by rfl) T.b_len (by decide +kernel) (pa_cons (pv 0) pa_nil)) (pe_callB Wk.b_len (by rfl) T.b_len (by decide +kernel) (pa_cons (pv 1) pa_nil)) (nomark _))
    (pss_one (ps_ret pe_bl))
    pss_nil)
  (pss_cons (ps_for PassesOwn.never rfl (pi_range1 rfl T.b_range (pa_cons (pe_callB Wk.b_len (by rfl) T.b_len (by decide +kernel) (pa_cons (pv 0) pa_nil)) pa_nil)) (pg_name (i := 2) sc__law_alike.nd rfl (Or.inl rfl))
    (pss_one (ps_if (pt_not (pt_val (C8.pe_c c__law_alike hr (by first | decide | omega) rfl (pa_cons (pe_ix ix_seq (pv 0) (pv 2) (fun _ _ => rfl)) (pa_cons (pe_ix ix_seq (pv 1) (pv 2) (fun _ _ => rfl)) pa_nil)))))
        (pss_one (ps_ret pe_bl))
        pss_nil)))
  (pss_one (ps_ret pe_bl))))))))), ?_⟩
    have scal : ∀ {v1 v2 d}, Sc v1 d → Sc v2 d → v1 = v2 := fun h1 h2 => by cases h1 <;> cases h2 <;> rfl
    have hd' : Sc v1 d ∧ Sc v2 d ∨ ∃ m a1 a2 xs ys ds, n = m + 1 ∧ v1 = .ref a1 ∧ v2 = .ref a2 ∧ xs.length ≤ 100000 ∧ Paired (Dn K [] H m) xs ds ∧ Paired (Dn K [] H m) ys ds ∧ ((SqL K H a1 xs ∧ SqL K H a2 ys) ∨ (SqT K H a1 xs ∧ SqT K H a2 ys)) := by
      obtain ⟨h1, h2⟩ := hd
      cases n with
      | zero => exact .inl ⟨h1, h2⟩
      | succ m =>
        rcases h1 with h1 | ⟨a, xs, ds, e1, e2, _, hq, hl, p⟩ | ⟨a, xs, ds, e1, e2, _, hq, hl, p⟩
        · rcases h2 with h2 | ⟨a', xs', ds', e1', e2', _, hq', hl', p'⟩ | ⟨a', xs', ds', e1', e2', _, hq', hl', p'⟩
          · exact .inl ⟨h1, h2⟩
          · subst e2'; cases h1
          · subst e2'; cases h1
        · subst e2
          rcases h2 with h2 | ⟨a', xs', ds', e1', e2', _, hq', hl', p'⟩ | ⟨a', xs', ds', e1', e2', _, hq', hl', p'⟩
          · cases h2
          · cases e2'
            exact .inr ⟨m, a, a', xs, xs', ds, rfl, e1, e1', hl, p, p', .inl ⟨hq, hq'⟩⟩
          · cases e2'
        · subst e2
          rcases h2 with h2 | ⟨a', xs', ds', e1', e2', _, hq', hl', p'⟩ | ⟨a', xs', ds', e1', e2', _, hq', hl', p'⟩
          · cases h2
          · cases e2'
          · cases e2'
            exact .inr ⟨m, a, a', xs, xs', ds, rfl, e1, e1', hl, p, p', .inr ⟨hq, hq'⟩⟩
    clear hd
    rcases hd' with ⟨h1, h2⟩ | ⟨m, a1, a2, xs, ys, ds, rfl, rfl, rfl, hl, p1, p2, hq⟩
    · obtain rfl := scal h1 h2
      clear h2 scal
      cases h1 <;> walk_at "s" <;> first | exact k | (simp only [decide_true]; exact k)
    · have e1 := p1.length
      have el : ys.length = xs.length := by rw [p1.length, p2.length]
      have hx : SqL K H a1 xs ∨ SqT K H a1 xs := hq.elim (fun z => .inl z.1) fun z => .inr z.1
      have hy : SqL K H a2 ys ∨ SqT K H a2 ys := hq.elim (fun z => .inl z.2) fun z => .inr z.2
      have rest : ∀ (lp : TS) (D : Ends), True := fun _ _ => trivial
      rcases hq with ⟨q1, q2⟩ | ⟨q1, q2⟩
      all_goals
        walk_at "s"
        refine c_lenA hx ?_
        walk_at "s"
        refine c_lenA hy ?_
        rw [el]
        walk_at "s"
        refine c_lenA hx ?_
        walk_at "s"
        refine l_range rfl (by omega) (fun i σ H2 => H2 = H ∧ ∃ v, σ = [some (.ref a1), some (.ref a2), v]) ⟨rfl, none, rfl⟩ ?_ ?_
        · rintro i σ H2 hi ⟨rfl, v, rfl⟩
          obtain ⟨d0, hd0, z1⟩ := paired_at p1 (List.getElem?_eq_getElem hi)
          obtain ⟨d1, hd1, z2⟩ := paired_at p2 (List.getElem?_eq_getElem (by omega : i < ys.length))
          rw [hd0] at hd1
          cases hd1
          walk_at "s"
          refine w_ixAny hx (atI_nat (List.getElem?_eq_getElem hi)) ?_
          walk_at "s"
          refine w_ixAny hy (atI_nat (List.getElem?_eq_getElem (by omega : i < ys.length))) ?_
          walk_at "s"
          refine ⟨_, _, d0, rfl, ⟨z1, z2⟩, ?_⟩
          walk_at "s"
          exact ⟨rfl, _, rfl⟩
        · rintro σ H2 ⟨rfl, v, rfl⟩
          walk_at "s"
          exact k
theorem cal_false {x : Str} {st : Stmt} {k : Nat} {sp : Sp} {ps : List Str} (d : DefAt K mg x st)
    (hb : ∀ (kV doc pm : Value) (an : Option Addr) (cdv ct : Value) (us : List Value), us.length = ps.length → bindArgs (PySem.W.fnOf x x (defArgs st) (defBody st) (defScope st) .none kV doc pm an cdv ct) ⟨us, []⟩ = pure (ps.zip us))
    (h : ∀ vs H Q E, sp vs H Q E → False) : C8.Cal P w K mg base k x sp [] := by
  obtain ⟨f, fd, F, hm⟩ := d
  exact ⟨f, fd, ps, [], ⟨fun vs H Q E z => (h _ _ _ _ z).elim, fun A outer s H args us vs Q E _ _ _ _ z => (h _ _ _ _ z).elim⟩, hm, F.kp, F.bindsN hb, .nil⟩
theorem c_alike (T : Txt K mg aREG aOPS) (d : DefAt K mg "_law_alike" s__law_alike) : ∀ n : Nat, C8.Cal P w K mg base n "_law_alike" (sp_alike K n) []
  | 0 => cal_false (ps := ["one", "two"]) d (fun _ _ _ _ _ _ us hl => match us, hl with | [_, _], _ => rfl) fun vs H Q E ⟨_, _, _, _, z, _⟩ => z
  | n + 1 => alike_step n T d (c_alike T d n)
theorem u_alike {n : Nat} {v1 v2 : V} {d : PyData} {H : Hp} {Q : VK} {E : XK} (h1 : Dn K [] H n v1 d) (h2 : Dn K [] H n v2 d) (q : Q (.bl true) H) : sp_alike K (n + 1) [v1, v2] H Q E := ⟨v1, v2, d, rfl, ⟨h1, h2⟩, q⟩
end
end K08
set_option Elab.async false
set_option linter.all false
set_option maxRecDepth 100000
set_option maxHeartbeats 4000000
namespace K08
open PySem PySem.Spec PyProof.Rows L2 Wk
local macro_rules | `(tactic| walk_at "u1") => `(tactic| fail "no more")
local macro_rules | `(tactic| walk_at "pos") => `(tactic| first | assumption | omega | decide | (simp only [Int.ofNat_eq_natCast] at *; omega))
local macro_rules | `(tactic| walk_at "sz") => `(tactic| first
  | (simp only [List.length_cons, List.length_nil]; decide)
  | exact Evl.sz_of (by omega)
  | exact Evl.sz_lt (by omega)
  | exact Evl.sz_of (by simp only [List.length_map, List.length_append, List.length_cons, List.length_nil, List.length_replicate]; omega)
  | exact Evl.sz_lt (by simp only [List.length_map, List.length_append, List.length_cons, List.length_nil, List.length_replicate]; omega))
local macro_rules | `(tactic| walk_at "cond") => `(tactic| first
  | exact Or.inr ⟨by decide, by decide⟩
  | (show (0 : Int) < _; first | decide | assumption | omega)
  | exact Or.inl ⟨by omega, by omega⟩
  | exact Or.inr ⟨by omega, by omega⟩
  | exact ⟨by decide, by decide, by decide⟩
  | exact log2_lt (by omega) (by omega)
  | exact ⟨by omega, by omega⟩)
local macro_rules | `(tactic| walk_at "ty") => `(tactic| first
  | exact ty_int | exact ty_bl | exact ty_str | exact ty_non
  | exact ty_L (by assumption) | exact ty_T (by assumption)
  | exact ty_L (SqL.of (by assumption)) | exact ty_T (SqT.of (by assumption)))
local macro_rules | `(tactic| walk_at "kit") => `(tactic| first
  | exact k_ii | exact k_ib | exact k_is | exact k_il | exact k_it
  | exact k_bb | exact k_bi | exact k_bs | exact k_bl | exact k_bt
  | exact k_ss | exact k_sb | exact k_si | exact k_sl | exact k_st
  | exact k_ll | exact k_lb | exact k_li | exact k_ls | exact k_lt
  | exact k_tt | exact k_tb | exact k_ti | exact k_ts | exact k_tl
  | exact k_nn | exact k_ni | exact k_ns | exact k_nl | exact k_nt)
local macro_rules | `(tactic| walk_at "s1") => `(tactic| first
  | with_reducible refine w_seq ?_
  | with_reducible refine w_set ?_
  | with_reducible refine w_op ?_
  | ((with_reducible refine' w_var ?h1 ?_); (case h1 => rfl))
  | with_reducible refine w_c ?_
  | with_reducible refine w_cb ?_
  | with_reducible refine w_cons ?_
  | with_reducible refine w_nil ?_
  | with_reducible refine w_I0 ?_
  | ((with_reducible refine' w_I ?c1 ?_); case c1 => walk_at "cond")
  | with_reducible refine w_ret ?_
  | with_reducible refine w_next ?_
  | with_reducible refine w_ifS ?_
  | with_reducible refine w_test ?_
  | with_reducible refine w_tB ?_
  | with_reducible refine w_k ?_
  | with_reducible refine w_eqI ?_
  | with_reducible refine w_neI ?_
  | with_reducible refine w_eqS ?_
  | with_reducible refine w_neS ?_
  | with_reducible refine w_and ?_
  | with_reducible refine w_or ?_
  | with_reducible refine w_not ?_
  | with_reducible refine w_andV ?_
  | with_reducible refine w_orV ?_
  | with_reducible refine w_notV ?_
  | with_reducible refine w_ifE ?_
  | with_reducible refine w_true ?_
  | with_reducible refine w_false ?_
  | with_reducible refine w_ntrue ?_
  | with_reducible refine w_nfalse ?_
  | with_reducible refine w_call ?_
  | with_reducible refine c_int ?_
  | with_reducible refine c_abs ?_
  | with_reducible refine c_max ?_
  | with_reducible refine c_min ?_
  | with_reducible refine w_drop ?_
  | with_reducible refine w_sfld ?_
  | with_reducible refine w_meth ?_
  | with_reducible refine w_make ?_
  | with_reducible refine w_prop ?_
  | with_reducible refine w_callK ?_
  | with_reducible refine w_callN ?_
  | with_reducible refine w_star ?_
  | with_reducible refine w_gcons ?_
  | with_reducible refine w_gname ?_
  | with_reducible refine w_gnil ?_
  | with_reducible refine w_retN ?_
  | with_reducible refine w_tup ?_
  | with_reducible refine w_lst ?_
  | with_reducible refine w_fld ?_
  | with_reducible refine w_bm ?_
  | with_reducible refine w_bm0 ?_
  | with_reducible refine w_forL ?_
  | with_reducible refine w_forT ?_
  | with_reducible refine w_forS ?_
  | with_reducible refine w_forR ?_
  | with_reducible refine w_lcR ?_
  | with_reducible refine w_lcL ?_
  | with_reducible refine w_lcT ?_
  | with_reducible refine w_isN ?_
  | with_reducible refine w_notN ?_
  | with_reducible refine w_asg ?_
  | with_reducible refine w_gsub ?_
  | ((with_reducible refine' w_aug ?h1 ?_); (case h1 => rfl))
  | with_reducible refine w_augS ?_
  | with_reducible refine w_ipI ?_
  | with_reducible refine w_un ?_
  | with_reducible refine w_U ?_
  | ((with_reducible refine' w_iteF ?f1 ?_); case f1 => (first | (intro h; cases h; done) | decide))
  | ((with_reducible refine' w_iteT ?f1 ?_); case f1 => rfl)
  | ((with_reducible refine' w_iteNF ?f1 ?_); case f1 => rfl)
  | ((with_reducible refine' w_iteNT ?f1 ?_); case f1 => (first | (intro h; cases h; done) | decide))
  | ((with_reducible refine' c_isi ?t1 ?k1 ?_); (case t1 => walk_at "ty"); (case k1 => walk_at "kit"))
  | ((with_reducible refine' w_eq ?e1 ?_); case e1 => rfl)
  | ((with_reducible refine' w_ne ?e1 ?_); case e1 => rfl)
  | walk_at "u1")
local macro_rules | `(tactic| walk_at "s") => `(tactic| repeat walk_at "s1")
local macro_rules | `(tactic| walk_at "mem") => `(tactic| first | with_reducible exact List.mem_cons_self .. | ((with_reducible refine' List.mem_cons_of_mem _ ?q); (case q => walk_at "mem")) | assumption | ((with_reducible refine' List.mem_append_right _ ?q); (case q => walk_at "mem")) | (exact List.mem_append_left _ (by assumption)))
local macro_rules | `(tactic| walk_at "pk") => `(tactic| first | with_reducible exact Pk.here | ((with_reducible refine' Pk.there ?q); (case q => walk_at "pk")) | ((with_reducible refine' Pk.app ?q); (case q => walk_at "pk")))
local macro_rules | `(tactic| walk_at "pkb") => `(tactic| first | with_reducible exact PkB.here | ((with_reducible refine' PkB.there ?q); (case q => walk_at "pkb")) | ((with_reducible refine' PkB.app ?q); (case q => walk_at "pkb")))
local macro_rules | `(tactic| walk_at "spl") => `(tactic| first | with_reducible exact Spl.nil | ((with_reducible refine' Spl.cons ?h ?t); (case h => walk_at "pk"); (case t => walk_at "spl")) | ((with_reducible refine' Spl.blk ?h ?t); (case h => walk_at "pkb"); (case t => walk_at "spl")))
local macro_rules | `(tactic| walk_at "sbx") => `(tactic| first | with_reducible exact Sb.refl | with_reducible exact Sb.nil | with_reducible exact Sb.left | ((with_reducible refine' Sb.cons ?h ?t); (case h => walk_at "pk"); (case t => walk_at "sbx")) | ((with_reducible refine' Sb.blk ?h ?t); (case h => walk_at "pkb"); (case t => walk_at "sbx")) | ((with_reducible refine' Sb.drop ?q); (case q => walk_at "sbx")) | ((with_reducible refine' Sb.right ?q); (case q => walk_at "sbx")))
local macro_rules | `(tactic| walk_at "hd") => `(tactic| first | assumption | exact Hd.sb (by assumption) (by walk_at "sbx"))
local macro_rules | `(tactic| walk_at "sq") => `(tactic| first
  | assumption
  | exact Hd.sqL (by assumption) (by walk_at "mem")
  | exact Hd.sqT (by assumption) (by walk_at "mem")
  | exact Hd.sqF (by assumption) (by walk_at "mem")
  | (refine .inl ?_; walk_at "sq")
  | (refine .inr ?_; walk_at "sq"))
local macro_rules | `(tactic| walk_at "at") => `(tactic| first | rfl | assumption | exact atI_nat (by assumption))
local macro_rules | `(tactic| walk_at "dn1") => `(tactic| first
  | exact Dn.int | exact Dn.str | exact Dn.non | exact Dn.bl | assumption
  | ((refine' Dn.tp ?a1 ?m1 ?l1 ?p1); (case a1 => assumption); (case m1 => walk_at "mem"); (case l1 => (simp only [List.length_cons, List.length_nil]; omega)); (case p1 => walk_at "dns"))
  | ((refine' Dn.lt ?a1 ?m1 ?l1 ?p1); (case a1 => assumption); (case m1 => walk_at "mem"); (case l1 => (simp only [List.length_cons, List.length_nil]; omega)); (case p1 => walk_at "dns")))
local macro_rules | `(tactic| walk_at "dns") => `(tactic| first | exact Paired.nil | exact Dn.ints | ((refine' Paired.cons ?a1 ?b1); (case a1 => walk_at "dn1"); (case b1 => walk_at "dns")))
local macro_rules | `(tactic| walk_at "g1") => `(tactic| first
  | ((with_reducible refine' g_ixI ?h1 ?h2 ?h3 ?_); (case h1 => assumption); (case h2 => walk_at "mem"); (case h3 => omega); intro z hz)
  | ((with_reducible refine' g_ixIT ?h1 ?h2 ?h3 ?_); (case h1 => assumption); (case h2 => walk_at "mem"); (case h3 => omega); intro z hz)
  | ((with_reducible refine' g_setI ?h1 ?h2 ?h3 ?_); (case h1 => assumption); (case h2 => walk_at "pk"); (case h3 => omega); intro H2 hh2)
  | ((with_reducible refine' w_ixL ?h1 ?h2 ?_); (case h1 => walk_at "sq"); (case h2 => walk_at "at"))
  | ((with_reducible refine' w_ixT ?h1 ?h2 ?_); (case h1 => walk_at "sq"); (case h2 => walk_at "at"))
  | ((with_reducible refine' w_ixAny ?h1 ?h2 ?_); (case h1 => walk_at "sq"); (case h2 => walk_at "at"))
  | ((with_reducible refine' c_lenA ?h1 ?_); (case h1 => walk_at "sq"))
  | ((with_reducible refine' c_isi ?t1 ?k1 ?_); (case t1 => first | exact ty_T (by walk_at "sq") | exact ty_L (by walk_at "sq")); (case k1 => walk_at "kit"))
  | ((with_reducible refine' g_lst ?h1 ?h2 ?_); (case h1 => assumption); (case h2 => walk_at "sz"); intro p H2 hh2)
  | ((with_reducible refine' g_tup ?h1 ?h2 ?_); (case h1 => assumption); (case h2 => walk_at "sz"); intro p H2 hh2)
  | ((with_reducible refine' g_dict ?h1 ?_); (case h1 => assumption); intro p H2 hh2)
  | ((with_reducible refine' g_listL ?h1 ?h2 ?_); (case h1 => assumption); (case h2 => walk_at "sq"); intro p H2 hh2)
  | ((with_reducible refine' g_listT ?h1 ?h2 ?_); (case h1 => assumption); (case h2 => walk_at "sq"); intro p H2 hh2)
  | ((with_reducible refine' g_tupL ?h1 ?h2 ?_); (case h1 => assumption); (case h2 => walk_at "sq"); intro p H2 hh2)
  | ((with_reducible refine' g_set ?h1 ?h2 ?h3 ?_); (case h1 => assumption); (case h2 => walk_at "pk"); (case h3 => first | rfl | assumption | exact Evl.ixN_nat (by first | omega | (simp only [List.length_cons, List.length_nil]; omega))); intro H2 hh2)
  | ((with_reducible refine' g_kbm ?h1 ?h2 ?_); (case h1 => assumption); (case h2 => walk_at "mem"))
  | ((with_reducible refine' g_kbm0 ?h1 ?h2 ?_); (case h1 => assumption); (case h2 => walk_at "mem"))
  | ((with_reducible refine' g_app ?h1 ?h2 ?h3 ?_); (case h1 => assumption); (case h2 => walk_at "pk"); (case h3 => walk_at "sz"); intro H2 hh2)
  | ((with_reducible refine' g_kapp ?h1 ?h2 ?h3 ?_); (case h1 => assumption); (case h2 => walk_at "pk"); (case h3 => walk_at "sz"); intro H2 hh2)
  | ((with_reducible refine' g_fld ?h1 ?h2 ?h3 ?h4 ?h5 ?_); (case h1 => assumption); (case h2 => walk_at "mem"); (case h3 => assumption); (case h4 => assumption); (case h5 => rfl))
  | ((with_reducible refine' g_sfld ?h1 ?h2 ?h3 ?h4 ?h5 ?_); (case h1 => assumption); (case h2 => walk_at "pk"); (case h3 => assumption); (case h4 => assumption); (case h5 => decide); intro H2 hh2)
  | ((with_reducible refine' g_meth ?h1 ?h2 ?h3 ?_); (case h1 => assumption); (case h2 => walk_at "mem"); (case h3 => rfl))
  | ((with_reducible refine' g_prop ?h1 ?h2 ?_); (case h1 => assumption); (case h2 => walk_at "mem"))
  | ((with_reducible refine' g_make ?h1 ?_); (case h1 => assumption); intro x H2 hh2)
  | ((with_reducible refine' g_cat ?h1 ?h2 ?h3 ?h4 ?_); (case h1 => assumption); (case h2 => walk_at "mem"); (case h3 => walk_at "mem"); (case h4 => walk_at "sz"); intro p H2 hh2)
  | ((with_reducible refine' g_inT ?h1 ?h2 ?h3 ?h4 ?h5 ?_); (case h1 => assumption); (case h2 => walk_at "mem"); (case h3 => rfl); (case h4 => rfl); (case h5 => rfl)))
local macro_rules | `(tactic| walk_at "gs") => `(tactic| repeat first | walk_at "s1" | walk_at "g1")
local macro_rules | `(tactic| walk_at "ite") => `(tactic| first
  | ((with_reducible refine' w_iteT ?h1 ?_); (case h1 => omega))
  | ((with_reducible refine' w_iteF ?h1 ?_); (case h1 => omega))
  | (with_reducible refine w_ite ?_ ?_ <;> intro hq)
  | ((with_reducible refine' w_iteNT ?h1 ?_); (case h1 => omega))
  | ((with_reducible refine' w_iteNF ?h1 ?_); (case h1 => omega))
  | (with_reducible refine w_iteN ?_ ?_ <;> intro hq))
local macro_rules | `(tactic| walk_at "go") => `(tactic| repeat' first | walk_at "s1" | walk_at "g1" | walk_at "ite")
section
variable {P : Program} {w : World} {K : PySem.W.Frag} {mg : Str → Option Value} {base : Heap} {aREG aOPS : Addr}
/-! ### copies -/
def Trk (S : List Addr) (H : Hp) : Prop := ∀ a ∈ S, ∃ o, H a = some o
theorem Trk.upt {S : List Addr} {H H' : Hp} (t : Trk S H) (u : Upt [] H H') : Trk S H' := fun a h => by
  obtain ⟨o, e⟩ := t a h
  exact ⟨o, u.at0 e⟩
/-- a datum nested less than n deep is copied: the copy's lists and tuples are new -/
def sp_copy (K : PySem.W.Frag) (n : Nat) : Sp := fun vs H Q _ => ∃ (v : V) (d : PyData), vs = [v] ∧ (match n with
  | 0 => False
  | n + 1 => Dn K [] H n v d ∧ ∀ v' H', Upt [] H H' → (∀ S, Trk S H → Dn K S H' n v' d) → Q v' H')
theorem take_succ' {α : Type} {xs : List α} {i : Nat} {x : α} (h : xs[i]? = some x) : xs.take (i + 1) = xs.take i ++ [x] := by
  rw [List.take_succ, h]; rfl
theorem Paired.snoc {α β : Type} {F : α → β → Prop} : ∀ {xs : List α} {ys : List β} {x : α} {y : β}, Paired F xs ys → F x y → Paired F (xs ++ [x]) (ys ++ [y])
  | _, _, _, _, .nil, h => .cons h .nil
  | _, _, _, _, .cons r t, h => .cons r (Paired.snoc t h)
theorem copy_step (n : Nat) (T : Txt K mg aREG aOPS) (d : DefAt K mg "_law_copy" s__law_copy) (c__law_copy : C8.Cal P w K mg base n "_law_copy" (sp_copy K n) []) : C8.Cal P w K mg base (n + 1) "_law_copy" (sp_copy K (n + 1)) [] := by
  refine mk d sc__law_copy (fun _ _ _ _ _ _ us hl => match us, hl with | [_], _ => rfl) (fun vs H Q E h => ?_) (fun f cdv A outer s H vs Q E hr h => ?_)
  · obtain ⟨v1, d, rfl, _⟩ := h
    rfl
  · obtain ⟨v, d, rfl, hd, k⟩ := h
    refine ⟨_, (pss_cons (ps_if (pt_val (pe_callB call_isi (by rfl) T.b_isinstance (by decide +kernel) (pa_cons (pv 0) (pa_cons (pe_bltn (v := .ty "list") (by rfl) T.b_list (by decide +kernel) rfl) pa_nil))))
    (pss_one (ps_ret (pe_lc (own := [("x", 1)]) rfl sc__law_copy.nd (pi_list (pv 0)) (blkOk_by (own := [("x", 1)]) (N := nm__law_copy) (sc := defScope s__law_copy) (by decide +kernel)) (fun _ _ _ _ _ => (pg_name (i := 1) sc__law_copy.nd rfl (Or.inl rfl))) (fun _ _ _ _ _ => pts_nil) (fun _ _ _ _ _ => (C8.pe_c c__law_copy hr (by first | decide | omega) rfl (pa_cons (pv 1) pa_nil))))))
    pss_nil)
  (pss_cons (ps_if (pt_val (pe_callB call_isi (by rfl) T.b_isinstance (by decide +kernel) (pa_cons (pv 0) (pa_cons (pe_bltn (v := .ty "tuple") (by rfl) T.b_tuple (by decide +kernel) rfl) pa_nil))))
    (pss_one (ps_ret (pe_callTy Wk.b_tuple (by rfl) T.b_tuple (by decide +kernel) (pa_cons (pe_lc (own := [("x", 1)]) rfl sc__law_copy.nd (pi_tup (pv 0)) (blkOk_by (own := [("x", 1)]) (N := nm__law_copy) (sc := defScope s__law_copy) (by decide +kernel)) (fun _ _ _ _ _ => (pg_name (i := 1) sc__law_copy.nd rfl (Or.inl rfl))) (fun _ _ _ _ _ => pts_nil) (fun _ _ _ _ _ => (C8.pe_c c__law_copy hr (by first | decide | omega) rfl (pa_cons (pv 1) pa_nil)))) pa_nil))))
    pss_nil)
  (pss_one (ps_ret (pv 0))))), ?_⟩
    have hd' : Sc v d ∨ ∃ m a xs ds, n = m + 1 ∧ v = .ref a ∧ xs.length ≤ 100000 ∧ Paired (Dn K [] H m) xs ds ∧ ((SqL K H a xs ∧ d = .list ds) ∨ (SqT K H a xs ∧ d = .tuple ds)) := by
      cases n with
      | zero => exact .inl hd
      | succ m =>
        rcases hd with h1 | ⟨a, xs, ds, e1, e2, _, hq, hl, p⟩ | ⟨a, xs, ds, e1, e2, _, hq, hl, p⟩
        · exact .inl h1
        · exact .inr ⟨m, a, xs, ds, rfl, e1, hl, p, .inl ⟨hq, e2⟩⟩
        · exact .inr ⟨m, a, xs, ds, rfl, e1, hl, p, .inr ⟨hq, e2⟩⟩
    clear hd
    rcases hd' with h1 | ⟨m, a, xs, ds, rfl, rfl, hl, p, hq⟩
    · have k' := k v H (Upt.refl H) fun S _ => Dn.sc h1
      cases h1 <;> walk_at "s" <;> exact k'
    · -- what holds behind i items
      have el := p.length
      have turn : ∀ (i : Nat) (x : V) (D : Addr) (H2 : Hp), xs[i]? = some x → (H D = none ∧ Upt [] H H2 ∧ ∃ acc, H2 D = some (.lst acc) ∧ acc.length = i ∧ ∀ S, Trk S H → Paired (Dn K (D :: S) H2 m) acc (ds.take i)) →
          ∃ d0, ds[i]? = some d0 ∧ Dn K [] H2 m x d0 ∧ ∀ v' H4, Upt [] H2 H4 → (∀ S, Trk S H2 → Dn K S H4 m v' d0) → KApp D (fun H2 => H D = none ∧ Upt [] H H2 ∧ ∃ acc, H2 D = some (.lst acc) ∧ acc.length = i + 1 ∧ ∀ S, Trk S H → Paired (Dn K (D :: S) H2 m) acc (ds.take (i + 1))) v' H4 := by
        rintro i x D H2 hi ⟨hD, u, acc, hacc, hn, hp⟩
        obtain ⟨d0, hd0, z⟩ := paired_at p hi
        have hil := (List.getElem?_eq_some_iff.mp hi).1
        refine ⟨d0, hd0, Dn.upt u (by simp) z, fun v' H4 u4 h4 => ?_⟩
        refine w_kapp (u4.at0 hacc) (Evl.sz_lt (by omega)) fun H5 g5 => ⟨hD, fun b o _ ho => ?_, acc ++ [v'], g5.at_, by simp [hn], fun S hS => ?_⟩
        · exact g5.keep.at1 (fun z => by subst z; rw [hD] at ho; cases ho) (u4.at0 (u.at0 ho))
        · rw [take_succ' hd0]
          have u5 : Upt [D] H4 H5 := g5.keep
          refine Paired.snoc (Paired.mapP (hp S hS) fun x y q => Dn.upt u5 (by simp) (Dn.upt u4 (by simp) q)) ?_
          refine Dn.upt u5 (by simp) (h4 (D :: S) fun b hb => ?_)
          rcases List.mem_cons.mp hb with z | z
          · subst z; exact ⟨_, hacc⟩
          · exact hS.upt u b z
      rcases hq with ⟨hx, rfl⟩ | ⟨hx, rfl⟩
      · walk_at "s"
        refine lc_L hx (fun i D H2 => H D = none ∧ Upt [] H H2 ∧ ∃ acc, H2 D = some (.lst acc) ∧ acc.length = i ∧ ∀ S, Trk S H → Paired (Dn K (D :: S) H2 m) acc (ds.take i)) (fun D H1 n1 => ⟨n1.no, n1.keep, [], n1.at_, rfl, fun _ _ => .nil⟩) (fun i D H2 _ ⟨_, u, _⟩ => hx.upt u) (fun i x D H2 hi hp => ?_) (fun D H2 hp => ?_)
        · obtain ⟨d0, hd0, z, kk⟩ := turn i x D H2 hi hp
          walk_at "s"
          exact ⟨x, d0, rfl, z, kk⟩
        · obtain ⟨hD, u, acc, hacc, hn, hpp⟩ := hp
          refine k (.ref D) H2 u fun S hS => ?_
          have q := hpp S hS
          rw [el, List.take_length] at q
          exact Dn.lst (SqL.of hacc) (fun z => by obtain ⟨o, e⟩ := hS D z; rw [hD] at e; cases e) (by omega) (Paired.mapP q fun x y q => Dn.weak (fun b hb => List.mem_cons_of_mem _ hb) q)
      · walk_at "s"
        refine lc_T hx (fun i D H2 => H D = none ∧ Upt [] H H2 ∧ ∃ acc, H2 D = some (.lst acc) ∧ acc.length = i ∧ ∀ S, Trk S H → Paired (Dn K (D :: S) H2 m) acc (ds.take i)) (fun D H1 n1 => ⟨n1.no, n1.keep, [], n1.at_, rfl, fun _ _ => .nil⟩) (fun i D H2 _ ⟨_, u, _⟩ => hx.upt u) (fun i x D H2 hi hp => ?_) (fun D H2 hp => ?_)
        · obtain ⟨d0, hd0, z, kk⟩ := turn i x D H2 hi hp
          walk_at "s"
          exact ⟨x, d0, rfl, z, kk⟩
        · obtain ⟨hD, u, acc, hacc, hn, hpp⟩ := hp
          walk_at "s"
          refine c_tupL (SqL.of hacc) fun t H3 n3 => ?_
          refine k (.ref t) H3 (u.trans n3.keep) fun S hS => ?_
          have q := hpp S hS
          rw [el, List.take_length] at q
          exact Dn.tup (SqT.of n3.at_) (fun z => by obtain ⟨o, e⟩ := hS.upt u t z; rw [n3.no] at e; cases e) (by omega) (Paired.mapP q fun x y q => Dn.upt n3.keep (by simp) (Dn.weak (fun b hb => List.mem_cons_of_mem _ hb) q))
theorem c_copy (T : Txt K mg aREG aOPS) (d : DefAt K mg "_law_copy" s__law_copy) : ∀ n : Nat, C8.Cal P w K mg base n "_law_copy" (sp_copy K n) []
  | 0 => cal_false (ps := ["value"]) d (fun _ _ _ _ _ _ us hl => match us, hl with | [_], _ => rfl) fun vs H Q E ⟨_, _, _, z⟩ => z
  | n + 1 => copy_step n T d (c_copy T d n)
theorem u_copy {n : Nat} {v : V} {d : PyData} {H : Hp} {Q : VK} {E : XK} (h1 : Dn K [] H n v d) (q : ∀ v' H', Upt [] H H' → (∀ S, Trk S H → Dn K S H' n v' d) → Q v' H') : sp_copy K (n + 1) [v] H Q E := ⟨v, d, rfl, h1, q⟩
end
end K08
set_option Elab.async false
set_option linter.all false
set_option maxRecDepth 100000
set_option maxHeartbeats 4000000
namespace K08
open PySem PySem.Spec PyProof.Rows L2 Wk
local macro_rules | `(tactic| walk_at "u1") => `(tactic| fail "no more")
local macro_rules | `(tactic| walk_at "pos") => `(tactic| first | assumption | omega | decide | (simp only [Int.ofNat_eq_natCast] at *; omega))
local macro_rules | `(tactic| walk_at "sz") => `(tactic| first
  | (simp only [List.length_cons, List.length_nil]; decide)
  | exact Evl.sz_of (by omega)
  | exact Evl.sz_lt (by omega)
  | exact Evl.sz_of (by simp only [List.length_map, List.length_append, List.length_cons, List.length_nil, List.length_replicate]; omega)
  | exact Evl.sz_lt (by simp only [List.length_map, List.length_append, List.length_cons, List.length_nil, List.length_replicate]; omega))
local macro_rules | `(tactic| walk_at "cond") => `(tactic| first
  | exact Or.inr ⟨by decide, by decide⟩
  | (show (0 : Int) < _; first | decide | assumption | omega)
  | exact Or.inl ⟨by omega, by omega⟩
  | exact Or.inr ⟨by omega, by omega⟩
  | exact ⟨by decide, by decide, by decide⟩
  | exact log2_lt (by omega) (by omega)
  | exact ⟨by omega, by omega⟩)
local macro_rules | `(tactic| walk_at "ty") => `(tactic| first
  | exact ty_int | exact ty_bl | exact ty_str | exact ty_non
  | exact ty_L (by assumption) | exact ty_T (by assumption)
  | exact ty_L (SqL.of (by assumption)) | exact ty_T (SqT.of (by assumption)))
local macro_rules | `(tactic| walk_at "kit") => `(tactic| first
  | exact k_ii | exact k_ib | exact k_is | exact k_il | exact k_it
  | exact k_bb | exact k_bi | exact k_bs | exact k_bl | exact k_bt
  | exact k_ss | exact k_sb | exact k_si | exact k_sl | exact k_st
  | exact k_ll | exact k_lb | exact k_li | exact k_ls | exact k_lt
  | exact k_tt | exact k_tb | exact k_ti | exact k_ts | exact k_tl
  | exact k_nn | exact k_ni | exact k_ns | exact k_nl | exact k_nt)
local macro_rules | `(tactic| walk_at "s1") => `(tactic| first
  | with_reducible refine w_seq ?_
  | with_reducible refine w_set ?_
  | with_reducible refine w_op ?_
  | ((with_reducible refine' w_var ?h1 ?_); (case h1 => rfl))
  | with_reducible refine w_c ?_
  | with_reducible refine w_cb ?_
  | with_reducible refine w_cons ?_
  | with_reducible refine w_nil ?_
  | with_reducible refine w_I0 ?_
  | ((with_reducible refine' w_I ?c1 ?_); case c1 => walk_at "cond")
  | with_reducible refine w_ret ?_
  | with_reducible refine w_next ?_
  | with_reducible refine w_ifS ?_
  | with_reducible refine w_test ?_
  | with_reducible refine w_tB ?_
  | with_reducible refine w_k ?_
  | with_reducible refine w_eqI ?_
  | with_reducible refine w_neI ?_
  | with_reducible refine w_eqS ?_
  | with_reducible refine w_neS ?_
  | with_reducible refine w_and ?_
  | with_reducible refine w_or ?_
  | with_reducible refine w_not ?_
  | with_reducible refine w_andV ?_
  | with_reducible refine w_orV ?_
  | with_reducible refine w_notV ?_
  | with_reducible refine w_ifE ?_
  | with_reducible refine w_true ?_
  | with_reducible refine w_false ?_
  | with_reducible refine w_ntrue ?_
  | with_reducible refine w_nfalse ?_
  | with_reducible refine w_call ?_
  | with_reducible refine c_int ?_
  | with_reducible refine c_abs ?_
  | with_reducible refine c_max ?_
  | with_reducible refine c_min ?_
  | with_reducible refine w_drop ?_
  | with_reducible refine w_sfld ?_
  | with_reducible refine w_meth ?_
  | with_reducible refine w_make ?_
  | with_reducible refine w_prop ?_
  | with_reducible refine w_callK ?_
  | with_reducible refine w_callN ?_
  | with_reducible refine w_star ?_
  | with_reducible refine w_gcons ?_
  | with_reducible refine w_gname ?_
  | with_reducible refine w_gnil ?_
  | with_reducible refine w_retN ?_
  | with_reducible refine w_tup ?_
  | with_reducible refine w_lst ?_
  | with_reducible refine w_fld ?_
  | with_reducible refine w_bm ?_
  | with_reducible refine w_bm0 ?_
  | with_reducible refine w_forL ?_
  | with_reducible refine w_forT ?_
  | with_reducible refine w_forS ?_
  | with_reducible refine w_forR ?_
  | with_reducible refine w_lcR ?_
  | with_reducible refine w_lcL ?_
  | with_reducible refine w_lcT ?_
  | with_reducible refine w_isN ?_
  | with_reducible refine w_notN ?_
  | with_reducible refine w_asg ?_
  | with_reducible refine w_gsub ?_
  | ((with_reducible refine' w_aug ?h1 ?_); (case h1 => rfl))
  | with_reducible refine w_augS ?_
  | with_reducible refine w_ipI ?_
  | with_reducible refine w_un ?_
  | with_reducible refine w_U ?_
  | ((with_reducible refine' w_iteF ?f1 ?_); case f1 => (first | (intro h; cases h; done) | decide))
  | ((with_reducible refine' w_iteT ?f1 ?_); case f1 => rfl)
  | ((with_reducible refine' w_iteNF ?f1 ?_); case f1 => rfl)
  | ((with_reducible refine' w_iteNT ?f1 ?_); case f1 => (first | (intro h; cases h; done) | decide))
  | ((with_reducible refine' c_isi ?t1 ?k1 ?_); (case t1 => walk_at "ty"); (case k1 => walk_at "kit"))
  | ((with_reducible refine' w_eq ?e1 ?_); case e1 => rfl)
  | ((with_reducible refine' w_ne ?e1 ?_); case e1 => rfl)
  | walk_at "u1")
local macro_rules | `(tactic| walk_at "s") => `(tactic| repeat walk_at "s1")
local macro_rules | `(tactic| walk_at "mem") => `(tactic| first | with_reducible exact List.mem_cons_self .. | ((with_reducible refine' List.mem_cons_of_mem _ ?q); (case q => walk_at "mem")) | assumption | ((with_reducible refine' List.mem_append_right _ ?q); (case q => walk_at "mem")) | (exact List.mem_append_left _ (by assumption)))
local macro_rules | `(tactic| walk_at "pk") => `(tactic| first | with_reducible exact Pk.here | ((with_reducible refine' Pk.there ?q); (case q => walk_at "pk")) | ((with_reducible refine' Pk.app ?q); (case q => walk_at "pk")))
local macro_rules | `(tactic| walk_at "pkb") => `(tactic| first | with_reducible exact PkB.here | ((with_reducible refine' PkB.there ?q); (case q => walk_at "pkb")) | ((with_reducible refine' PkB.app ?q); (case q => walk_at "pkb")))
local macro_rules | `(tactic| walk_at "spl") => `(tactic| first | with_reducible exact Spl.nil | ((with_reducible refine' Spl.cons ?h ?t); (case h => walk_at "pk"); (case t => walk_at "spl")) | ((with_reducible refine' Spl.blk ?h ?t); (case h => walk_at "pkb"); (case t => walk_at "spl")))
local macro_rules | `(tactic| walk_at "sbx") => `(tactic| first | with_reducible exact Sb.refl | with_reducible exact Sb.nil | with_reducible exact Sb.left | ((with_reducible refine' Sb.cons ?h ?t); (case h => walk_at "pk"); (case t => walk_at "sbx")) | ((with_reducible refine' Sb.blk ?h ?t); (case h => walk_at "pkb"); (case t => walk_at "sbx")) | ((with_reducible refine' Sb.drop ?q); (case q => walk_at "sbx")) | ((with_reducible refine' Sb.right ?q); (case q => walk_at "sbx")))
local macro_rules | `(tactic| walk_at "hd") => `(tactic| first | assumption | exact Hd.sb (by assumption) (by walk_at "sbx"))
local macro_rules | `(tactic| walk_at "sq") => `(tactic| first
  | assumption
  | exact Hd.sqL (by assumption) (by walk_at "mem")
  | exact Hd.sqT (by assumption) (by walk_at "mem")
  | exact Hd.sqF (by assumption) (by walk_at "mem")
  | (refine .inl ?_; walk_at "sq")
  | (refine .inr ?_; walk_at "sq"))
local macro_rules | `(tactic| walk_at "at") => `(tactic| first | rfl | assumption | exact atI_nat (by assumption))
local macro_rules | `(tactic| walk_at "dn1") => `(tactic| first
  | exact Dn.int | exact Dn.str | exact Dn.non | exact Dn.bl | assumption
  | ((refine' Dn.tp ?a1 ?m1 ?l1 ?p1); (case a1 => assumption); (case m1 => walk_at "mem"); (case l1 => (simp only [List.length_cons, List.length_nil]; omega)); (case p1 => walk_at "dns"))
  | ((refine' Dn.lt ?a1 ?m1 ?l1 ?p1); (case a1 => assumption); (case m1 => walk_at "mem"); (case l1 => (simp only [List.length_cons, List.length_nil]; omega)); (case p1 => walk_at "dns")))
local macro_rules | `(tactic| walk_at "dns") => `(tactic| first | exact Paired.nil | exact Dn.ints | ((refine' Paired.cons ?a1 ?b1); (case a1 => walk_at "dn1"); (case b1 => walk_at "dns")))
local macro_rules | `(tactic| walk_at "g1") => `(tactic| first
  | ((with_reducible refine' g_ixI ?h1 ?h2 ?h3 ?_); (case h1 => assumption); (case h2 => walk_at "mem"); (case h3 => omega); intro z hz)
  | ((with_reducible refine' g_ixIT ?h1 ?h2 ?h3 ?_); (case h1 => assumption); (case h2 => walk_at "mem"); (case h3 => omega); intro z hz)
  | ((with_reducible refine' g_setI ?h1 ?h2 ?h3 ?_); (case h1 => assumption); (case h2 => walk_at "pk"); (case h3 => omega); intro H2 hh2)
  | ((with_reducible refine' w_ixL ?h1 ?h2 ?_); (case h1 => walk_at "sq"); (case h2 => walk_at "at"))
  | ((with_reducible refine' w_ixT ?h1 ?h2 ?_); (case h1 => walk_at "sq"); (case h2 => walk_at "at"))
  | ((with_reducible refine' w_ixAny ?h1 ?h2 ?_); (case h1 => walk_at "sq"); (case h2 => walk_at "at"))
  | ((with_reducible refine' c_lenA ?h1 ?_); (case h1 => walk_at "sq"))
  | ((with_reducible refine' c_isi ?t1 ?k1 ?_); (case t1 => first | exact ty_T (by walk_at "sq") | exact ty_L (by walk_at "sq")); (case k1 => walk_at "kit"))
  | ((with_reducible refine' g_lst ?h1 ?h2 ?_); (case h1 => assumption); (case h2 => walk_at "sz"); intro p H2 hh2)
  | ((with_reducible refine' g_tup ?h1 ?h2 ?_); (case h1 => assumption); (case h2 => walk_at "sz"); intro p H2 hh2)
  | ((with_reducible refine' g_dict ?h1 ?_); (case h1 => assumption); intro p H2 hh2)
  | ((with_reducible refine' g_listL ?h1 ?h2 ?_); (case h1 => assumption); (case h2 => walk_at "sq"); intro p H2 hh2)
  | ((with_reducible refine' g_listT ?h1 ?h2 ?_); (case h1 => assumption); (case h2 => walk_at "sq"); intro p H2 hh2)
  | ((with_reducible refine' g_tupL ?h1 ?h2 ?_); (case h1 => assumption); (case h2 => walk_at "sq"); intro p H2 hh2)
  | ((with_reducible refine' g_set ?h1 ?h2 ?h3 ?_); (case h1 => assumption); (case h2 => walk_at "pk"); (case h3 => first | rfl | assumption | exact Evl.ixN_nat (by first | omega | (simp only [List.length_cons, List.length_nil]; omega))); intro H2 hh2)
  | ((with_reducible refine' g_kbm ?h1 ?h2 ?_); (case h1 => assumption); (case h2 => walk_at "mem"))
  | ((with_reducible refine' g_kbm0 ?h1 ?h2 ?_); (case h1 => assumption); (case h2 => walk_at "mem"))
  | ((with_reducible refine' g_app ?h1 ?h2 ?h3 ?_); (case h1 => assumption); (case h2 => walk_at "pk"); (case h3 => walk_at "sz"); intro H2 hh2)
  | ((with_reducible refine' g_kapp ?h1 ?h2 ?h3 ?_); (case h1 => assumption); (case h2 => walk_at "pk"); (case h3 => walk_at "sz"); intro H2 hh2)
  | ((with_reducible refine' g_fld ?h1 ?h2 ?h3 ?h4 ?h5 ?_); (case h1 => assumption); (case h2 => walk_at "mem"); (case h3 => assumption); (case h4 => assumption); (case h5 => rfl))
  | ((with_reducible refine' g_sfld ?h1 ?h2 ?h3 ?h4 ?h5 ?_); (case h1 => assumption); (case h2 => walk_at "pk"); (case h3 => assumption); (case h4 => assumption); (case h5 => decide); intro H2 hh2)
  | ((with_reducible refine' g_meth ?h1 ?h2 ?h3 ?_); (case h1 => assumption); (case h2 => walk_at "mem"); (case h3 => rfl))
  | ((with_reducible refine' g_prop ?h1 ?h2 ?_); (case h1 => assumption); (case h2 => walk_at "mem"))
  | ((with_reducible refine' g_make ?h1 ?_); (case h1 => assumption); intro x H2 hh2)
  | ((with_reducible refine' g_cat ?h1 ?h2 ?h3 ?h4 ?_); (case h1 => assumption); (case h2 => walk_at "mem"); (case h3 => walk_at "mem"); (case h4 => walk_at "sz"); intro p H2 hh2)
  | ((with_reducible refine' g_inT ?h1 ?h2 ?h3 ?h4 ?h5 ?_); (case h1 => assumption); (case h2 => walk_at "mem"); (case h3 => rfl); (case h4 => rfl); (case h5 => rfl)))
local macro_rules | `(tactic| walk_at "gs") => `(tactic| repeat first | walk_at "s1" | walk_at "g1")
local macro_rules | `(tactic| walk_at "ite") => `(tactic| first
  | ((with_reducible refine' w_iteT ?h1 ?_); (case h1 => omega))
  | ((with_reducible refine' w_iteF ?h1 ?_); (case h1 => omega))
  | (with_reducible refine w_ite ?_ ?_ <;> intro hq)
  | ((with_reducible refine' w_iteNT ?h1 ?_); (case h1 => omega))
  | ((with_reducible refine' w_iteNF ?h1 ?_); (case h1 => omega))
  | (with_reducible refine w_iteN ?_ ?_ <;> intro hq))
local macro_rules | `(tactic| walk_at "go") => `(tactic| repeat' first | walk_at "s1" | walk_at "g1" | walk_at "ite")
section
variable {P : Program} {w : World} {K : PySem.W.Frag} {mg : Str → Option Value} {base : Heap} {aREG aOPS : Addr}
def isR (v : V) (lo hi : Int) : Bool := match v with
  | .int i => decide (lo ≤ i ∧ i ≤ hi)
  | _ => false
def isI (v : V) : Bool := match v with
  | .int _ => true
  | _ => false
abbrev isW (v : V) : Bool := isR v 0 65535
section
variable {D : Nat} {G : Pins} {f g h : Addr} {fd gd kd : FuncData} {v : V} {t : String} {lo hi : Int}
theorem rf_integer (T : Txt K mg aREG aOPS) (M : Mod K mg base) (d : FunT K "is_integer" s_is_integer f fd) (kv : KV G v t) (hD : D < recursionLimit) : RF P w base D f [v] G (.bl (isI v)) := by
  refine rf_of d M sc_is_integer (by decide +kernel) (by decide +kernel) (fun _ _ _ _ _ _ us hl => match us, hl with | [_], _ => rfl) rfl (by omega) fun env c => ?_
  have hx : ∀ {p : Pos}, RE P w base (D + 1) env ([(("x" : Str), v)]) G (.Name "x" p) v := fun {p} => re_name c rfl (List.mem_cons_self ..)
  have hi : ∀ {p : Pos}, RE P w base (D + 1) env ([(("x" : Str), v)]) G (.Name "int" p) (.ty "int") := fun {p} => re_blt M c rfl T.b_int (by rfl) rfl
  have hb : ∀ {p : Pos}, RE P w base (D + 1) env ([(("x" : Str), v)]) G (.Name "bool" p) (.ty "bool") := fun {p} => re_blt M c rfl T.b_bool (by rfl) rfl
  cases kv with
  | int => exact re_andT (re_isi M c rfl T.b_isinstance hx hi .int (kit_ty k_ii)) (re_not (re_isi M c rfl T.b_isinstance hx hb .int (kit_ty k_ib)))
  | bl => exact re_andT (re_isi M c rfl T.b_isinstance hx hi .bl (kit_ty k_bi)) (re_not (re_isi M c rfl T.b_isinstance hx hb .bl (kit_ty k_bb)))
  | non => exact re_andF (re_isi M c rfl T.b_isinstance hx hi .non (kit_ty k_ni))
  | str => exact re_andF (re_isi M c rfl T.b_isinstance hx hi .str (kit_ty k_si))
  | lst q1 q2 => exact re_andF (re_isi M c rfl T.b_isinstance hx hi (.lst q1 q2) (kit_ty k_li))
  | tup q1 q2 => exact re_andF (re_isi M c rfl T.b_isinstance hx hi (.tup q1 q2) (kit_ty k_ti))
  | dct q1 q2 => exact re_andF (re_isi M c rfl T.b_isinstance hx hi (.dct q1 q2) (kit_ty (by decide +kernel)))
theorem rf_range (T : Txt K mg aREG aOPS) (M : Mod K mg base) (d1 : FunT K "is_integer" s_is_integer f fd) (m1 : mg "is_integer" = some (.ref f)) (d : FunT K "is_in_range" s_is_in_range g gd) (kv : KV G v t) (hD : D + 1 < recursionLimit) : RF P w base D g [v, .int lo, .int hi] G (.bl (isR v lo hi)) := by
  refine rf_of d M sc_is_in_range (by decide +kernel) (by decide +kernel) (fun _ _ _ _ _ _ us hl => match us, hl with | [_, _, _], _ => rfl) rfl (by omega) fun env c => ?_
  have F := rf_integer (P := P) (w := w) (D := D + 1) T M d1 kv (by omega)
  have hx : ∀ {p : Pos}, RE P w base (D + 1) env ([(("x" : Str), v), (("least" : Str), .int lo), (("most" : Str), .int hi)]) G (.Name "x" p) v := fun {p} => re_name c rfl (List.mem_cons_self ..)
  cases v with
  | int i =>
    refine re_andT (re_call M c rfl m1 d1.kp F (ra_cons hx ra_nil)) (re_chain ?_ hx ?_)
    · exact re_name c rfl (List.mem_cons_of_mem _ (List.mem_cons_self ..))
    · exact re_name c rfl (List.mem_cons_of_mem _ (List.mem_cons_of_mem _ (List.mem_cons_self ..)))
  | _ => exact re_andF (re_call M c rfl m1 d1.kp F (ra_cons hx ra_nil))
theorem rf_word (T : Txt K mg aREG aOPS) (M : Mod K mg base) (d1 : FunT K "is_integer" s_is_integer f fd) (m1 : mg "is_integer" = some (.ref f)) (d2 : FunT K "is_in_range" s_is_in_range g gd) (m2 : mg "is_in_range" = some (.ref g)) (d : FunT K "is_word" s_is_word h kd) (kv : KV G v t) (hD : D + 2 < recursionLimit) : RF P w base D h [v] G (.bl (isW v)) := by
  refine rf_of d M sc_is_word (by decide +kernel) (by decide +kernel) (fun _ _ _ _ _ _ us hl => match us, hl with | [_], _ => rfl) rfl (by omega) fun env c => ?_
  have F := rf_range (P := P) (w := w) (D := D + 1) (lo := 0) (hi := 65535) T M d1 m1 d2 kv (by omega)
  have hx : ∀ {p : Pos}, RE P w base (D + 1) env ([(("x" : Str), v)]) G (.Name "x" p) v := fun {p} => re_name c rfl (List.mem_cons_self ..)
  obtain ⟨u, e1, e2⟩ := T.g_WORDS
  exact re_call M c rfl m2 d2.kp F (ra_cons hx (ra_cons re_int (ra_cons (re_sub (re_glob M c rfl e1 e2) re_int) ra_nil)))
end
theorem kh_ty {H : Hp} {v : V} {t : String} (h : KH K H v t) : TyX K H v (.type t) := by
  cases h with
  | non => exact ty_non
  | bl => exact ty_bl
  | int => exact ty_int
  | str => exact ty_str
  | lst e => exact ty_L e
  | tup e => exact ty_T e
def sp_integer (K : PySem.W.Frag) : Sp := fun vs H Q _ => ∃ (v : V) (t : String), vs = [v] ∧ KH K H v t ∧ Q (.bl (isI v)) H
theorem c_integer (T : Txt K mg aREG aOPS) (d : DefAt K mg "is_integer" s_is_integer) : C8.Cal P w K mg base 1 "is_integer" (sp_integer K) [] := by
  refine mk d sc_is_integer (fun _ _ _ _ _ _ us hl => match us, hl with | [_], _ => rfl) (fun vs H Q E h => ?_) (fun f cdv A outer s H vs Q E hr h => ?_)
  · obtain ⟨v, t, rfl, _⟩ := h
    rfl
  · obtain ⟨v, t, rfl, kh, q⟩ := h
    refine ⟨_, (pss_one (ps_ret (pe_and (pe_callB call_isi (by rfl) T.b_isinstance (by decide +kernel) (pa_cons (pv 0) (pa_cons (pe_bltn (v := .ty "int") (by rfl) T.b_int (by decide +kernel) rfl) pa_nil))) (pe_one (pe_not (pe_callB call_isi (by rfl) T.b_isinstance (by decide +kernel) (pa_cons (pv 0) (pa_cons (pe_bltn (v := .ty "bool") (by rfl) T.b_bool (by decide +kernel) rfl) pa_nil)))))))), ?_⟩
    have ty := kh_ty kh
    cases kh <;> (walk_at "s"; exact q)
theorem u_integer {H : Hp} {v : V} {t : String} {Q : VK} {E : XK} (kh : KH K H v t) (q : Q (.bl (isI v)) H) : sp_integer K [v] H Q E := ⟨v, t, rfl, kh, q⟩
def sp_range (K : PySem.W.Frag) : Sp := fun vs H Q _ => ∃ (v : V) (t : String) (lo hi : Int), vs = [v, .int lo, .int hi] ∧ KH K H v t ∧ Q (.bl (isR v lo hi)) H
theorem u_range {H : Hp} {v : V} {t : String} {lo hi : Int} {Q : VK} {E : XK} (kh : KH K H v t) (q : Q (.bl (isR v lo hi)) H) : sp_range K [v, .int lo, .int hi] H Q E := ⟨v, t, lo, hi, rfl, kh, q⟩
theorem c_range (T : Txt K mg aREG aOPS) (d : DefAt K mg "is_in_range" s_is_in_range) (c_is_integer : C8.Cal P w K mg base 1 "is_integer" (sp_integer K) []) : C8.Cal P w K mg base 2 "is_in_range" (sp_range K) [] := by
  refine mk d sc_is_in_range (fun _ _ _ _ _ _ us hl => match us, hl with | [_, _, _], _ => rfl) (fun vs H Q E h => ?_) (fun f cdv A outer s H vs Q E hr h => ?_)
  · obtain ⟨v, t, lo, hi, rfl, _⟩ := h
    rfl
  · obtain ⟨v, t, lo, hi, rfl, kh, q⟩ := h
    refine ⟨_, (pss_one (ps_ret (pe_and (C8.pe_c c_is_integer hr (by first | decide | omega) rfl (pa_cons (pv 0) pa_nil)) (pe_one (pe_chain op_le op_le (pv 1) (pv 0) (pv 2)))))), ?_⟩
    walk_at "s"
    refine u_integer kh ?_
    cases kh with
    | int =>
      walk_at "s"
      show tChain (rI0 fun i j => V.bl (decide (i ≤ j))) (rI0 fun i j => V.bl (decide (i ≤ j))) (tVar 1) (tVar 0) (tVar 2) _ H _
      rename_i i
      refine ⟨_, rfl, _, rfl, _, _, rfl, rfl, _, rfl, ?_⟩
      by_cases h1 : lo ≤ i
      · rw [decide_eq_true h1]
        refine ⟨_, rfl, _, _, rfl, rfl, ?_⟩
        have e : decide (i ≤ hi) = isR (.int i) lo hi := by simp [isR, h1]
        show Q (.bl (decide (i ≤ hi))) H
        rw [e]
        exact q
      · rw [decide_eq_false h1]
        have e : false = isR (.int i) lo hi := by simp [isR, h1]
        show Q (.bl false) H
        rw [e]
        exact q
    | _ =>
      walk_at "s"
      exact q
def sp_word1 (K : PySem.W.Frag) : Sp := fun vs H Q _ => ∃ (v : V) (t : String), vs = [v] ∧ KH K H v t ∧ Q (.bl (isW v)) H
theorem u_isword {H : Hp} {v : V} {t : String} {Q : VK} {E : XK} (kh : KH K H v t) (q : Q (.bl (isW v)) H) : sp_word1 K [v] H Q E := ⟨v, t, rfl, kh, q⟩
theorem c_isword (T : Txt K mg aREG aOPS) (d : DefAt K mg "is_word" s_is_word) (c_is_in_range : C8.Cal P w K mg base 2 "is_in_range" (sp_range K) []) : C8.Cal P w K mg base 3 "is_word" (sp_word1 K) [] := by
  refine mk d sc_is_word (fun _ _ _ _ _ _ us hl => match us, hl with | [_], _ => rfl) (fun vs H Q E h => ?_) (fun f cdv A outer s H vs Q E hr h => ?_)
  · obtain ⟨v, t, rfl, _⟩ := h
    rfl
  · obtain ⟨v, t, rfl, kh, q⟩ := h
    refine ⟨_, (pss_one (ps_ret (C8.pe_c c_is_in_range hr (by first | decide | omega) rfl (pa_cons (pv 0) (pa_cons pe_int (pa_cons (pe_op op_sub (C8.pe_gc rfl T.g_WORDS) pe_int) pa_nil)))))), ?_⟩
    walk_at "s"
    exact u_range kh q
/-- ask_range, ask_word of right arguments -/
def sp_ask (K : PySem.W.Frag) : Sp := fun vs H Q _ => ∃ (z : Str) (v : V) (t : String) (lo hi : Int), vs = [.str z, v, .int lo, .int hi] ∧ KH K H v t ∧ isR v lo hi = true ∧ Q .non H
theorem u_ask {H : Hp} {z : Str} {i lo hi : Int} {Q : VK} {E : XK} (h : lo ≤ i ∧ i ≤ hi) (q : Q .non H) : sp_ask K [.str z, .int i, .int lo, .int hi] H Q E := ⟨z, .int i, "int", lo, hi, rfl, .int, decide_eq_true h, q⟩
def sp_askW (K : PySem.W.Frag) : Sp := fun vs H Q _ => ∃ (z : Str) (v : V) (t : String), vs = [.str z, v] ∧ KH K H v t ∧ isW v = true ∧ Q .non H
theorem u_askW {H : Hp} {z : Str} {i : Int} {Q : VK} {E : XK} (h : 0 ≤ i ∧ i ≤ 65535) (q : Q .non H) : sp_askW K [.str z, .int i] H Q E := ⟨z, .int i, "int", rfl, .int, decide_eq_true h, q⟩
theorem c_askW (T : Txt K mg aREG aOPS) (d : DefAt K mg "ask_word" s_ask_word) (c_is_word : C8.Cal P w K mg base 3 "is_word" (sp_word1 K) []) : C8.Cal P w K mg base 4 "ask_word" (sp_askW K) [] := by
  refine mk d sc_ask_word (fun _ _ _ _ _ _ us hl => match us, hl with | [_, _], _ => rfl) (fun vs H Q E h => ?_) (fun f cdv A outer s H vs Q E hr h => ?_)
  · obtain ⟨z, v, t, rfl, _⟩ := h
    rfl
  · obtain ⟨z, v, t, rfl, kh, hb, q⟩ := h
    refine ⟨_, (pss_one (ps_if (pt_not (pt_val (C8.pe_c c_is_word hr (by first | decide | omega) rfl (pa_cons (pv 1) pa_nil))))
    (pss_one ps_never)
    pss_nil)), ?_⟩
    walk_at "s"
    refine u_isword kh ?_
    rw [hb]
    walk_at "s"
    exact q
end
end K08
set_option Elab.async false
set_option linter.all false
set_option maxRecDepth 100000
set_option maxHeartbeats 4000000
namespace K08
open PySem PySem.Spec PyProof.Rows L2 Wk
local macro_rules | `(tactic| walk_at "u1") => `(tactic| fail "no more")
local macro_rules | `(tactic| walk_at "pos") => `(tactic| first | assumption | omega | decide | (simp only [Int.ofNat_eq_natCast] at *; omega))
local macro_rules | `(tactic| walk_at "sz") => `(tactic| first
  | (simp only [List.length_cons, List.length_nil]; decide)
  | exact Evl.sz_of (by omega)
  | exact Evl.sz_lt (by omega)
  | exact Evl.sz_of (by simp only [List.length_map, List.length_append, List.length_cons, List.length_nil, List.length_replicate]; omega)
  | exact Evl.sz_lt (by simp only [List.length_map, List.length_append, List.length_cons, List.length_nil, List.length_replicate]; omega))
local macro_rules | `(tactic| walk_at "cond") => `(tactic| first
  | exact Or.inr ⟨by decide, by decide⟩
  | (show (0 : Int) < _; first | decide | assumption | omega)
  | exact Or.inl ⟨by omega, by omega⟩
  | exact Or.inr ⟨by omega, by omega⟩
  | exact ⟨by decide, by decide, by decide⟩
  | exact log2_lt (by omega) (by omega)
  | exact ⟨by omega, by omega⟩)
local macro_rules | `(tactic| walk_at "ty") => `(tactic| first
  | exact ty_int | exact ty_bl | exact ty_str | exact ty_non
  | exact ty_L (by assumption) | exact ty_T (by assumption)
  | exact ty_L (SqL.of (by assumption)) | exact ty_T (SqT.of (by assumption)))
local macro_rules | `(tactic| walk_at "kit") => `(tactic| first
  | exact k_ii | exact k_ib | exact k_is | exact k_il | exact k_it
  | exact k_bb | exact k_bi | exact k_bs | exact k_bl | exact k_bt
  | exact k_ss | exact k_sb | exact k_si | exact k_sl | exact k_st
  | exact k_ll | exact k_lb | exact k_li | exact k_ls | exact k_lt
  | exact k_tt | exact k_tb | exact k_ti | exact k_ts | exact k_tl
  | exact k_nn | exact k_ni | exact k_ns | exact k_nl | exact k_nt)
local macro_rules | `(tactic| walk_at "s1") => `(tactic| first
  | with_reducible refine w_seq ?_
  | with_reducible refine w_set ?_
  | with_reducible refine w_op ?_
  | ((with_reducible refine' w_var ?h1 ?_); (case h1 => rfl))
  | with_reducible refine w_c ?_
  | with_reducible refine w_cb ?_
  | with_reducible refine w_cons ?_
  | with_reducible refine w_nil ?_
  | with_reducible refine w_I0 ?_
  | ((with_reducible refine' w_I ?c1 ?_); case c1 => walk_at "cond")
  | with_reducible refine w_ret ?_
  | with_reducible refine w_next ?_
  | with_reducible refine w_ifS ?_
  | with_reducible refine w_test ?_
  | with_reducible refine w_tB ?_
  | with_reducible refine w_k ?_
  | with_reducible refine w_eqI ?_
  | with_reducible refine w_neI ?_
  | with_reducible refine w_eqS ?_
  | with_reducible refine w_neS ?_
  | with_reducible refine w_and ?_
  | with_reducible refine w_or ?_
  | with_reducible refine w_not ?_
  | with_reducible refine w_andV ?_
  | with_reducible refine w_orV ?_
  | with_reducible refine w_notV ?_
  | with_reducible refine w_ifE ?_
  | with_reducible refine w_true ?_
  | with_reducible refine w_false ?_
  | with_reducible refine w_ntrue ?_
  | with_reducible refine w_nfalse ?_
  | with_reducible refine w_call ?_
  | with_reducible refine c_int ?_
  | with_reducible refine c_abs ?_
  | with_reducible refine c_max ?_
  | with_reducible refine c_min ?_
  | with_reducible refine w_drop ?_
  | with_reducible refine w_sfld ?_
  | with_reducible refine w_meth ?_
  | with_reducible refine w_make ?_
  | with_reducible refine w_prop ?_
  | with_reducible refine w_callK ?_
  | with_reducible refine w_callN ?_
  | with_reducible refine w_star ?_
  | with_reducible refine w_gcons ?_
  | with_reducible refine w_gname ?_
  | with_reducible refine w_gnil ?_
  | with_reducible refine w_retN ?_
  | with_reducible refine w_tup ?_
  | with_reducible refine w_lst ?_
  | with_reducible refine w_fld ?_
  | with_reducible refine w_bm ?_
  | with_reducible refine w_bm0 ?_
  | with_reducible refine w_forL ?_
  | with_reducible refine w_forT ?_
  | with_reducible refine w_forS ?_
  | with_reducible refine w_forR ?_
  | with_reducible refine w_lcR ?_
  | with_reducible refine w_lcL ?_
  | with_reducible refine w_lcT ?_
  | with_reducible refine w_isN ?_
  | with_reducible refine w_notN ?_
  | with_reducible refine w_asg ?_
  | with_reducible refine w_gsub ?_
  | ((with_reducible refine' w_aug ?h1 ?_); (case h1 => rfl))
  | with_reducible refine w_augS ?_
  | with_reducible refine w_ipI ?_
  | with_reducible refine w_un ?_
  | with_reducible refine w_U ?_
  | ((with_reducible refine' w_iteF ?f1 ?_); case f1 => (first | (intro h; cases h; done) | decide))
  | ((with_reducible refine' w_iteT ?f1 ?_); case f1 => rfl)
  | ((with_reducible refine' w_iteNF ?f1 ?_); case f1 => rfl)
  | ((with_reducible refine' w_iteNT ?f1 ?_); case f1 => (first | (intro h; cases h; done) | decide))
  | ((with_reducible refine' c_isi ?t1 ?k1 ?_); (case t1 => walk_at "ty"); (case k1 => walk_at "kit"))
  | ((with_reducible refine' w_eq ?e1 ?_); case e1 => rfl)
  | ((with_reducible refine' w_ne ?e1 ?_); case e1 => rfl)
  | walk_at "u1")
local macro_rules | `(tactic| walk_at "s") => `(tactic| repeat walk_at "s1")
local macro_rules | `(tactic| walk_at "mem") => `(tactic| first | with_reducible exact List.mem_cons_self .. | ((with_reducible refine' List.mem_cons_of_mem _ ?q); (case q => walk_at "mem")) | assumption | ((with_reducible refine' List.mem_append_right _ ?q); (case q => walk_at "mem")) | (exact List.mem_append_left _ (by assumption)))
local macro_rules | `(tactic| walk_at "pk") => `(tactic| first | with_reducible exact Pk.here | ((with_reducible refine' Pk.there ?q); (case q => walk_at "pk")) | ((with_reducible refine' Pk.app ?q); (case q => walk_at "pk")))
local macro_rules | `(tactic| walk_at "pkb") => `(tactic| first | with_reducible exact PkB.here | ((with_reducible refine' PkB.there ?q); (case q => walk_at "pkb")) | ((with_reducible refine' PkB.app ?q); (case q => walk_at "pkb")))
local macro_rules | `(tactic| walk_at "spl") => `(tactic| first | with_reducible exact Spl.nil | ((with_reducible refine' Spl.cons ?h ?t); (case h => walk_at "pk"); (case t => walk_at "spl")) | ((with_reducible refine' Spl.blk ?h ?t); (case h => walk_at "pkb"); (case t => walk_at "spl")))
local macro_rules | `(tactic| walk_at "sbx") => `(tactic| first | with_reducible exact Sb.refl | with_reducible exact Sb.nil | with_reducible exact Sb.left | ((with_reducible refine' Sb.cons ?h ?t); (case h => walk_at "pk"); (case t => walk_at "sbx")) | ((with_reducible refine' Sb.blk ?h ?t); (case h => walk_at "pkb"); (case t => walk_at "sbx")) | ((with_reducible refine' Sb.drop ?q); (case q => walk_at "sbx")) | ((with_reducible refine' Sb.right ?q); (case q => walk_at "sbx")))
local macro_rules | `(tactic| walk_at "hd") => `(tactic| first | assumption | exact Hd.sb (by assumption) (by walk_at "sbx"))
local macro_rules | `(tactic| walk_at "sq") => `(tactic| first
  | assumption
  | exact Hd.sqL (by assumption) (by walk_at "mem")
  | exact Hd.sqT (by assumption) (by walk_at "mem")
  | exact Hd.sqF (by assumption) (by walk_at "mem")
  | (refine .inl ?_; walk_at "sq")
  | (refine .inr ?_; walk_at "sq"))
local macro_rules | `(tactic| walk_at "at") => `(tactic| first | rfl | assumption | exact atI_nat (by assumption))
local macro_rules | `(tactic| walk_at "dn1") => `(tactic| first
  | exact Dn.int | exact Dn.str | exact Dn.non | exact Dn.bl | assumption
  | ((refine' Dn.tp ?a1 ?m1 ?l1 ?p1); (case a1 => assumption); (case m1 => walk_at "mem"); (case l1 => (simp only [List.length_cons, List.length_nil]; omega)); (case p1 => walk_at "dns"))
  | ((refine' Dn.lt ?a1 ?m1 ?l1 ?p1); (case a1 => assumption); (case m1 => walk_at "mem"); (case l1 => (simp only [List.length_cons, List.length_nil]; omega)); (case p1 => walk_at "dns")))
local macro_rules | `(tactic| walk_at "dns") => `(tactic| first | exact Paired.nil | exact Dn.ints | ((refine' Paired.cons ?a1 ?b1); (case a1 => walk_at "dn1"); (case b1 => walk_at "dns")))
local macro_rules | `(tactic| walk_at "g1") => `(tactic| first
  | ((with_reducible refine' g_ixI ?h1 ?h2 ?h3 ?_); (case h1 => assumption); (case h2 => walk_at "mem"); (case h3 => omega); intro z hz)
  | ((with_reducible refine' g_ixIT ?h1 ?h2 ?h3 ?_); (case h1 => assumption); (case h2 => walk_at "mem"); (case h3 => omega); intro z hz)
  | ((with_reducible refine' g_setI ?h1 ?h2 ?h3 ?_); (case h1 => assumption); (case h2 => walk_at "pk"); (case h3 => omega); intro H2 hh2)
  | ((with_reducible refine' w_ixL ?h1 ?h2 ?_); (case h1 => walk_at "sq"); (case h2 => walk_at "at"))
  | ((with_reducible refine' w_ixT ?h1 ?h2 ?_); (case h1 => walk_at "sq"); (case h2 => walk_at "at"))
  | ((with_reducible refine' w_ixAny ?h1 ?h2 ?_); (case h1 => walk_at "sq"); (case h2 => walk_at "at"))
  | ((with_reducible refine' c_lenA ?h1 ?_); (case h1 => walk_at "sq"))
  | ((with_reducible refine' c_isi ?t1 ?k1 ?_); (case t1 => first | exact ty_T (by walk_at "sq") | exact ty_L (by walk_at "sq")); (case k1 => walk_at "kit"))
  | ((with_reducible refine' g_lst ?h1 ?h2 ?_); (case h1 => assumption); (case h2 => walk_at "sz"); intro p H2 hh2)
  | ((with_reducible refine' g_tup ?h1 ?h2 ?_); (case h1 => assumption); (case h2 => walk_at "sz"); intro p H2 hh2)
  | ((with_reducible refine' g_dict ?h1 ?_); (case h1 => assumption); intro p H2 hh2)
  | ((with_reducible refine' g_listL ?h1 ?h2 ?_); (case h1 => assumption); (case h2 => walk_at "sq"); intro p H2 hh2)
  | ((with_reducible refine' g_listT ?h1 ?h2 ?_); (case h1 => assumption); (case h2 => walk_at "sq"); intro p H2 hh2)
  | ((with_reducible refine' g_tupL ?h1 ?h2 ?_); (case h1 => assumption); (case h2 => walk_at "sq"); intro p H2 hh2)
  | ((with_reducible refine' g_set ?h1 ?h2 ?h3 ?_); (case h1 => assumption); (case h2 => walk_at "pk"); (case h3 => first | rfl | assumption | exact Evl.ixN_nat (by first | omega | (simp only [List.length_cons, List.length_nil]; omega))); intro H2 hh2)
  | ((with_reducible refine' g_kbm ?h1 ?h2 ?_); (case h1 => assumption); (case h2 => walk_at "mem"))
  | ((with_reducible refine' g_kbm0 ?h1 ?h2 ?_); (case h1 => assumption); (case h2 => walk_at "mem"))
  | ((with_reducible refine' g_app ?h1 ?h2 ?h3 ?_); (case h1 => assumption); (case h2 => walk_at "pk"); (case h3 => walk_at "sz"); intro H2 hh2)
  | ((with_reducible refine' g_kapp ?h1 ?h2 ?h3 ?_); (case h1 => assumption); (case h2 => walk_at "pk"); (case h3 => walk_at "sz"); intro H2 hh2)
  | ((with_reducible refine' g_fld ?h1 ?h2 ?h3 ?h4 ?h5 ?_); (case h1 => assumption); (case h2 => walk_at "mem"); (case h3 => assumption); (case h4 => assumption); (case h5 => rfl))
  | ((with_reducible refine' g_sfld ?h1 ?h2 ?h3 ?h4 ?h5 ?_); (case h1 => assumption); (case h2 => walk_at "pk"); (case h3 => assumption); (case h4 => assumption); (case h5 => decide); intro H2 hh2)
  | ((with_reducible refine' g_meth ?h1 ?h2 ?h3 ?_); (case h1 => assumption); (case h2 => walk_at "mem"); (case h3 => rfl))
  | ((with_reducible refine' g_prop ?h1 ?h2 ?_); (case h1 => assumption); (case h2 => walk_at "mem"))
  | ((with_reducible refine' g_make ?h1 ?_); (case h1 => assumption); intro x H2 hh2)
  | ((with_reducible refine' g_cat ?h1 ?h2 ?h3 ?h4 ?_); (case h1 => assumption); (case h2 => walk_at "mem"); (case h3 => walk_at "mem"); (case h4 => walk_at "sz"); intro p H2 hh2)
  | ((with_reducible refine' g_inT ?h1 ?h2 ?h3 ?h4 ?h5 ?_); (case h1 => assumption); (case h2 => walk_at "mem"); (case h3 => rfl); (case h4 => rfl); (case h5 => rfl)))
local macro_rules | `(tactic| walk_at "gs") => `(tactic| repeat first | walk_at "s1" | walk_at "g1")
local macro_rules | `(tactic| walk_at "ite") => `(tactic| first
  | ((with_reducible refine' w_iteT ?h1 ?_); (case h1 => omega))
  | ((with_reducible refine' w_iteF ?h1 ?_); (case h1 => omega))
  | (with_reducible refine w_ite ?_ ?_ <;> intro hq)
  | ((with_reducible refine' w_iteNT ?h1 ?_); (case h1 => omega))
  | ((with_reducible refine' w_iteNF ?h1 ?_); (case h1 => omega))
  | (with_reducible refine w_iteN ?_ ?_ <;> intro hq))
local macro_rules | `(tactic| walk_at "go") => `(tactic| repeat' first | walk_at "s1" | walk_at "g1" | walk_at "ite")
section
variable {P : Program} {w : World} {K : PySem.W.Frag} {mg : Str → Option Value} {base : Heap} {aREG aOPS : Addr}
theorem w_inS {x z : Str} {H : Hp} {Q : VK} (c : Nat) (e : x = ⟨#[c]⟩) (q : Q (.bl (decide (c ∈ z.cps.toList))) H) : rInS (.str x) (.str z) H Q := ⟨c, z, by rw [e], rfl, q⟩
theorem w_notInS {x z : Str} {H : Hp} {Q : VK} (c : Nat) (e : x = ⟨#[c]⟩) (q : Q (.bl (!decide (c ∈ z.cps.toList))) H) : rNotInS (.str x) (.str z) H Q := ⟨c, z, by rw [e], rfl, q⟩
def greatest (so : Str) : Int := if 78 ∈ so.cps.toList then 1023 else if 83 ∈ so.cps.toList then 3 else 0
def sp_greatest : Sp := fun vs H Q _ => ∃ (z : Str), vs = [.str z] ∧ Q (.int (greatest z)) H
theorem u_greatest {z : Str} {H : Hp} {Q : VK} {E : XK} (q : Q (.int (greatest z)) H) : sp_greatest [.str z] H Q E := ⟨z, rfl, q⟩
theorem c_greatest (T : Txt K mg aREG aOPS) (d : DefAt K mg "_greatest_last" s__greatest_last) : C8.Cal P w K mg base 1 "_greatest_last" sp_greatest [] := by
  refine mk d sc__greatest_last (fun _ _ _ _ _ _ us hl => match us, hl with | [_], _ => rfl) (fun vs H Q E h => ?_) (fun f cdv A outer s H vs Q E hr h => ?_)
  · obtain ⟨z, rfl, _⟩ := h
    rfl
  · obtain ⟨z, rfl, q⟩ := h
    refine ⟨_, (pss_cons (ps_if (pt_cmpR op_inS pe_str (pv 0) (by rfl))
    (pss_one (ps_ret pe_int))
    pss_nil)
  (pss_one (ps_ret (pe_ifExp (pt_cmpR op_inS pe_str (pv 0) (by rfl)) pe_int pe_int)))), ?_⟩
    unfold greatest at q
    walk_at "s"
    refine w_inS 78 rfl ?_
    walk_at "s"
    refine w_ite (fun h1 => ?_) (fun h1 => ?_)
    · rw [if_pos h1] at q
      walk_at "s"
      exact q
    · rw [if_neg h1] at q
      walk_at "s"
      refine w_inS 83 rfl ?_
      walk_at "s"
      refine w_ite (fun h2 => ?_) (fun h2 => ?_)
      · rw [if_pos h2] at q
        walk_at "s"
        exact q
      · rw [if_neg h2] at q
        walk_at "s"
        exact q
def regV (i : Nat) : V := .str (regL.getD i "")
/-- the program's two tables, as they stand in the written part -/
structure Tabs (K : PySem.W.Frag) (aREG aOPS : Addr) : Prop where
  reg : ∀ H, SqT K H aREG (regL.map V.str)
  regK : ∃ o, K.lookup aREG = some o ∧ o.cls = .type "tuple" ∧ o.dict = none
  ops : ∃ as : List Addr, as.length = 16 ∧ (∀ H, SqT K H aOPS (as.map V.ref)) ∧ ∀ (i : Nat) (a : Addr) (r : Str × Str), as[i]? = some a → opsL[i]? = some r → ∀ H, SqT K H a [.str r.1, .str r.2]
def insPart (first last : Nat) (c : Nat) : V := if c = 82 then regV first else if c = 83 then regV last else .int last
def opRow (w : Nat) : Str × Str := opsL.getD (w / 4096) ("", "")
def insBad (w : Nat) : Prop := (82 ∉ (opRow w).2.cps.toList ∧ w / 1024 % 4 > 0) ∨ (w % 1024 : Nat) > greatest (opRow w).2
def insV (w : Nat) : List V := .str (opRow w).1 :: (opRow w).2.cps.toList.map (insPart (w / 1024 % 4) (w % 1024))
theorem opsL_ok : ∀ r ∈ opsL, r.2.cps.toList.length ≤ 2 ∧ (83 ∈ r.2.cps.toList → 78 ∉ r.2.cps.toList) := by decide +kernel
theorem one_eq {c d : Nat} {z : Str} (e : z = ⟨#[d]⟩) : ((⟨#[c]⟩ : Str) = z) ↔ c = d := by
  subst e
  constructor
  · intro h
    have h2 : (#[c] : Array Nat) = #[d] := congrArg Str.cps h
    simpa using h2
  · rintro rfl
    rfl
def sp_instr : Sp := fun vs H Q _ => ∃ w : Nat, vs = [.int w] ∧ w ≤ 65535 ∧ (insBad w → Q .non H) ∧ (¬ insBad w → ∀ p H', H p = none → H' p = some (.tup (insV w)) → Upt [] H H' → Q (.ref p) H')
theorem b_instr (T : Txt K mg aREG aOPS) (B : Tabs K aREG aOPS) (c_ask_word : C8.Cal P w K mg base 4 "ask_word" (sp_askW K) []) (c__greatest_last : C8.Cal P w K mg base 1 "_greatest_last" sp_greatest []) (f : Addr) (cdv : Value) (A : Around) (outer : List Env) (s : Shared) (H : Hp) (vs : List V) (Q : VK) (E : XK) (hr : Room 4 (A.deeper (envOfC "instruction_of" (defScope s_instruction_of) s.heap.objs.size f cdv))) (h : sp_instr vs H Q E) :
    ∃ t, PSs (cxOf C8.CX0 P w K mg base nm_instruction_of "instruction_of" (defScope s_instruction_of) f cdv A outer s H E).nox (defBody s_instruction_of) t ∧ t { nx := fun _ H' => Q .non H', rt := Q } (L2.start nm_instruction_of vs) H := by
  · obtain ⟨w, rfl, hw, k1, k2⟩ := h
    refine ⟨_, (pss_cons (ps_expr (C8.pe_c c_ask_word hr (by first | decide | omega) rfl (pa_cons pe_str (pa_cons (pv 0) pa_nil))))
  (pss_cons (ps_asg (pe_ix ix_seq (C8.pe_gc rfl T.g_OPERATIONS) (pe_op op_fdiv (pv 0) pe_int) (fun _ _ => rfl)) (pg_tup rfl (pgs_cons (pg_name (i := 1) sc_instruction_of.nd rfl (Or.inl rfl)) (pgs_cons (pg_name (i := 2) sc_instruction_of.nd rfl (Or.inl rfl)) pgs_nil))))
  (pss_cons (ps_set (i := 3) sc_instruction_of.nd rfl (Or.inl rfl) (pe_op op_mod (pe_op op_fdiv (pv 0) pe_int) pe_int))
  (pss_cons (ps_set (i := 4) sc_instruction_of.nd rfl (Or.inl rfl) (pe_op op_mod (pv 0) pe_int))
  (C8.pss_cut (ps_if (PW.pt (pw_or (PW.pt (pw_and (pt_cmpR op_notInS pe_str (pv 2) (by rfl)) (pw_and1 (pt_cmpR op_gt (pv 3) pe_int (nomark _))))) (pw_or1 (pt_cmpR op_gt (pv 4) (C8.pe_c c__greatest_last hr (by first | decide | omega) rfl (pa_cons (pv 2) pa_nil)) (nomark _)))))
    (pss_one (ps_ret pe_non))
    pss_nil)
  (pss_cons (ps_set (i := 5) sc_instruction_of.nd rfl (Or.inl rfl) (pe_lst pa_nil))
  (pss_cons (ps_for PassesOwn.never rfl (pi_str (pv 2)) (pg_name (i := 6) sc_instruction_of.nd rfl (Or.inl rfl))
    (pss_one (ps_if (pt_cmpR op_eq (pv 6) pe_str (nomark _))
        (pss_one (ps_expr (pe_bm PySem.F.plainAttrs_list PySem.F.slot_list_append PySem.F.type_list_append mt_append (pv 5) (pa_cons (pe_ix ix_seq (C8.pe_gc rfl T.g_REGISTERS) (pv 3) (fun _ _ => rfl)) pa_nil))))
        (pss_one (ps_if (pt_cmpR op_eq (pv 6) pe_str (nomark _))
            (pss_one (ps_expr (pe_bm PySem.F.plainAttrs_list PySem.F.slot_list_append PySem.F.type_list_append mt_append (pv 5) (pa_cons (pe_ix ix_seq (C8.pe_gc rfl T.g_REGISTERS) (pv 4) (fun _ _ => rfl)) pa_nil))))
            (pss_one (ps_expr (pe_bm PySem.F.plainAttrs_list PySem.F.slot_list_append PySem.F.type_list_append mt_append (pv 5) (pa_cons (pv 4) pa_nil)))))))))
  (pss_one (ps_ret (pe_tup (pa_cons (pv 1) (StX.pa_star (pv 5) pa_nil)))))))))))), ?_⟩
    walk_at "s"
    refine u_askW (by omega) ?_
    walk_at "s"
    obtain ⟨as, hl, hA, hR⟩ := B.ops
    have hi : w / 4096 < 16 := by omega
    have ha := List.getElem?_eq_getElem (show w / 4096 < as.length by omega)
    have hr2 : opsL[w / 4096]? = some (opRow w) := by unfold opRow; rw [List.getD_eq_getElem?_getD, List.getElem?_eq_getElem (show w / 4096 < opsL.length from hi)]; rfl
    refine w_ixAny (xs := as.map V.ref) (v := .ref as[w / 4096]) (.inr (hA _)) (by
      have e : ((w : Int) / 4096) = ((w / 4096 : Nat) : Int) := by omega
      rw [e]
      exact atI_nat (by rw [List.getElem?_map, ha]; rfl)) ?_
    refine w_gtup (hR _ _ _ ha hr2 H) rfl ?_
    refine w_gcons (w_gname (w_gcons (w_gname (w_gnil ?_))))
    walk_at "s"
    generalize hrow : opRow w = row at *
    obtain ⟨nm, so⟩ := row
    obtain ⟨hlen, hSN⟩ := opsL_ok _ (List.mem_of_getElem? hr2)
    simp only at hlen hSN
    have ef : ((w : Int) / 1024 % 4) = ((w / 1024 % 4 : Nat) : Int) := by omega
    have el : ((w : Int) % 1024) = ((w % 1024 : Nat) : Int) := by omega
    have bad : insBad w ↔ ((82 ∉ so.cps.toList ∧ w / 1024 % 4 > 0) ∨ (w % 1024 : Nat) > greatest so) := by unfold insBad; rw [hrow]
    rw [ef, el]
    refine w_cut (fun σ H' => σ = [some (V.int w), some (.str nm), some (.str so), some (.int ((w / 1024 % 4 : Nat) : Int)), some (.int ((w % 1024 : Nat) : Int)), none, none] ∧ H' = H ∧ ¬ insBad w) ?_ ?_
    · walk_at "s"
      refine w_notInS 82 rfl ?_
      walk_at "s"
      have rest : (82 ∉ so.cps.toList ∧ w / 1024 % 4 > 0 → False) → sp_greatest [.str so] H (fun x H1 => rI0 (fun i j => V.bl (decide (j < i))) (V.int ((w % 1024 : Nat) : Int)) x H1 fun x H' => ∃ k, x = .bl k ∧ if k = true then Q .non H' else ([some (V.int w), some (.str nm), some (.str so), some (.int ((w / 1024 % 4 : Nat) : Int)), some (.int ((w % 1024 : Nat) : Int)), none, none] = [some (V.int w), some (.str nm), some (.str so), some (.int ((w / 1024 % 4 : Nat) : Int)), some (.int ((w % 1024 : Nat) : Int)), none, none] ∧ H' = H ∧ ¬ insBad w)) C8.E0 := fun hn => by
        refine u_greatest (w_I0 (w_k ?_))
        refine w_ite (fun q1 => ?_) (fun q1 => ?_)
        · exact k1 (bad.mpr (.inr q1))
        · exact ⟨rfl, rfl, fun hb => (bad.mp hb).elim hn q1⟩
      refine w_iteN (fun q1 => ?_) (fun q1 => ?_)
      · walk_at "s"
        refine w_ite (fun q2 => ?_) (fun q2 => ?_)
        · walk_at "s"
          exact k1 (bad.mpr (.inl ⟨q1, by omega⟩))
        · walk_at "s"
          exact rest fun h => q2 (by omega)
      · walk_at "s"
        exact rest fun h => h.1 q1
    · rintro σ H' ⟨rfl, rfl, nb⟩
      have k := k2 nb
      walk_at "s"
      refine w_new (by walk_at "sz") fun p H3 n3 => ?_
      walk_at "s"
      refine l_str (fun i σ H4 => ∃ v, σ = [some (V.int w), some (.str nm), some (.str so), some (.int ((w / 1024 % 4 : Nat) : Int)), some (.int ((w % 1024 : Nat) : Int)), some (.ref p), v] ∧ H4 p = some (.lst ((so.cps.toList.take i).map (insPart (w / 1024 % 4) (w % 1024)))) ∧ Upt [] H' H4) ⟨none, rfl, n3.at_, n3.keep⟩ ?_ ?_
      · rintro i c σ H4 hc ⟨v, rfl, hp, U⟩
        have hi2 := (List.getElem?_eq_some_iff.mp hc).1
        have step : (so.cps.toList.take (i + 1)).map (insPart (w / 1024 % 4) (w % 1024)) = (so.cps.toList.take i).map (insPart (w / 1024 % 4) (w % 1024)) ++ [insPart (w / 1024 % 4) (w % 1024) c] := by
          rw [List.take_add_one, hc]; simp
        have app : ∀ y, insPart (w / 1024 % 4) (w % 1024) c = y → ∀ Z : Hp → Prop, (∀ H5, (∃ v', [some (V.int w), some (.str nm), some (.str so), some (.int ((w / 1024 % 4 : Nat) : Int)), some (.int ((w % 1024 : Nat) : Int)), some (.ref p), some (.str ⟨#[c]⟩)] = [some (V.int w), some (.str nm), some (.str so), some (.int ((w / 1024 % 4 : Nat) : Int)), some (.int ((w % 1024 : Nat) : Int)), some (.ref p), v'] ∧ H5 p = some (.lst ((so.cps.toList.take (i + 1)).map (insPart (w / 1024 % 4) (w % 1024)))) ∧ Upt [] H' H5) → Z H5) → rAppend (.ref p) [y] H4 fun _ H5 => Z H5 := fun y hy Z hz => by
          refine w_append hp (by simp only [List.length_map, List.length_take]; exact Nat.lt_of_le_of_lt (Nat.le_trans (Nat.min_le_left _ _) (Nat.le_trans (Nat.le_of_lt hi2) hlen)) (by decide)) fun H5 g5 => ?_
          refine hz H5 ⟨_, rfl, ?_, fun b o nb ho => g5.keep.at1 (fun z => by subst z; exact absurd ho (by rw [n3.no]; simp)) (U b o nb ho)⟩
          rw [step, hy]
          exact g5.at_
        walk_at "s"
        refine w_ite (fun q1 => ?_) (fun q1 => ?_)
        · have hc2 := (one_eq (z := "R") (d := 82) rfl).mp q1
          walk_at "s"
          refine w_kbm (ty_list (SqL.of hp)) ?_
          walk_at "s"
          refine w_ixAny (.inr (B.reg _)) (v := regV (w / 1024 % 4)) (atI_nat (by
            have h4 : w / 1024 % 4 < 4 := Nat.mod_lt _ (by decide)
            generalize w / 1024 % 4 = z at h4 ⊢
            match z, h4 with | 0, _ => rfl | 1, _ => rfl | 2, _ => rfl | 3, _ => rfl)) ?_
          walk_at "s"
          exact app _ (by unfold insPart; rw [if_pos hc2]) _ fun H5 h => h
        · have hc2 := fun z => q1 ((one_eq (z := "R") (d := 82) rfl).mpr z)
          walk_at "s"
          refine w_ite (fun q2 => ?_) (fun q2 => ?_)
          · have hc3 := (one_eq (z := "S") (d := 83) rfl).mp q2
            have hm : 83 ∈ so.cps.toList := hc3 ▸ List.mem_of_getElem? hc
            have hl4 : w % 1024 < 4 := by
              have h5 : ¬ ((w % 1024 : Nat) : Int) > greatest so := fun h => nb (bad.mpr (.inr h))
              unfold greatest at h5
              rw [if_neg (hSN hm), if_pos hm] at h5
              omega
            walk_at "s"
            refine w_kbm (ty_list (SqL.of hp)) ?_
            walk_at "s"
            refine w_ixAny (.inr (B.reg _)) (v := regV (w % 1024)) (atI_nat (by
              generalize w % 1024 = z at hl4 ⊢
              match z, hl4 with | 0, _ => rfl | 1, _ => rfl | 2, _ => rfl | 3, _ => rfl)) ?_
            walk_at "s"
            exact app _ (by unfold insPart; rw [if_neg hc2, if_pos hc3]) _ fun H5 h => h
          · have hc3 := fun z => q2 ((one_eq (z := "S") (d := 83) rfl).mpr z)
            walk_at "s"
            refine w_kbm (ty_list (SqL.of hp)) ?_
            walk_at "s"
            exact app _ (by unfold insPart; rw [if_neg hc2, if_neg hc3]) _ fun H5 h => h
      · rintro σ H4 ⟨v, rfl, hp, U⟩
        rw [List.take_length] at hp
        walk_at "s"
        refine w_kstarL (SqL.of hp) ?_
        walk_at "s"
        refine w_new (by simp only [List.length_cons, List.length_append, List.length_map, List.length_nil]; exact Nat.le_trans (Nat.succ_le_succ (by omega)) (show 3 ≤ sizeLine by decide)) fun p2 H5 n5 => ?_
        refine k p2 H5 (U.free (by simp) n5.no) ?_ (U.trans n5.keep)
        rw [n5.at_]
        unfold insV
        rw [hrow, List.append_nil]
theorem c_instr (T : Txt K mg aREG aOPS) (B : Tabs K aREG aOPS) (d : DefAt K mg "instruction_of" s_instruction_of) (c_ask_word : C8.Cal P w K mg base 4 "ask_word" (sp_askW K) []) (c__greatest_last : C8.Cal P w K mg base 1 "_greatest_last" sp_greatest []) : C8.Cal P w K mg base 5 "instruction_of" sp_instr [] :=
  mk d sc_instruction_of (fun _ _ _ _ _ _ us hl => match us, hl with | [_], _ => rfl) (fun vs H Q E h => by obtain ⟨w, rfl, _⟩ := h; rfl) (b_instr T B c_ask_word c__greatest_last)
theorem ck_instr (T : Txt K mg aREG aOPS) (B : Tabs K aREG aOPS) (d : DefAt K mg "instruction_of" s_instruction_of) (c_ask_word : C8.Cal P w K mg base 4 "ask_word" (sp_askW K) []) (c__greatest_last : C8.Cal P w K mg base 1 "_greatest_last" sp_greatest []) : CalK P w K mg base 5 "instruction_of" sp_instr 0 ["word"] (fun _ zs => zs) := by
  obtain ⟨f, fd, F, hm⟩ := d
  exact mkK F hm sc_instruction_of (fun {α} l => l) (fun r => r) (fun _ _ _ _ _ _ us hl => match us, hl with | [_], _ => rfl) (fun vs H Q E h => by obtain ⟨w, rfl, _⟩ := h; rfl) (b_instr T B c_ask_word c__greatest_last)
theorem u_instr {w : Nat} {H : Hp} {Q : VK} {E : XK} (h : w ≤ 65535) (q1 : insBad w → Q .non H) (q2 : ¬ insBad w → ∀ p H', H p = none → H' p = some (.tup (insV w)) → Upt [] H H' → Q (.ref p) H') : sp_instr [.int w] H Q E := ⟨w, rfl, h, q1, q2⟩
/-- an instruction by its operation's number -/
def insO (o f l : Nat) : List V := match o with
  | 0 => [.str "halt"]
  | 1 => [.str "set", regV f, .int l]
  | 2 => [.str "copy", regV f, regV l]
  | 3 => [.str "load", regV f, regV l]
  | 4 => [.str "store", regV f, regV l]
  | 5 => [.str "add", regV f, regV l]
  | 6 => [.str "sub", regV f, regV l]
  | 7 => [.str "mul", regV f, regV l]
  | 8 => [.str "div", regV f, regV l]
  | 9 => [.str "less", regV f, regV l]
  | 10 => [.str "same", regV f, regV l]
  | 11 => [.str "jump", .int l]
  | 12 => [.str "zero", regV f, .int l]
  | 13 => [.str "trap", .int l]
  | 14 => [.str "link", regV f, .int l]
  | 15 => [.str "back", regV f]
  | _ => []
theorem insV_o {w : Nat} (h : w ≤ 65535) : insV w = insO (w / 4096) (w / 1024 % 4) (w % 1024) := by
  unfold insV opRow
  generalize w / 1024 % 4 = f
  generalize w % 1024 = l
  have hi : w / 4096 < 16 := by omega
  generalize w / 4096 = o at hi ⊢
  match o, hi with
  | 0, _ => rfl
  | 1, _ => rfl
  | 2, _ => rfl
  | 3, _ => rfl
  | 4, _ => rfl
  | 5, _ => rfl
  | 6, _ => rfl
  | 7, _ => rfl
  | 8, _ => rfl
  | 9, _ => rfl
  | 10, _ => rfl
  | 11, _ => rfl
  | 12, _ => rfl
  | 13, _ => rfl
  | 14, _ => rfl
  | 15, _ => rfl
  | _ + 16, h => exact absurd h (by omega)
end
end K08
set_option Elab.async false
set_option linter.all false
set_option maxRecDepth 100000
set_option maxHeartbeats 4000000
namespace K08
open PySem PySem.Spec PyProof.Rows L2 Wk
local macro_rules | `(tactic| walk_at "u1") => `(tactic| fail "no more")
local macro_rules | `(tactic| walk_at "pos") => `(tactic| first | assumption | omega | decide | (simp only [Int.ofNat_eq_natCast] at *; omega))
local macro_rules | `(tactic| walk_at "sz") => `(tactic| first
  | (simp only [List.length_cons, List.length_nil]; decide)
  | exact Evl.sz_of (by omega)
  | exact Evl.sz_lt (by omega)
  | exact Evl.sz_of (by simp only [List.length_map, List.length_append, List.length_cons, List.length_nil, List.length_replicate]; omega)
  | exact Evl.sz_lt (by simp only [List.length_map, List.length_append, List.length_cons, List.length_nil, List.length_replicate]; omega))
local macro_rules | `(tactic| walk_at "cond") => `(tactic| first
  | exact Or.inr ⟨by decide, by decide⟩
  | (show (0 : Int) < _; first | decide | assumption | omega)
  | exact Or.inl ⟨by omega, by omega⟩
  | exact Or.inr ⟨by omega, by omega⟩
  | exact ⟨by decide, by decide, by decide⟩
  | exact log2_lt (by omega) (by omega)
  | exact ⟨by omega, by omega⟩)
local macro_rules | `(tactic| walk_at "ty") => `(tactic| first
  | exact ty_int | exact ty_bl | exact ty_str | exact ty_non
  | exact ty_L (by assumption) | exact ty_T (by assumption)
  | exact ty_L (SqL.of (by assumption)) | exact ty_T (SqT.of (by assumption)))
local macro_rules | `(tactic| walk_at "kit") => `(tactic| first
  | exact k_ii | exact k_ib | exact k_is | exact k_il | exact k_it
  | exact k_bb | exact k_bi | exact k_bs | exact k_bl | exact k_bt
  | exact k_ss | exact k_sb | exact k_si | exact k_sl | exact k_st
  | exact k_ll | exact k_lb | exact k_li | exact k_ls | exact k_lt
  | exact k_tt | exact k_tb | exact k_ti | exact k_ts | exact k_tl
  | exact k_nn | exact k_ni | exact k_ns | exact k_nl | exact k_nt)
local macro_rules | `(tactic| walk_at "s1") => `(tactic| first
  | with_reducible refine w_seq ?_
  | with_reducible refine w_set ?_
  | with_reducible refine w_op ?_
  | ((with_reducible refine' w_var ?h1 ?_); (case h1 => rfl))
  | with_reducible refine w_c ?_
  | with_reducible refine w_cb ?_
  | with_reducible refine w_cons ?_
  | with_reducible refine w_nil ?_
  | with_reducible refine w_I0 ?_
  | ((with_reducible refine' w_I ?c1 ?_); case c1 => walk_at "cond")
  | with_reducible refine w_ret ?_
  | with_reducible refine w_next ?_
  | with_reducible refine w_ifS ?_
  | with_reducible refine w_test ?_
  | with_reducible refine w_tB ?_
  | with_reducible refine w_k ?_
  | with_reducible refine w_eqI ?_
  | with_reducible refine w_neI ?_
  | with_reducible refine w_eqS ?_
  | with_reducible refine w_neS ?_
  | with_reducible refine w_and ?_
  | with_reducible refine w_or ?_
  | with_reducible refine w_not ?_
  | with_reducible refine w_andV ?_
  | with_reducible refine w_orV ?_
  | with_reducible refine w_notV ?_
  | with_reducible refine w_ifE ?_
  | with_reducible refine w_true ?_
  | with_reducible refine w_false ?_
  | with_reducible refine w_ntrue ?_
  | with_reducible refine w_nfalse ?_
  | with_reducible refine w_call ?_
  | with_reducible refine c_int ?_
  | with_reducible refine c_abs ?_
  | with_reducible refine c_max ?_
  | with_reducible refine c_min ?_
  | with_reducible refine w_drop ?_
  | with_reducible refine w_sfld ?_
  | with_reducible refine w_meth ?_
  | with_reducible refine w_make ?_
  | with_reducible refine w_prop ?_
  | with_reducible refine w_callK ?_
  | with_reducible refine w_callN ?_
  | with_reducible refine w_star ?_
  | with_reducible refine w_gcons ?_
  | with_reducible refine w_gname ?_
  | with_reducible refine w_gnil ?_
  | with_reducible refine w_retN ?_
  | with_reducible refine w_tup ?_
  | with_reducible refine w_lst ?_
  | with_reducible refine w_fld ?_
  | with_reducible refine w_bm ?_
  | with_reducible refine w_bm0 ?_
  | with_reducible refine w_forL ?_
  | with_reducible refine w_forT ?_
  | with_reducible refine w_forS ?_
  | with_reducible refine w_forR ?_
  | with_reducible refine w_lcR ?_
  | with_reducible refine w_lcL ?_
  | with_reducible refine w_lcT ?_
  | with_reducible refine w_isN ?_
  | with_reducible refine w_notN ?_
  | with_reducible refine w_asg ?_
  | with_reducible refine w_gsub ?_
  | ((with_reducible refine' w_aug ?h1 ?_); (case h1 => rfl))
  | with_reducible refine w_augS ?_
  | with_reducible refine w_ipI ?_
  | with_reducible refine w_un ?_
  | with_reducible refine w_U ?_
  | ((with_reducible refine' w_iteF ?f1 ?_); case f1 => (first | (intro h; cases h; done) | decide))
  | ((with_reducible refine' w_iteT ?f1 ?_); case f1 => rfl)
  | ((with_reducible refine' w_iteNF ?f1 ?_); case f1 => rfl)
  | ((with_reducible refine' w_iteNT ?f1 ?_); case f1 => (first | (intro h; cases h; done) | decide))
  | ((with_reducible refine' c_isi ?t1 ?k1 ?_); (case t1 => walk_at "ty"); (case k1 => walk_at "kit"))
  | ((with_reducible refine' w_eq ?e1 ?_); case e1 => rfl)
  | ((with_reducible refine' w_ne ?e1 ?_); case e1 => rfl)
  | walk_at "u1")
local macro_rules | `(tactic| walk_at "s") => `(tactic| repeat walk_at "s1")
local macro_rules | `(tactic| walk_at "mem") => `(tactic| first | with_reducible exact List.mem_cons_self .. | ((with_reducible refine' List.mem_cons_of_mem _ ?q); (case q => walk_at "mem")) | assumption | ((with_reducible refine' List.mem_append_right _ ?q); (case q => walk_at "mem")) | (exact List.mem_append_left _ (by assumption)))
local macro_rules | `(tactic| walk_at "pk") => `(tactic| first | with_reducible exact Pk.here | ((with_reducible refine' Pk.there ?q); (case q => walk_at "pk")) | ((with_reducible refine' Pk.app ?q); (case q => walk_at "pk")))
local macro_rules | `(tactic| walk_at "pkb") => `(tactic| first | with_reducible exact PkB.here | ((with_reducible refine' PkB.there ?q); (case q => walk_at "pkb")) | ((with_reducible refine' PkB.app ?q); (case q => walk_at "pkb")))
local macro_rules | `(tactic| walk_at "spl") => `(tactic| first | with_reducible exact Spl.nil | ((with_reducible refine' Spl.cons ?h ?t); (case h => walk_at "pk"); (case t => walk_at "spl")) | ((with_reducible refine' Spl.blk ?h ?t); (case h => walk_at "pkb"); (case t => walk_at "spl")))
local macro_rules | `(tactic| walk_at "sbx") => `(tactic| first | with_reducible exact Sb.refl | with_reducible exact Sb.nil | with_reducible exact Sb.left | ((with_reducible refine' Sb.cons ?h ?t); (case h => walk_at "pk"); (case t => walk_at "sbx")) | ((with_reducible refine' Sb.blk ?h ?t); (case h => walk_at "pkb"); (case t => walk_at "sbx")) | ((with_reducible refine' Sb.drop ?q); (case q => walk_at "sbx")) | ((with_reducible refine' Sb.right ?q); (case q => walk_at "sbx")))
local macro_rules | `(tactic| walk_at "hd") => `(tactic| first | assumption | exact Hd.sb (by assumption) (by walk_at "sbx"))
local macro_rules | `(tactic| walk_at "sq") => `(tactic| first
  | assumption
  | exact Hd.sqL (by assumption) (by walk_at "mem")
  | exact Hd.sqT (by assumption) (by walk_at "mem")
  | exact Hd.sqF (by assumption) (by walk_at "mem")
  | (refine .inl ?_; walk_at "sq")
  | (refine .inr ?_; walk_at "sq"))
local macro_rules | `(tactic| walk_at "at") => `(tactic| first | rfl | assumption | exact atI_nat (by assumption))
local macro_rules | `(tactic| walk_at "dn1") => `(tactic| first
  | exact Dn.int | exact Dn.str | exact Dn.non | exact Dn.bl | assumption
  | ((refine' Dn.tp ?a1 ?m1 ?l1 ?p1); (case a1 => assumption); (case m1 => walk_at "mem"); (case l1 => (simp only [List.length_cons, List.length_nil]; omega)); (case p1 => walk_at "dns"))
  | ((refine' Dn.lt ?a1 ?m1 ?l1 ?p1); (case a1 => assumption); (case m1 => walk_at "mem"); (case l1 => (simp only [List.length_cons, List.length_nil]; omega)); (case p1 => walk_at "dns")))
local macro_rules | `(tactic| walk_at "dns") => `(tactic| first | exact Paired.nil | exact Dn.ints | ((refine' Paired.cons ?a1 ?b1); (case a1 => walk_at "dn1"); (case b1 => walk_at "dns")))
local macro_rules | `(tactic| walk_at "g1") => `(tactic| first
  | ((with_reducible refine' g_ixI ?h1 ?h2 ?h3 ?_); (case h1 => assumption); (case h2 => walk_at "mem"); (case h3 => omega); intro z hz)
  | ((with_reducible refine' g_ixIT ?h1 ?h2 ?h3 ?_); (case h1 => assumption); (case h2 => walk_at "mem"); (case h3 => omega); intro z hz)
  | ((with_reducible refine' g_setI ?h1 ?h2 ?h3 ?_); (case h1 => assumption); (case h2 => walk_at "pk"); (case h3 => omega); intro H2 hh2)
  | ((with_reducible refine' w_ixL ?h1 ?h2 ?_); (case h1 => walk_at "sq"); (case h2 => walk_at "at"))
  | ((with_reducible refine' w_ixT ?h1 ?h2 ?_); (case h1 => walk_at "sq"); (case h2 => walk_at "at"))
  | ((with_reducible refine' w_ixAny ?h1 ?h2 ?_); (case h1 => walk_at "sq"); (case h2 => walk_at "at"))
  | ((with_reducible refine' c_lenA ?h1 ?_); (case h1 => walk_at "sq"))
  | ((with_reducible refine' c_isi ?t1 ?k1 ?_); (case t1 => first | exact ty_T (by walk_at "sq") | exact ty_L (by walk_at "sq")); (case k1 => walk_at "kit"))
  | ((with_reducible refine' g_lst ?h1 ?h2 ?_); (case h1 => assumption); (case h2 => walk_at "sz"); intro p H2 hh2)
  | ((with_reducible refine' g_tup ?h1 ?h2 ?_); (case h1 => assumption); (case h2 => walk_at "sz"); intro p H2 hh2)
  | ((with_reducible refine' g_dict ?h1 ?_); (case h1 => assumption); intro p H2 hh2)
  | ((with_reducible refine' g_listL ?h1 ?h2 ?_); (case h1 => assumption); (case h2 => walk_at "sq"); intro p H2 hh2)
  | ((with_reducible refine' g_listT ?h1 ?h2 ?_); (case h1 => assumption); (case h2 => walk_at "sq"); intro p H2 hh2)
  | ((with_reducible refine' g_tupL ?h1 ?h2 ?_); (case h1 => assumption); (case h2 => walk_at "sq"); intro p H2 hh2)
  | ((with_reducible refine' g_set ?h1 ?h2 ?h3 ?_); (case h1 => assumption); (case h2 => walk_at "pk"); (case h3 => first | rfl | assumption | exact Evl.ixN_nat (by first | omega | (simp only [List.length_cons, List.length_nil]; omega))); intro H2 hh2)
  | ((with_reducible refine' g_kbm ?h1 ?h2 ?_); (case h1 => assumption); (case h2 => walk_at "mem"))
  | ((with_reducible refine' g_kbm0 ?h1 ?h2 ?_); (case h1 => assumption); (case h2 => walk_at "mem"))
  | ((with_reducible refine' g_app ?h1 ?h2 ?h3 ?_); (case h1 => assumption); (case h2 => walk_at "pk"); (case h3 => walk_at "sz"); intro H2 hh2)
  | ((with_reducible refine' g_kapp ?h1 ?h2 ?h3 ?_); (case h1 => assumption); (case h2 => walk_at "pk"); (case h3 => walk_at "sz"); intro H2 hh2)
  | ((with_reducible refine' g_fld ?h1 ?h2 ?h3 ?h4 ?h5 ?_); (case h1 => assumption); (case h2 => walk_at "mem"); (case h3 => assumption); (case h4 => assumption); (case h5 => rfl))
  | ((with_reducible refine' g_sfld ?h1 ?h2 ?h3 ?h4 ?h5 ?_); (case h1 => assumption); (case h2 => walk_at "pk"); (case h3 => assumption); (case h4 => assumption); (case h5 => decide); intro H2 hh2)
  | ((with_reducible refine' g_meth ?h1 ?h2 ?h3 ?_); (case h1 => assumption); (case h2 => walk_at "mem"); (case h3 => rfl))
  | ((with_reducible refine' g_prop ?h1 ?h2 ?_); (case h1 => assumption); (case h2 => walk_at "mem"))
  | ((with_reducible refine' g_make ?h1 ?_); (case h1 => assumption); intro x H2 hh2)
  | ((with_reducible refine' g_cat ?h1 ?h2 ?h3 ?h4 ?_); (case h1 => assumption); (case h2 => walk_at "mem"); (case h3 => walk_at "mem"); (case h4 => walk_at "sz"); intro p H2 hh2)
  | ((with_reducible refine' g_inT ?h1 ?h2 ?h3 ?h4 ?h5 ?_); (case h1 => assumption); (case h2 => walk_at "mem"); (case h3 => rfl); (case h4 => rfl); (case h5 => rfl)))
local macro_rules | `(tactic| walk_at "gs") => `(tactic| repeat first | walk_at "s1" | walk_at "g1")
local macro_rules | `(tactic| walk_at "ite") => `(tactic| first
  | ((with_reducible refine' w_iteT ?h1 ?_); (case h1 => omega))
  | ((with_reducible refine' w_iteF ?h1 ?_); (case h1 => omega))
  | (with_reducible refine w_ite ?_ ?_ <;> intro hq)
  | ((with_reducible refine' w_iteNT ?h1 ?_); (case h1 => omega))
  | ((with_reducible refine' w_iteNF ?h1 ?_); (case h1 => omega))
  | (with_reducible refine w_iteN ?_ ?_ <;> intro hq))
local macro_rules | `(tactic| walk_at "go") => `(tactic| repeat' first | walk_at "s1" | walk_at "g1" | walk_at "ite")
section
variable {P : Program} {w : World} {K : PySem.W.Frag} {mg : Str → Option Value} {base : Heap} {aREG aOPS : Addr}
/-! ### the draws, over the ledger -/
def stoC (st c : Addr) : Cell := (st, fun o => ∃ i b t z : Int, o = .lst [.ref c, .int i, .int b, .int t, .int z] ∧ 0 ≤ i ∧ 0 ≤ b ∧ 0 ≤ z ∧ z < 2147483647)
def scrC (c : Addr) : Cell := (c, fun o => ∃ ns : List Int, o = .lst (ns.map V.int))
section
variable {st c : Addr} {H H' : Hp} {L R : List Cell} {Q : VK} {E : XK}
theorem Hd.sto (h : Hd H L) (m1 : stoC st c ∈ L) (m2 : scrC c ∈ L) : StoreAt H st c := by
  obtain ⟨o, e, i, b, t, z, q, r⟩ := h.at_ _ m1
  obtain ⟨u, e2, ns, q2⟩ := h.at_ _ m2
  subst q; subst q2
  exact ⟨ns, i, b, t, z, e, e2, r⟩
theorem Hd.ofSto (S : StoreAt H st c) : Hd H [stoC st c, scrC c] := by
  have ne := S.ne
  obtain ⟨ns, i, b, t, z, e1, e2, r⟩ := S
  exact Hd.two (c := stoC st c) (d := scrC c) e1 ⟨i, b, t, z, rfl, r⟩ e2 ⟨ns, rfl⟩ (Ne.symm ne)
theorem Hd.st0 (h : Hd H (stoC st c :: scrC c :: R)) : StoreAt H st c := Hd.sto h (List.mem_cons_self ..) (List.mem_cons_of_mem _ (List.mem_cons_self ..))
theorem Hd.drawn (h : Hd H (stoC st c :: scrC c :: R)) (S : StoreAt H' st c) (u : Upt [st] H H') : Hd H' (stoC st c :: scrC c :: R) :=
  Hd.put (A := [stoC st c, scrC c]) (B := [stoC st c, scrC c]) h u (fun a ha => by rw [List.mem_singleton.mp ha]; exact List.mem_cons_self ..) (Hd.ofSto S) fun c hc => .inl (List.mem_map_of_mem hc)
theorem g_store {a : Addr} {ns : List Int} {z : Int} (hh : Hd H L) (h : SqL K H a (ns.map V.int)) (hl : ns.length ≤ 63) (h0 : 0 ≤ z) (h1 : z ≤ 200000) (q : ∀ st c H', Hd H' (stoC st c :: scrC c :: L) → Q (.ref st) H') : sp_store K [.ref a, .int z] H Q E :=
  u_store h hl h0 h1 fun st c H' n1 n2 S u => q st c H' (Hd.put (A := []) (B := [stoC st c, scrC c]) (S := []) hh u (by simp) (Hd.ofSto S) fun x hx => by
    rcases List.mem_cons.mp hx with rfl | hx
    · exact .inr n1
    · rw [List.mem_singleton.mp hx]; exact .inr n2)
theorem g_take {m : Int} (hh : Hd H L) (s : Spl L [stoC st c, scrC c] R) (hm : m ≤ 4611686018427387904) (q : ∀ (k : Nat) H', ((k : Int) < m ∨ k = 0) → Hd H' (stoC st c :: scrC c :: R) → Q (.int k) H') : sp_take [.ref st, .int m] H Q E :=
  have h := hh.spl s
  u_take (Hd.st0 h) hm fun k H' hk S u => by
    obtain ⟨j, rfl⟩ := Int.eq_ofNat_of_zero_le hk.1
    exact q j H' (by have := hk.2; omega) (Hd.drawn h S u)
theorem g_take1 {m : Int} (hh : Hd H L) (s : Spl L [stoC st c, scrC c] R) (hm : 0 < m) (hm2 : m ≤ 4611686018427387904) (q : ∀ (k : Nat) H', (k : Int) < m → Hd H' (stoC st c :: scrC c :: R) → Q (.int k) H') : sp_take [.ref st, .int m] H Q E :=
  g_take hh s hm2 fun k H' h0 hh' => q k H' (by omega) hh'
theorem g_pick {r : Addr} {xs : List V} (hh : Hd H L) (s : Spl L [stoC st c, scrC c] R) (m : lstC r xs ∈ R) (h0 : 0 < xs.length) (h1 : xs.length ≤ 100000) (q : ∀ v H', v ∈ xs → Hd H' (stoC st c :: scrC c :: R) → Q v H') : sp_pick K [.ref st, .ref r] H Q E :=
  have h := hh.spl s
  u_pick (Hd.st0 h) (h.sqL (List.mem_cons_of_mem _ (List.mem_cons_of_mem _ m))) (h.ne (c := stoC st c) (d := lstC r xs) (List.mem_cons_of_mem _ m)) h0 h1 fun v H' hv S u => q v H' hv (Hd.drawn h S u)
theorem g_between {lo hi : Int} (hh : Hd H L) (s : Spl L [stoC st c, scrC c] R) (h0 : lo ≤ hi) (h1 : hi - lo < 4611686018427387904) (q : ∀ k H', lo ≤ k → k ≤ hi → Hd H' (stoC st c :: scrC c :: R) → Q (.int k) H') : sp_between [.ref st, .int lo, .int hi] H Q E :=
  have h := hh.spl s
  u_between (Hd.st0 h) h0 h1 fun k H' hk S u => q k H' hk.1 hk.2 (Hd.drawn h S u)
theorem g_betweenN {lo hi : Int} (hh : Hd H L) (s : Spl L [stoC st c, scrC c] R) (hn : 0 ≤ lo) (h0 : lo ≤ hi) (h1 : hi - lo < 4611686018427387904) (q : ∀ (k : Nat) H', lo ≤ k → (k : Int) ≤ hi → Hd H' (stoC st c :: scrC c :: R) → Q (.int k) H') : sp_between [.ref st, .int lo, .int hi] H Q E :=
  g_between hh s h0 h1 fun k H' a b hh' => by
    obtain ⟨j, rfl⟩ := Int.eq_ofNat_of_zero_le (show 0 ≤ k by omega)
    exact q j H' a b hh'
theorem g_size {m : Int} (hh : Hd H L) (s : Spl L [stoC st c, scrC c] R) (h0 : 0 ≤ m) (h1 : m ≤ 1000000) (q : ∀ (k : Nat) H', (k : Int) ≤ m → Hd H' (stoC st c :: scrC c :: R) → Q (.int k) H') : sp_size [.ref st, .int m] H Q E :=
  have h := hh.spl s
  u_size (Hd.st0 h) h0 h1 fun k H' hk S u => by
    obtain ⟨j, rfl⟩ := Int.eq_ofNat_of_zero_le hk.1
    exact q j H' hk.2 (Hd.drawn h S u)
theorem g_word (hh : Hd H L) (s : Spl L [stoC st c, scrC c] R) (q : ∀ (k : Nat) H', k ≤ 65535 → Hd H' (stoC st c :: scrC c :: R) → Q (.int k) H') : sp_word [.ref st] H Q E :=
  have h := hh.spl s
  u_word (Hd.st0 h) fun k H' hk S u => by
    obtain ⟨j, rfl⟩ := Int.eq_ofNat_of_zero_le hk.1
    exact q j H' (by omega) (Hd.drawn h S u)
theorem g_alike {n : Nat} {v1 v2 : V} {d : PyData} (h1 : Dn K [] H n v1 d) (h2 : Dn K [] H n v2 d) (q : Q (.bl true) H) : sp_alike K (n + 1) [v1, v2] H Q E := ⟨v1, v2, d, rfl, ⟨h1, h2⟩, q⟩
end
theorem rep_ints {k : Int} : ∀ n : Nat, (List.replicate n [V.int k]).flatten = (List.replicate n k).map V.int
  | 0 => rfl
  | n + 1 => by rw [List.replicate_succ, List.flatten_cons, rep_ints n, List.replicate_succ, List.map_cons]; rfl
end
end K08
set_option Elab.async false
set_option linter.all false
set_option maxRecDepth 100000
set_option maxHeartbeats 4000000
namespace K08
open PySem PySem.Spec PyProof.Rows L2 Wk
local macro_rules | `(tactic| walk_at "u1") => `(tactic| fail "no more")
local macro_rules | `(tactic| walk_at "pos") => `(tactic| first | assumption | omega | decide | (simp only [Int.ofNat_eq_natCast] at *; omega))
local macro_rules | `(tactic| walk_at "sz") => `(tactic| first
  | (simp only [List.length_cons, List.length_nil]; decide)
  | exact Evl.sz_of (by omega)
  | exact Evl.sz_lt (by omega)
  | exact Evl.sz_of (by simp only [List.length_map, List.length_append, List.length_cons, List.length_nil, List.length_replicate]; omega)
  | exact Evl.sz_lt (by simp only [List.length_map, List.length_append, List.length_cons, List.length_nil, List.length_replicate]; omega))
local macro_rules | `(tactic| walk_at "cond") => `(tactic| first
  | exact Or.inr ⟨by decide, by decide⟩
  | (show (0 : Int) < _; first | decide | assumption | omega)
  | exact Or.inl ⟨by omega, by omega⟩
  | exact Or.inr ⟨by omega, by omega⟩
  | exact ⟨by decide, by decide, by decide⟩
  | exact log2_lt (by omega) (by omega)
  | exact ⟨by omega, by omega⟩)
local macro_rules | `(tactic| walk_at "ty") => `(tactic| first
  | exact ty_int | exact ty_bl | exact ty_str | exact ty_non
  | exact ty_L (by assumption) | exact ty_T (by assumption)
  | exact ty_L (SqL.of (by assumption)) | exact ty_T (SqT.of (by assumption)))
local macro_rules | `(tactic| walk_at "kit") => `(tactic| first
  | exact k_ii | exact k_ib | exact k_is | exact k_il | exact k_it
  | exact k_bb | exact k_bi | exact k_bs | exact k_bl | exact k_bt
  | exact k_ss | exact k_sb | exact k_si | exact k_sl | exact k_st
  | exact k_ll | exact k_lb | exact k_li | exact k_ls | exact k_lt
  | exact k_tt | exact k_tb | exact k_ti | exact k_ts | exact k_tl
  | exact k_nn | exact k_ni | exact k_ns | exact k_nl | exact k_nt)
local macro_rules | `(tactic| walk_at "s1") => `(tactic| first
  | with_reducible refine w_seq ?_
  | with_reducible refine w_set ?_
  | with_reducible refine w_op ?_
  | ((with_reducible refine' w_var ?h1 ?_); (case h1 => rfl))
  | with_reducible refine w_c ?_
  | with_reducible refine w_cb ?_
  | with_reducible refine w_cons ?_
  | with_reducible refine w_nil ?_
  | with_reducible refine w_I0 ?_
  | ((with_reducible refine' w_I ?c1 ?_); case c1 => walk_at "cond")
  | with_reducible refine w_ret ?_
  | with_reducible refine w_next ?_
  | with_reducible refine w_ifS ?_
  | with_reducible refine w_test ?_
  | with_reducible refine w_tB ?_
  | with_reducible refine w_k ?_
  | with_reducible refine w_eqI ?_
  | with_reducible refine w_neI ?_
  | with_reducible refine w_eqS ?_
  | with_reducible refine w_neS ?_
  | with_reducible refine w_and ?_
  | with_reducible refine w_or ?_
  | with_reducible refine w_not ?_
  | with_reducible refine w_andV ?_
  | with_reducible refine w_orV ?_
  | with_reducible refine w_notV ?_
  | with_reducible refine w_ifE ?_
  | with_reducible refine w_true ?_
  | with_reducible refine w_false ?_
  | with_reducible refine w_ntrue ?_
  | with_reducible refine w_nfalse ?_
  | with_reducible refine w_call ?_
  | with_reducible refine c_int ?_
  | with_reducible refine c_abs ?_
  | with_reducible refine c_max ?_
  | with_reducible refine c_min ?_
  | with_reducible refine w_drop ?_
  | with_reducible refine w_sfld ?_
  | with_reducible refine w_meth ?_
  | with_reducible refine w_make ?_
  | with_reducible refine w_prop ?_
  | with_reducible refine w_callK ?_
  | with_reducible refine w_callN ?_
  | with_reducible refine w_star ?_
  | with_reducible refine w_gcons ?_
  | with_reducible refine w_gname ?_
  | with_reducible refine w_gnil ?_
  | with_reducible refine w_retN ?_
  | with_reducible refine w_tup ?_
  | with_reducible refine w_lst ?_
  | with_reducible refine w_fld ?_
  | with_reducible refine w_bm ?_
  | with_reducible refine w_bm0 ?_
  | with_reducible refine w_forL ?_
  | with_reducible refine w_forT ?_
  | with_reducible refine w_forS ?_
  | with_reducible refine w_forR ?_
  | with_reducible refine w_lcR ?_
  | with_reducible refine w_lcL ?_
  | with_reducible refine w_lcT ?_
  | with_reducible refine w_isN ?_
  | with_reducible refine w_notN ?_
  | with_reducible refine w_asg ?_
  | with_reducible refine w_gsub ?_
  | ((with_reducible refine' w_aug ?h1 ?_); (case h1 => rfl))
  | with_reducible refine w_augS ?_
  | with_reducible refine w_ipI ?_
  | with_reducible refine w_un ?_
  | with_reducible refine w_U ?_
  | ((with_reducible refine' w_iteF ?f1 ?_); case f1 => (first | (intro h; cases h; done) | decide))
  | ((with_reducible refine' w_iteT ?f1 ?_); case f1 => rfl)
  | ((with_reducible refine' w_iteNF ?f1 ?_); case f1 => rfl)
  | ((with_reducible refine' w_iteNT ?f1 ?_); case f1 => (first | (intro h; cases h; done) | decide))
  | ((with_reducible refine' c_isi ?t1 ?k1 ?_); (case t1 => walk_at "ty"); (case k1 => walk_at "kit"))
  | ((with_reducible refine' w_eq ?e1 ?_); case e1 => rfl)
  | ((with_reducible refine' w_ne ?e1 ?_); case e1 => rfl)
  | walk_at "u1")
local macro_rules | `(tactic| walk_at "s") => `(tactic| repeat walk_at "s1")
local macro_rules | `(tactic| walk_at "mem") => `(tactic| first | with_reducible exact List.mem_cons_self .. | ((with_reducible refine' List.mem_cons_of_mem _ ?q); (case q => walk_at "mem")) | assumption | ((with_reducible refine' List.mem_append_right _ ?q); (case q => walk_at "mem")) | (exact List.mem_append_left _ (by assumption)))
local macro_rules | `(tactic| walk_at "pk") => `(tactic| first | with_reducible exact Pk.here | ((with_reducible refine' Pk.there ?q); (case q => walk_at "pk")) | ((with_reducible refine' Pk.app ?q); (case q => walk_at "pk")))
local macro_rules | `(tactic| walk_at "pkb") => `(tactic| first | with_reducible exact PkB.here | ((with_reducible refine' PkB.there ?q); (case q => walk_at "pkb")) | ((with_reducible refine' PkB.app ?q); (case q => walk_at "pkb")))
local macro_rules | `(tactic| walk_at "spl") => `(tactic| first | with_reducible exact Spl.nil | ((with_reducible refine' Spl.cons ?h ?t); (case h => walk_at "pk"); (case t => walk_at "spl")) | ((with_reducible refine' Spl.blk ?h ?t); (case h => walk_at "pkb"); (case t => walk_at "spl")))
local macro_rules | `(tactic| walk_at "sbx") => `(tactic| first | with_reducible exact Sb.refl | with_reducible exact Sb.nil | with_reducible exact Sb.left | ((with_reducible refine' Sb.cons ?h ?t); (case h => walk_at "pk"); (case t => walk_at "sbx")) | ((with_reducible refine' Sb.blk ?h ?t); (case h => walk_at "pkb"); (case t => walk_at "sbx")) | ((with_reducible refine' Sb.drop ?q); (case q => walk_at "sbx")) | ((with_reducible refine' Sb.right ?q); (case q => walk_at "sbx")))
local macro_rules | `(tactic| walk_at "hd") => `(tactic| first | assumption | exact Hd.sb (by assumption) (by walk_at "sbx"))
local macro_rules | `(tactic| walk_at "sq") => `(tactic| first
  | assumption
  | exact Hd.sqL (by assumption) (by walk_at "mem")
  | exact Hd.sqT (by assumption) (by walk_at "mem")
  | exact Hd.sqF (by assumption) (by walk_at "mem")
  | (refine .inl ?_; walk_at "sq")
  | (refine .inr ?_; walk_at "sq"))
local macro_rules | `(tactic| walk_at "at") => `(tactic| first | rfl | assumption | exact atI_nat (by assumption))
local macro_rules | `(tactic| walk_at "dn1") => `(tactic| first
  | exact Dn.int | exact Dn.str | exact Dn.non | exact Dn.bl | assumption
  | ((refine' Dn.tp ?a1 ?m1 ?l1 ?p1); (case a1 => assumption); (case m1 => walk_at "mem"); (case l1 => (simp only [List.length_cons, List.length_nil]; omega)); (case p1 => walk_at "dns"))
  | ((refine' Dn.lt ?a1 ?m1 ?l1 ?p1); (case a1 => assumption); (case m1 => walk_at "mem"); (case l1 => (simp only [List.length_cons, List.length_nil]; omega)); (case p1 => walk_at "dns")))
local macro_rules | `(tactic| walk_at "dns") => `(tactic| first | exact Paired.nil | exact Dn.ints | ((refine' Paired.cons ?a1 ?b1); (case a1 => walk_at "dn1"); (case b1 => walk_at "dns")))
local macro_rules | `(tactic| walk_at "g1") => `(tactic| first
  | ((with_reducible refine' g_ixI ?h1 ?h2 ?h3 ?_); (case h1 => assumption); (case h2 => walk_at "mem"); (case h3 => omega); intro z hz)
  | ((with_reducible refine' g_ixIT ?h1 ?h2 ?h3 ?_); (case h1 => assumption); (case h2 => walk_at "mem"); (case h3 => omega); intro z hz)
  | ((with_reducible refine' g_setI ?h1 ?h2 ?h3 ?_); (case h1 => assumption); (case h2 => walk_at "pk"); (case h3 => omega); intro H2 hh2)
  | ((with_reducible refine' w_ixL ?h1 ?h2 ?_); (case h1 => walk_at "sq"); (case h2 => walk_at "at"))
  | ((with_reducible refine' w_ixT ?h1 ?h2 ?_); (case h1 => walk_at "sq"); (case h2 => walk_at "at"))
  | ((with_reducible refine' w_ixAny ?h1 ?h2 ?_); (case h1 => walk_at "sq"); (case h2 => walk_at "at"))
  | ((with_reducible refine' c_lenA ?h1 ?_); (case h1 => walk_at "sq"))
  | ((with_reducible refine' c_isi ?t1 ?k1 ?_); (case t1 => first | exact ty_T (by walk_at "sq") | exact ty_L (by walk_at "sq")); (case k1 => walk_at "kit"))
  | ((with_reducible refine' g_lst ?h1 ?h2 ?_); (case h1 => assumption); (case h2 => walk_at "sz"); intro p H2 hh2)
  | ((with_reducible refine' g_tup ?h1 ?h2 ?_); (case h1 => assumption); (case h2 => walk_at "sz"); intro p H2 hh2)
  | ((with_reducible refine' g_dict ?h1 ?_); (case h1 => assumption); intro p H2 hh2)
  | ((with_reducible refine' g_listL ?h1 ?h2 ?_); (case h1 => assumption); (case h2 => walk_at "sq"); intro p H2 hh2)
  | ((with_reducible refine' g_listT ?h1 ?h2 ?_); (case h1 => assumption); (case h2 => walk_at "sq"); intro p H2 hh2)
  | ((with_reducible refine' g_tupL ?h1 ?h2 ?_); (case h1 => assumption); (case h2 => walk_at "sq"); intro p H2 hh2)
  | ((with_reducible refine' g_set ?h1 ?h2 ?h3 ?_); (case h1 => assumption); (case h2 => walk_at "pk"); (case h3 => first | rfl | assumption | exact Evl.ixN_nat (by first | omega | (simp only [List.length_cons, List.length_nil]; omega))); intro H2 hh2)
  | ((with_reducible refine' g_kbm ?h1 ?h2 ?_); (case h1 => assumption); (case h2 => walk_at "mem"))
  | ((with_reducible refine' g_kbm0 ?h1 ?h2 ?_); (case h1 => assumption); (case h2 => walk_at "mem"))
  | ((with_reducible refine' g_app ?h1 ?h2 ?h3 ?_); (case h1 => assumption); (case h2 => walk_at "pk"); (case h3 => walk_at "sz"); intro H2 hh2)
  | ((with_reducible refine' g_kapp ?h1 ?h2 ?h3 ?_); (case h1 => assumption); (case h2 => walk_at "pk"); (case h3 => walk_at "sz"); intro H2 hh2)
  | ((with_reducible refine' g_fld ?h1 ?h2 ?h3 ?h4 ?h5 ?_); (case h1 => assumption); (case h2 => walk_at "mem"); (case h3 => assumption); (case h4 => assumption); (case h5 => rfl))
  | ((with_reducible refine' g_sfld ?h1 ?h2 ?h3 ?h4 ?h5 ?_); (case h1 => assumption); (case h2 => walk_at "pk"); (case h3 => assumption); (case h4 => assumption); (case h5 => decide); intro H2 hh2)
  | ((with_reducible refine' g_meth ?h1 ?h2 ?h3 ?_); (case h1 => assumption); (case h2 => walk_at "mem"); (case h3 => rfl))
  | ((with_reducible refine' g_prop ?h1 ?h2 ?_); (case h1 => assumption); (case h2 => walk_at "mem"))
  | ((with_reducible refine' g_make ?h1 ?_); (case h1 => assumption); intro x H2 hh2)
  | ((with_reducible refine' g_cat ?h1 ?h2 ?h3 ?h4 ?_); (case h1 => assumption); (case h2 => walk_at "mem"); (case h3 => walk_at "mem"); (case h4 => walk_at "sz"); intro p H2 hh2)
  | ((with_reducible refine' g_inT ?h1 ?h2 ?h3 ?h4 ?h5 ?_); (case h1 => assumption); (case h2 => walk_at "mem"); (case h3 => rfl); (case h4 => rfl); (case h5 => rfl)))
local macro_rules | `(tactic| walk_at "gs") => `(tactic| repeat first | walk_at "s1" | walk_at "g1")
local macro_rules | `(tactic| walk_at "ite") => `(tactic| first
  | ((with_reducible refine' w_iteT ?h1 ?_); (case h1 => omega))
  | ((with_reducible refine' w_iteF ?h1 ?_); (case h1 => omega))
  | (with_reducible refine w_ite ?_ ?_ <;> intro hq)
  | ((with_reducible refine' w_iteNT ?h1 ?_); (case h1 => omega))
  | ((with_reducible refine' w_iteNF ?h1 ?_); (case h1 => omega))
  | (with_reducible refine w_iteN ?_ ?_ <;> intro hq))
local macro_rules | `(tactic| walk_at "go") => `(tactic| repeat' first | walk_at "s1" | walk_at "g1" | walk_at "ite")
local macro_rules | `(tactic| walk_at "g1") => `(tactic| first
  | ((with_reducible refine' g_take1 ?h1 ?h2 ?h3 ?h4 ?_); (case h1 => assumption); (case h2 => walk_at "spl"); (case h3 => omega); (case h4 => omega); intro k H2 hk1 hh2)
  | ((with_reducible refine' g_take ?h1 ?h2 ?h4 ?_); (case h1 => assumption); (case h2 => walk_at "spl"); (case h4 => omega); intro k H2 hk1 hh2)
  | ((with_reducible refine' g_betweenN ?h1 ?h2 ?h5 ?h3 ?h4 ?_); (case h1 => assumption); (case h2 => walk_at "spl"); (case h5 => omega); (case h3 => omega); (case h4 => omega); intro k H2 hk1 hk2 hh2)
  | ((with_reducible refine' g_between ?h1 ?h2 ?h3 ?h4 ?_); (case h1 => assumption); (case h2 => walk_at "spl"); (case h3 => omega); (case h4 => omega); intro k H2 hk1 hk2 hh2)
  | ((with_reducible refine' g_size ?h1 ?h2 ?h3 ?h4 ?_); (case h1 => assumption); (case h2 => walk_at "spl"); (case h3 => omega); (case h4 => omega); intro k H2 hk1 hh2)
  | ((with_reducible refine' g_word ?h1 ?h2 ?_); (case h1 => assumption); (case h2 => walk_at "spl"); intro k H2 hk1 hh2))
section
variable {P : Program} {w : World} {K : PySem.W.Frag} {mg : Str → Option Value} {base : Heap} {aREG aOPS : Addr}
/-! ### parts of lists -/
theorem cut_hi {xs : List V} {n : Nat} : cutV xs none (some (n : Int)) = xs.take n := by
  unfold cutV
  rw [show HT.sIx xs.length 0 none = 0 from rfl, List.drop_zero, Nat.sub_zero]
  have e : HT.sIx xs.length xs.length (some (n : Int)) = min n xs.length := by
    show (if (n : Int) < 0 then ((n : Int) + (xs.length : Int)).toNat else min ((n : Int)).toNat xs.length) = min n xs.length
    rw [if_neg (by omega), Int.toNat_natCast]
  rw [e]
  exact List.take_eq_take_min.symm
theorem cut_lo {xs : List V} {n : Nat} : cutV xs (some (n : Int)) none = xs.drop n := by
  unfold cutV
  have e : HT.sIx xs.length 0 (some (n : Int)) = min n xs.length := by
    show (if (n : Int) < 0 then ((n : Int) + (xs.length : Int)).toNat else min ((n : Int)).toNat xs.length) = min n xs.length
    rw [if_neg (by omega), Int.toNat_natCast]
  rw [e, show HT.sIx xs.length xs.length none = xs.length from rfl]
  by_cases h : n ≤ xs.length
  · rw [Nat.min_eq_left h, List.take_of_length_le (by rw [List.length_drop]; exact Nat.le_refl _)]
  · rw [Nat.min_eq_right (by omega), Nat.sub_self, List.take_zero, List.drop_eq_nil_of_le (by omega)]
section
variable {K : PySem.W.Frag} {σ : L2.St} {H : Hp} {Q : VK} {L : List Cell} {a : Addr} {xs : List V} {n : Nat} {r : V → Option Int → Option Int → Hp → VK → Prop} {te t : TE} {tl th : TO} {i : Int} {QO : Option Int → Hp → Prop} {QI : Int → Prop}
theorem w_sl (h : te σ H fun x H1 => tl σ H1 fun l H2 => th σ H2 fun u H3 => r x l u H3 Q) : tSl r te tl th σ H Q := h
theorem w_part (h : t σ H fun x H1 => ∃ i, x = .int i ∧ QO (some i) H1) : tPart t σ H QO := h
theorem w_noPart (h : QO none H) : tNoPart σ H QO := h
theorem w_exI (h : QI i) : ∃ j, V.int i = .int j ∧ QI j := ⟨i, rfl, h⟩
theorem g_slHi (hh : Hd H L) (h : SqL K H a xs) (q : ∀ p H2, Hd H2 (lstC p (xs.take n) :: L) → Q (.ref p) H2) : rSlL K (.ref a) none (some (n : Int)) H Q :=
  ⟨a, xs, rfl, h, fun p hp => q p _ (hh.newL (cut_hi (xs := xs) (n := n) ▸ New.of hp))⟩
theorem g_slLo (hh : Hd H L) (h : SqL K H a xs) (q : ∀ p H2, Hd H2 (lstC p (xs.drop n) :: L) → Q (.ref p) H2) : rSlL K (.ref a) (some (n : Int)) none H Q :=
  ⟨a, xs, rfl, h, fun p hp => q p _ (hh.newL (cut_lo (xs := xs) (n := n) ▸ New.of hp))⟩
end
end
end K08
set_option Elab.async false
set_option linter.all false
set_option maxRecDepth 100000
set_option maxHeartbeats 4000000
namespace K08
open PySem PySem.Spec PyProof.Rows L2 Wk
local macro_rules | `(tactic| walk_at "u1") => `(tactic| fail "no more")
local macro_rules | `(tactic| walk_at "pos") => `(tactic| first | assumption | omega | decide | (simp only [Int.ofNat_eq_natCast] at *; omega))
local macro_rules | `(tactic| walk_at "sz") => `(tactic| first
  | (simp only [List.length_cons, List.length_nil]; decide)
  | exact Evl.sz_of (by omega)
  | exact Evl.sz_lt (by omega)
  | exact Evl.sz_of (by simp only [List.length_map, List.length_append, List.length_cons, List.length_nil, List.length_replicate]; omega)
  | exact Evl.sz_lt (by simp only [List.length_map, List.length_append, List.length_cons, List.length_nil, List.length_replicate]; omega))
local macro_rules | `(tactic| walk_at "cond") => `(tactic| first
  | exact Or.inr ⟨by decide, by decide⟩
  | (show (0 : Int) < _; first | decide | assumption | omega)
  | exact Or.inl ⟨by omega, by omega⟩
  | exact Or.inr ⟨by omega, by omega⟩
  | exact ⟨by decide, by decide, by decide⟩
  | exact log2_lt (by omega) (by omega)
  | exact ⟨by omega, by omega⟩)
local macro_rules | `(tactic| walk_at "ty") => `(tactic| first
  | exact ty_int | exact ty_bl | exact ty_str | exact ty_non
  | exact ty_L (by assumption) | exact ty_T (by assumption)
  | exact ty_L (SqL.of (by assumption)) | exact ty_T (SqT.of (by assumption)))
local macro_rules | `(tactic| walk_at "kit") => `(tactic| first
  | exact k_ii | exact k_ib | exact k_is | exact k_il | exact k_it
  | exact k_bb | exact k_bi | exact k_bs | exact k_bl | exact k_bt
  | exact k_ss | exact k_sb | exact k_si | exact k_sl | exact k_st
  | exact k_ll | exact k_lb | exact k_li | exact k_ls | exact k_lt
  | exact k_tt | exact k_tb | exact k_ti | exact k_ts | exact k_tl
  | exact k_nn | exact k_ni | exact k_ns | exact k_nl | exact k_nt)
local macro_rules | `(tactic| walk_at "s1") => `(tactic| first
  | with_reducible refine w_seq ?_
  | with_reducible refine w_set ?_
  | with_reducible refine w_op ?_
  | ((with_reducible refine' w_var ?h1 ?_); (case h1 => rfl))
  | with_reducible refine w_c ?_
  | with_reducible refine w_cb ?_
  | with_reducible refine w_cons ?_
  | with_reducible refine w_nil ?_
  | with_reducible refine w_I0 ?_
  | ((with_reducible refine' w_I ?c1 ?_); case c1 => walk_at "cond")
  | with_reducible refine w_ret ?_
  | with_reducible refine w_next ?_
  | with_reducible refine w_ifS ?_
  | with_reducible refine w_test ?_
  | with_reducible refine w_tB ?_
  | with_reducible refine w_k ?_
  | with_reducible refine w_eqI ?_
  | with_reducible refine w_neI ?_
  | with_reducible refine w_eqS ?_
  | with_reducible refine w_neS ?_
  | with_reducible refine w_and ?_
  | with_reducible refine w_or ?_
  | with_reducible refine w_not ?_
  | with_reducible refine w_andV ?_
  | with_reducible refine w_orV ?_
  | with_reducible refine w_notV ?_
  | with_reducible refine w_ifE ?_
  | with_reducible refine w_true ?_
  | with_reducible refine w_false ?_
  | with_reducible refine w_ntrue ?_
  | with_reducible refine w_nfalse ?_
  | with_reducible refine w_call ?_
  | with_reducible refine c_int ?_
  | with_reducible refine c_abs ?_
  | with_reducible refine c_max ?_
  | with_reducible refine c_min ?_
  | with_reducible refine w_drop ?_
  | with_reducible refine w_sfld ?_
  | with_reducible refine w_meth ?_
  | with_reducible refine w_make ?_
  | with_reducible refine w_prop ?_
  | with_reducible refine w_callK ?_
  | with_reducible refine w_callN ?_
  | with_reducible refine w_star ?_
  | with_reducible refine w_gcons ?_
  | with_reducible refine w_gname ?_
  | with_reducible refine w_gnil ?_
  | with_reducible refine w_retN ?_
  | with_reducible refine w_tup ?_
  | with_reducible refine w_lst ?_
  | with_reducible refine w_fld ?_
  | with_reducible refine w_bm ?_
  | with_reducible refine w_bm0 ?_
  | with_reducible refine w_forL ?_
  | with_reducible refine w_forT ?_
  | with_reducible refine w_forS ?_
  | with_reducible refine w_forR ?_
  | with_reducible refine w_lcR ?_
  | with_reducible refine w_lcL ?_
  | with_reducible refine w_lcT ?_
  | with_reducible refine w_isN ?_
  | with_reducible refine w_notN ?_
  | with_reducible refine w_asg ?_
  | with_reducible refine w_gsub ?_
  | ((with_reducible refine' w_aug ?h1 ?_); (case h1 => rfl))
  | with_reducible refine w_augS ?_
  | with_reducible refine w_ipI ?_
  | with_reducible refine w_un ?_
  | with_reducible refine w_U ?_
  | ((with_reducible refine' w_iteF ?f1 ?_); case f1 => (first | (intro h; cases h; done) | decide))
  | ((with_reducible refine' w_iteT ?f1 ?_); case f1 => rfl)
  | ((with_reducible refine' w_iteNF ?f1 ?_); case f1 => rfl)
  | ((with_reducible refine' w_iteNT ?f1 ?_); case f1 => (first | (intro h; cases h; done) | decide))
  | ((with_reducible refine' c_isi ?t1 ?k1 ?_); (case t1 => walk_at "ty"); (case k1 => walk_at "kit"))
  | ((with_reducible refine' w_eq ?e1 ?_); case e1 => rfl)
  | ((with_reducible refine' w_ne ?e1 ?_); case e1 => rfl)
  | walk_at "u1")
local macro_rules | `(tactic| walk_at "s") => `(tactic| repeat walk_at "s1")
local macro_rules | `(tactic| walk_at "mem") => `(tactic| first | with_reducible exact List.mem_cons_self .. | ((with_reducible refine' List.mem_cons_of_mem _ ?q); (case q => walk_at "mem")) | assumption | ((with_reducible refine' List.mem_append_right _ ?q); (case q => walk_at "mem")) | (exact List.mem_append_left _ (by assumption)))
local macro_rules | `(tactic| walk_at "pk") => `(tactic| first | with_reducible exact Pk.here | ((with_reducible refine' Pk.there ?q); (case q => walk_at "pk")) | ((with_reducible refine' Pk.app ?q); (case q => walk_at "pk")))
local macro_rules | `(tactic| walk_at "pkb") => `(tactic| first | with_reducible exact PkB.here | ((with_reducible refine' PkB.there ?q); (case q => walk_at "pkb")) | ((with_reducible refine' PkB.app ?q); (case q => walk_at "pkb")))
local macro_rules | `(tactic| walk_at "spl") => `(tactic| first | with_reducible exact Spl.nil | ((with_reducible refine' Spl.cons ?h ?t); (case h => walk_at "pk"); (case t => walk_at "spl")) | ((with_reducible refine' Spl.blk ?h ?t); (case h => walk_at "pkb"); (case t => walk_at "spl")))
local macro_rules | `(tactic| walk_at "sbx") => `(tactic| first | with_reducible exact Sb.refl | with_reducible exact Sb.nil | with_reducible exact Sb.left | ((with_reducible refine' Sb.cons ?h ?t); (case h => walk_at "pk"); (case t => walk_at "sbx")) | ((with_reducible refine' Sb.blk ?h ?t); (case h => walk_at "pkb"); (case t => walk_at "sbx")) | ((with_reducible refine' Sb.drop ?q); (case q => walk_at "sbx")) | ((with_reducible refine' Sb.right ?q); (case q => walk_at "sbx")))
local macro_rules | `(tactic| walk_at "hd") => `(tactic| first | assumption | exact Hd.sb (by assumption) (by walk_at "sbx"))
local macro_rules | `(tactic| walk_at "sq") => `(tactic| first
  | assumption
  | exact Hd.sqL (by assumption) (by walk_at "mem")
  | exact Hd.sqT (by assumption) (by walk_at "mem")
  | exact Hd.sqF (by assumption) (by walk_at "mem")
  | (refine .inl ?_; walk_at "sq")
  | (refine .inr ?_; walk_at "sq"))
local macro_rules | `(tactic| walk_at "at") => `(tactic| first | rfl | assumption | exact atI_nat (by assumption))
local macro_rules | `(tactic| walk_at "dn1") => `(tactic| first
  | exact Dn.int | exact Dn.str | exact Dn.non | exact Dn.bl | assumption
  | ((refine' Dn.tp ?a1 ?m1 ?l1 ?p1); (case a1 => assumption); (case m1 => walk_at "mem"); (case l1 => (simp only [List.length_cons, List.length_nil]; omega)); (case p1 => walk_at "dns"))
  | ((refine' Dn.lt ?a1 ?m1 ?l1 ?p1); (case a1 => assumption); (case m1 => walk_at "mem"); (case l1 => (simp only [List.length_cons, List.length_nil]; omega)); (case p1 => walk_at "dns")))
local macro_rules | `(tactic| walk_at "dns") => `(tactic| first | exact Paired.nil | exact Dn.ints | ((refine' Paired.cons ?a1 ?b1); (case a1 => walk_at "dn1"); (case b1 => walk_at "dns")))
local macro_rules | `(tactic| walk_at "g1") => `(tactic| first
  | ((with_reducible refine' g_ixI ?h1 ?h2 ?h3 ?_); (case h1 => assumption); (case h2 => walk_at "mem"); (case h3 => omega); intro z hz)
  | ((with_reducible refine' g_ixIT ?h1 ?h2 ?h3 ?_); (case h1 => assumption); (case h2 => walk_at "mem"); (case h3 => omega); intro z hz)
  | ((with_reducible refine' g_setI ?h1 ?h2 ?h3 ?_); (case h1 => assumption); (case h2 => walk_at "pk"); (case h3 => omega); intro H2 hh2)
  | ((with_reducible refine' w_ixL ?h1 ?h2 ?_); (case h1 => walk_at "sq"); (case h2 => walk_at "at"))
  | ((with_reducible refine' w_ixT ?h1 ?h2 ?_); (case h1 => walk_at "sq"); (case h2 => walk_at "at"))
  | ((with_reducible refine' w_ixAny ?h1 ?h2 ?_); (case h1 => walk_at "sq"); (case h2 => walk_at "at"))
  | ((with_reducible refine' c_lenA ?h1 ?_); (case h1 => walk_at "sq"))
  | ((with_reducible refine' c_isi ?t1 ?k1 ?_); (case t1 => first | exact ty_T (by walk_at "sq") | exact ty_L (by walk_at "sq")); (case k1 => walk_at "kit"))
  | ((with_reducible refine' g_lst ?h1 ?h2 ?_); (case h1 => assumption); (case h2 => walk_at "sz"); intro p H2 hh2)
  | ((with_reducible refine' g_tup ?h1 ?h2 ?_); (case h1 => assumption); (case h2 => walk_at "sz"); intro p H2 hh2)
  | ((with_reducible refine' g_dict ?h1 ?_); (case h1 => assumption); intro p H2 hh2)
  | ((with_reducible refine' g_listL ?h1 ?h2 ?_); (case h1 => assumption); (case h2 => walk_at "sq"); intro p H2 hh2)
  | ((with_reducible refine' g_listT ?h1 ?h2 ?_); (case h1 => assumption); (case h2 => walk_at "sq"); intro p H2 hh2)
  | ((with_reducible refine' g_tupL ?h1 ?h2 ?_); (case h1 => assumption); (case h2 => walk_at "sq"); intro p H2 hh2)
  | ((with_reducible refine' g_set ?h1 ?h2 ?h3 ?_); (case h1 => assumption); (case h2 => walk_at "pk"); (case h3 => first | rfl | assumption | exact Evl.ixN_nat (by first | omega | (simp only [List.length_cons, List.length_nil]; omega))); intro H2 hh2)
  | ((with_reducible refine' g_kbm ?h1 ?h2 ?_); (case h1 => assumption); (case h2 => walk_at "mem"))
  | ((with_reducible refine' g_kbm0 ?h1 ?h2 ?_); (case h1 => assumption); (case h2 => walk_at "mem"))
  | ((with_reducible refine' g_app ?h1 ?h2 ?h3 ?_); (case h1 => assumption); (case h2 => walk_at "pk"); (case h3 => walk_at "sz"); intro H2 hh2)
  | ((with_reducible refine' g_kapp ?h1 ?h2 ?h3 ?_); (case h1 => assumption); (case h2 => walk_at "pk"); (case h3 => walk_at "sz"); intro H2 hh2)
  | ((with_reducible refine' g_fld ?h1 ?h2 ?h3 ?h4 ?h5 ?_); (case h1 => assumption); (case h2 => walk_at "mem"); (case h3 => assumption); (case h4 => assumption); (case h5 => rfl))
  | ((with_reducible refine' g_sfld ?h1 ?h2 ?h3 ?h4 ?h5 ?_); (case h1 => assumption); (case h2 => walk_at "pk"); (case h3 => assumption); (case h4 => assumption); (case h5 => decide); intro H2 hh2)
  | ((with_reducible refine' g_meth ?h1 ?h2 ?h3 ?_); (case h1 => assumption); (case h2 => walk_at "mem"); (case h3 => rfl))
  | ((with_reducible refine' g_prop ?h1 ?h2 ?_); (case h1 => assumption); (case h2 => walk_at "mem"))
  | ((with_reducible refine' g_make ?h1 ?_); (case h1 => assumption); intro x H2 hh2)
  | ((with_reducible refine' g_cat ?h1 ?h2 ?h3 ?h4 ?_); (case h1 => assumption); (case h2 => walk_at "mem"); (case h3 => walk_at "mem"); (case h4 => walk_at "sz"); intro p H2 hh2)
  | ((with_reducible refine' g_inT ?h1 ?h2 ?h3 ?h4 ?h5 ?_); (case h1 => assumption); (case h2 => walk_at "mem"); (case h3 => rfl); (case h4 => rfl); (case h5 => rfl)))
local macro_rules | `(tactic| walk_at "gs") => `(tactic| repeat first | walk_at "s1" | walk_at "g1")
local macro_rules | `(tactic| walk_at "ite") => `(tactic| first
  | ((with_reducible refine' w_iteT ?h1 ?_); (case h1 => omega))
  | ((with_reducible refine' w_iteF ?h1 ?_); (case h1 => omega))
  | (with_reducible refine w_ite ?_ ?_ <;> intro hq)
  | ((with_reducible refine' w_iteNT ?h1 ?_); (case h1 => omega))
  | ((with_reducible refine' w_iteNF ?h1 ?_); (case h1 => omega))
  | (with_reducible refine w_iteN ?_ ?_ <;> intro hq))
local macro_rules | `(tactic| walk_at "go") => `(tactic| repeat' first | walk_at "s1" | walk_at "g1" | walk_at "ite")
section
variable {P : Program} {w : World} {K : PySem.W.Frag} {mg : Str → Option Value} {base : Heap} {aREG aOPS : Addr}
/-- what the text leaves of its errors: C is BadArgument, W is WardError -/
structure ErrC (K : PySem.W.Frag) (mg : Str → Option Value) (C W fI : Addr) : Prop where
  g_C : mg "BadArgument" = some (.ref C)
  g_W : mg "WardError" = some (.ref W)
  vErr : mg "ValueError" = none
  o : OexC K C
  x : XfC K C
  e : ExcC K C
  no : PySem.W.findIn K (.ref C) "name" = some none
  init : PySem.W.findIn K (.ref C) "__init__" = some (some (.ref fI))
  fn : PySem.W.typeIn K (.ref fI) = some (.type "function")
  wsp : PySem.W.specialIn K (.ref W) "__getattribute__" = some (some (.builtin "type.__getattribute__"))
  wr : ∃ mc, PySem.W.readsIn K W mc = true ∧ PySem.W.findCls K (.ref W) mc "__init__" = some (.val (.builtin "ValueError.__init__"))
  isW : PySem.W.kitOne K (.ref C) (.ref W) = some true
  exW : PySem.W.exmOne K (.ref C) (.ref W) = some true
  isV : PySem.W.kitOne K (.ref C) (.type "ValueError") = some true
  isC : PySem.W.kitOne K (.ref C) (.ref C) = some true
  others : ∀ x ∈ (["BadText", "LabelTwice", "LabelMissing", "TooLong", "Unknown", "Taken", "NotAllowed", "WrongState", "RingOfWaits", "Full", "Stopped", "SourceError"] : List Str), ∃ a, mg x = some (.ref a) ∧ PySem.W.kitOne K (.ref C) (.ref a) = some false
def sp_badI (C : Addr) : Sp := fun vs H Q _ => ∃ (a : Addr) (z : Str), vs = [.ref a, .str z] ∧ z.length ≤ 1000 ∧ H a = some (exo a C none) ∧ ∀ dx, H dx = none → dx ≠ a → Q .non (upd (upd H dx (exd dx [("name", .str z)])) a (exo a C (some dx)))
theorem f_badI {CX : CXT} {C W f : Addr} {fd : FuncData} (R : ErrC K mg C W f) (d : DefM K "__init__" "BadArgument.__init__" s_BadArgument____init__ [] f fd) : FnOk P w K mg base CX 1 f fd ["self", "name"] (sp_badI C) := by
  refine FunD.ok d sc_BadArgument____init__ (fun vs H Q E h => ?_) (fun cdv A outer s H vs Q E hr h => ?_)
  · obtain ⟨a, z, rfl, _⟩ := h
    rfl
  · obtain ⟨a, z, rfl, hz, ha, q⟩ := h
    obtain ⟨mc, mr, mf⟩ := R.wr
    refine ⟨_, (pss_cons (ps_expr (pe_weinit rfl R.g_W R.wsp mr mf (pa_cons (pv 0) (pa_cons (pe_joined (.cons (pe_fmt (pv 1)) (.cons pe_str .nil))) pa_nil))))
  (pss_one (ps_ost (pv 0) (pv 1)))), ?_⟩
    walk_at "s"
    have e1 : z.length ≤ sizeLine := by rw [sizeLine_eq]; omega
    have e2 : (Str.empty ++ z).length ≤ sizeLine := by rw [Str.length_append]; rw [sizeLine_eq]; show 0 + z.length ≤ _; omega
    refine w_cons (w_var rfl (w_cons ⟨_, rfl, .inl ⟨z, rfl, e1, z, rfl, e2, _, rfl, ?_, ?_⟩⟩))
    · rw [Str.length_append, Str.length_append, sizeLine_eq]
      have e3 : (" is none of the told values" : Str).length ≤ 100 := by decide +kernel
      have e4 : Str.empty.length = 0 := rfl
      omega
    · exact ⟨a, C, _, rfl, by simp only [List.length_cons, List.length_nil]; omega, R.o, ha, _, rfl, _, rfl, a, C, rfl, R.o, R.no, .inl ⟨ha, fun dx n ne => q dx n ne⟩⟩
/-- BadArgument(z): a new dict, no more -/
theorem w_mkBad {C : Addr} {z : Str} {σ : L2.St} {H1 : Hp} {Q : XK} (hz : z.length ≤ 1000) (q : ∀ d H', New H1 H' d (.xd [("name", .str z)]) → Q (.ref C) (some d) H') : tMkO C (sp_badI C) [] (tCons (tC (.str z)) tNil) σ H1 Q := by
  refine w_cons (w_c (w_nil ⟨by simp only [List.length_cons, List.length_nil]; omega, fun a ha => ⟨a, z, rfl, hz, upd_same, fun dx n ne => ⟨rfl, dx, [("name", .str z)], upd_same, ?_, ?_, ?_⟩⟩⟩))
  · rw [upd_ne ne, upd_same]
  · rw [upd_ne ne] at n
    exact n
  · rw [made_heap ha ne]
    rw [upd_ne ne] at n
    exact q dx _ (New.of n)
theorem c_isP {D a dd : Addr} {fs : List (Str × V)} {c : V} {cv : Value} {b : Bool} {H : Hp} {Q : VK} (hd : H dd = some (.xd fs)) (hcv : ∀ u, RelV c u → u = cv) (e : PySem.W.kitOne K (.ref D) cv = some b) (q : Q (.bl b) H) : CB (rIsP K D a dd) [.ref a, c] H Q :=
  ⟨c, cv, b, fs, rfl, hcv, e, hd, q⟩
/-- _law_error of a BadArgument -/
def sp_err (C : Addr) : SpP := fun p vs H Q _ => ∃ (dd : Addr) (z : Str), vs = [.ref p.1] ∧ L2.Zc (.ref C) (some dd) p.2 ∧ (∃ us, p.2.data = .fields us) ∧ H dd = some (.xd [("name", .str z)]) ∧ ∀ t H', Upt [] H H' → H t = none → H' t = some (.tup [.str "BadArgument", .str z]) → Q (.ref t) H'
theorem e_err {C W fI f : Addr} {fd : FuncData} (T : Txt K mg aREG aOPS) (R : ErrC K mg C W fI) (d : FunT K "_law_error" s__law_error f fd) : FnE P w K mg base C8.CX0 1 f fd ["e"] (sp_err C) := by
  obtain ⟨oc, od, dV, kV, doc, pm, an, cdv, ct, osl, rfl, lk, hcd, _, _⟩ := d.ex
  obtain ⟨a1, g_BadText, n1⟩ := R.others "BadText" (by simp)
  obtain ⟨a2, g_LabelTwice, n2⟩ := R.others "LabelTwice" (by simp)
  obtain ⟨a3, g_LabelMissing, n3⟩ := R.others "LabelMissing" (by simp)
  obtain ⟨a4, g_TooLong, n4⟩ := R.others "TooLong" (by simp)
  obtain ⟨a5, g_Unknown, n5⟩ := R.others "Unknown" (by simp)
  obtain ⟨a6, g_Taken, n6⟩ := R.others "Taken" (by simp)
  obtain ⟨a7, g_NotAllowed, n7⟩ := R.others "NotAllowed" (by simp)
  obtain ⟨a8, g_WrongState, n8⟩ := R.others "WrongState" (by simp)
  obtain ⟨a9, g_RingOfWaits, n9⟩ := R.others "RingOfWaits" (by simp)
  obtain ⟨a10, g_Full, n10⟩ := R.others "Full" (by simp)
  obtain ⟨a11, g_Stopped, n11⟩ := R.others "Stopped" (by simp)
  obtain ⟨a12, g_SourceError, n12⟩ := R.others "SourceError" (by simp)
  replace g_BadText : ∃ u, mg "BadText" = some u ∧ RelV (.ref a1) u := ⟨_, g_BadText, rfl⟩
  replace g_LabelTwice : ∃ u, mg "LabelTwice" = some u ∧ RelV (.ref a2) u := ⟨_, g_LabelTwice, rfl⟩
  replace g_LabelMissing : ∃ u, mg "LabelMissing" = some u ∧ RelV (.ref a3) u := ⟨_, g_LabelMissing, rfl⟩
  replace g_TooLong : ∃ u, mg "TooLong" = some u ∧ RelV (.ref a4) u := ⟨_, g_TooLong, rfl⟩
  replace g_Unknown : ∃ u, mg "Unknown" = some u ∧ RelV (.ref a5) u := ⟨_, g_Unknown, rfl⟩
  replace g_Taken : ∃ u, mg "Taken" = some u ∧ RelV (.ref a6) u := ⟨_, g_Taken, rfl⟩
  replace g_NotAllowed : ∃ u, mg "NotAllowed" = some u ∧ RelV (.ref a7) u := ⟨_, g_NotAllowed, rfl⟩
  replace g_WrongState : ∃ u, mg "WrongState" = some u ∧ RelV (.ref a8) u := ⟨_, g_WrongState, rfl⟩
  replace g_RingOfWaits : ∃ u, mg "RingOfWaits" = some u ∧ RelV (.ref a9) u := ⟨_, g_RingOfWaits, rfl⟩
  replace g_Full : ∃ u, mg "Full" = some u ∧ RelV (.ref a10) u := ⟨_, g_Full, rfl⟩
  replace g_Stopped : ∃ u, mg "Stopped" = some u ∧ RelV (.ref a11) u := ⟨_, g_Stopped, rfl⟩
  replace g_SourceError : ∃ u, mg "SourceError" = some u ∧ RelV (.ref a12) u := ⟨_, g_SourceError, rfl⟩
  have g_BadArgument : ∃ u, mg "BadArgument" = some u ∧ RelV (.ref C) u := ⟨_, R.g_C, rfl⟩
  have g_WardError : ∃ u, mg "WardError" = some u ∧ RelV (.ref W) u := ⟨_, R.g_W, rfl⟩
  refine fn_ofE lk hcd sc__law_error (fun p vs H Q E h => ?_) (fun A outer s H vs Q E p hot hr h => ?_)
  · obtain ⟨dd, z, rfl, _⟩ := h
    rfl
  · obtain ⟨a, oe⟩ := p
    obtain ⟨dd, z, rfl, hz, hf, hd, q⟩ := h
    have hp : (a, oe) ∈ (L2H.cxH C8.CX0 P w K mg base nm__law_error "_law_error" (defScope s__law_error) f cdv A outer s H E (a, oe)).pn := List.mem_singleton.mpr rfl
    refine ⟨_, (pss_cons (ps_set (i := 1) sc__law_error.nd rfl (Or.inl rfl) (pe_lst pa_nil))
  (pss_cons (ps_if (pt_val (pe_callB (call_isP R.e hp hz hf) (by rfl) T.b_isinstance (by decide +kernel) (pa_cons (pv 0) (pa_cons (C8.pe_gc rfl g_BadArgument) pa_nil))))
    (pss_one (ps_expr (pe_bm PySem.F.plainAttrs_list PySem.F.slot_list_append PySem.F.type_list_append mt_append (pv 1) (pa_cons (pe_tup (pa_cons pe_str (pa_cons (pe_xfP R.x R.no hp hz hf (pv 0)) pa_nil))) pa_nil))))
    pss_nil)
  (pss_cons (ps_if (pt_val (pe_callB (call_isP R.e hp hz hf) (by rfl) T.b_isinstance (by decide +kernel) (pa_cons (pv 0) (pa_cons (C8.pe_gc rfl g_BadText) pa_nil))))
    (pss_one (ps_expr (pe_bm PySem.F.plainAttrs_list PySem.F.slot_list_append PySem.F.type_list_append mt_append (pv 1) (pa_cons (pe_tup (pa_cons pe_str (pa_cons (pe_fld (pv 0) rfl) (pa_cons (pe_fld (pv 0) rfl) pa_nil)))) pa_nil))))
    pss_nil)
  (pss_cons (ps_if (pt_val (pe_callB (call_isP R.e hp hz hf) (by rfl) T.b_isinstance (by decide +kernel) (pa_cons (pv 0) (pa_cons (C8.pe_gc rfl g_LabelTwice) pa_nil))))
    (pss_one (ps_expr (pe_bm PySem.F.plainAttrs_list PySem.F.slot_list_append PySem.F.type_list_append mt_append (pv 1) (pa_cons (pe_tup (pa_cons pe_str (pa_cons (pe_fld (pv 0) rfl) (pa_cons (pe_fld (pv 0) rfl) pa_nil)))) pa_nil))))
    pss_nil)
  (pss_cons (ps_if (pt_val (pe_callB (call_isP R.e hp hz hf) (by rfl) T.b_isinstance (by decide +kernel) (pa_cons (pv 0) (pa_cons (C8.pe_gc rfl g_LabelMissing) pa_nil))))
    (pss_one (ps_expr (pe_bm PySem.F.plainAttrs_list PySem.F.slot_list_append PySem.F.type_list_append mt_append (pv 1) (pa_cons (pe_tup (pa_cons pe_str (pa_cons (pe_fld (pv 0) rfl) (pa_cons (pe_fld (pv 0) rfl) pa_nil)))) pa_nil))))
    pss_nil)
  (pss_cons (ps_if (pt_val (pe_callB (call_isP R.e hp hz hf) (by rfl) T.b_isinstance (by decide +kernel) (pa_cons (pv 0) (pa_cons (C8.pe_gc rfl g_TooLong) pa_nil))))
    (pss_one (ps_expr (pe_bm PySem.F.plainAttrs_list PySem.F.slot_list_append PySem.F.type_list_append mt_append (pv 1) (pa_cons (pe_tup (pa_cons pe_str (pa_cons (pe_fld (pv 0) rfl) pa_nil))) pa_nil))))
    pss_nil)
  (pss_cons (ps_if (pt_val (pe_callB (call_isP R.e hp hz hf) (by rfl) T.b_isinstance (by decide +kernel) (pa_cons (pv 0) (pa_cons (C8.pe_gc rfl g_Unknown) pa_nil))))
    (pss_one (ps_expr (pe_bm PySem.F.plainAttrs_list PySem.F.slot_list_append PySem.F.type_list_append mt_append (pv 1) (pa_cons (pe_tup (pa_cons pe_str (pa_cons (pe_fld (pv 0) rfl) pa_nil))) pa_nil))))
    pss_nil)
  (pss_cons (ps_if (pt_val (pe_callB (call_isP R.e hp hz hf) (by rfl) T.b_isinstance (by decide +kernel) (pa_cons (pv 0) (pa_cons (C8.pe_gc rfl g_Taken) pa_nil))))
    (pss_one (ps_expr (pe_bm PySem.F.plainAttrs_list PySem.F.slot_list_append PySem.F.type_list_append mt_append (pv 1) (pa_cons (pe_tup (pa_cons pe_str (pa_cons (pe_fld (pv 0) rfl) pa_nil))) pa_nil))))
    pss_nil)
  (pss_cons (ps_if (pt_val (pe_callB (call_isP R.e hp hz hf) (by rfl) T.b_isinstance (by decide +kernel) (pa_cons (pv 0) (pa_cons (C8.pe_gc rfl g_NotAllowed) pa_nil))))
    (pss_one (ps_expr (pe_bm PySem.F.plainAttrs_list PySem.F.slot_list_append PySem.F.type_list_append mt_append (pv 1) (pa_cons (pe_tup (pa_cons pe_str (pa_cons (pe_fld (pv 0) rfl) pa_nil))) pa_nil))))
    pss_nil)
  (pss_cons (ps_if (pt_val (pe_callB (call_isP R.e hp hz hf) (by rfl) T.b_isinstance (by decide +kernel) (pa_cons (pv 0) (pa_cons (C8.pe_gc rfl g_WrongState) pa_nil))))
    (pss_one (ps_expr (pe_bm PySem.F.plainAttrs_list PySem.F.slot_list_append PySem.F.type_list_append mt_append (pv 1) (pa_cons (pe_tup (pa_cons pe_str (pa_cons (pe_fld (pv 0) rfl) pa_nil))) pa_nil))))
    pss_nil)
  (pss_cons (ps_if (pt_val (pe_callB (call_isP R.e hp hz hf) (by rfl) T.b_isinstance (by decide +kernel) (pa_cons (pv 0) (pa_cons (C8.pe_gc rfl g_RingOfWaits) pa_nil))))
    (pss_one (ps_expr (pe_bm PySem.F.plainAttrs_list PySem.F.slot_list_append PySem.F.type_list_append mt_append (pv 1) (pa_cons (pe_tup (pa_cons pe_str (pa_cons (pe_fld (pv 0) rfl) pa_nil))) pa_nil))))
    pss_nil)
  (pss_cons (ps_if (pt_val (pe_callB (call_isP R.e hp hz hf) (by rfl) T.b_isinstance (by decide +kernel) (pa_cons (pv 0) (pa_cons (C8.pe_gc rfl g_Full) pa_nil))))
    (pss_one (ps_expr (pe_bm PySem.F.plainAttrs_list PySem.F.slot_list_append PySem.F.type_list_append mt_append (pv 1) (pa_cons (pe_tup (pa_cons pe_str (pa_cons (pe_fld (pv 0) rfl) pa_nil))) pa_nil))))
    pss_nil)
  (pss_cons (ps_if (pt_val (pe_callB (call_isP R.e hp hz hf) (by rfl) T.b_isinstance (by decide +kernel) (pa_cons (pv 0) (pa_cons (C8.pe_gc rfl g_Stopped) pa_nil))))
    (pss_one (ps_expr (pe_bm PySem.F.plainAttrs_list PySem.F.slot_list_append PySem.F.type_list_append mt_append (pv 1) (pa_cons (pe_tup (pa_cons pe_str (pa_cons (pe_fld (pv 0) rfl) pa_nil))) pa_nil))))
    pss_nil)
  (pss_cons (ps_if (PW.pt (pw_or (pt_cmpR op_ne (pe_callB Wk.b_len (by rfl) T.b_len (by decide +kernel) (pa_cons (pv 1) pa_nil)) pe_int (nomark _)) (pw_or (pt_not (pt_val (pe_callB (call_isP R.e hp hz hf) (by rfl) T.b_isinstance (by decide +kernel) (pa_cons (pv 0) (pa_cons (C8.pe_gc rfl g_WardError) pa_nil))))) (pw_or1 (pt_not (pt_val (pe_callB (call_isP R.e hp hz hf) (by rfl) T.b_isinstance (by decide +kernel) (pa_cons (pv 0) (pa_cons (pe_bltn (v := .ty "ValueError") (by rfl) R.vErr (by decide +kernel) rfl) pa_nil)))))))))
    (pss_one ps_never)
    pss_nil)
  (pss_cons (ps_if (pt_cmpR op_ne (pe_callB (call_isP R.e hp hz hf) (by rfl) T.b_isinstance (by decide +kernel) (pa_cons (pv 0) (pa_cons (C8.pe_gc rfl g_SourceError) pa_nil))) (pe_cmpR op_in_seq (pe_ix ix_seq (pe_ix ix_list (pv 1) pe_int (fun _ _ => rfl)) pe_int (fun _ _ => rfl)) (pe_tup (pa_cons pe_str (pa_cons pe_str (pa_cons pe_str (pa_cons pe_str pa_nil))))) (by rfl)) (nomark _))
    (pss_one ps_never)
    pss_nil)
  (pss_one (ps_ret (pe_ix ix_list (pv 1) pe_int (fun _ _ => rfl))))))))))))))))))), ?_⟩
    walk_at "s"
    refine w_new (by decide) fun p2 H2 m2 => ?_
    have h2 := m2.keep.at0 hd
    walk_at "s"
    refine c_isP h2 (fun u r => r) R.isC ?_
    walk_at "s"
    refine w_kbm (ty_list (SqL.of m2.at_)) ?_
    walk_at "s"
    refine w_var rfl ⟨rfl, rfl, dd, _, .str z, rfl, h2, rfl, ?_⟩
    walk_at "s"
    refine w_new (by walk_at "sz") fun p3 H3 m3 => ?_
    walk_at "s"
    refine w_append (m3.keep.at0 m2.at_) (by decide) fun H4 g4 => ?_
    have t4 := g4.keep.at1 (m3.ne' m2.at_) m3.at_
    have d4 := g4.keep.at1 (m2.ne hd) (m3.keep.at0 h2)
    have U4 : Upt [] H H4 := Upt.chgNew (m2.keep.trans m3.keep) m2.no g4
    walk_at "s"
    refine c_isP d4 (fun u r => r) n1 ?_
    walk_at "s"
    refine c_isP d4 (fun u r => r) n2 ?_
    walk_at "s"
    refine c_isP d4 (fun u r => r) n3 ?_
    walk_at "s"
    refine c_isP d4 (fun u r => r) n4 ?_
    walk_at "s"
    refine c_isP d4 (fun u r => r) n5 ?_
    walk_at "s"
    refine c_isP d4 (fun u r => r) n6 ?_
    walk_at "s"
    refine c_isP d4 (fun u r => r) n7 ?_
    walk_at "s"
    refine c_isP d4 (fun u r => r) n8 ?_
    walk_at "s"
    refine c_isP d4 (fun u r => r) n9 ?_
    walk_at "s"
    refine c_isP d4 (fun u r => r) n10 ?_
    walk_at "s"
    refine c_isP d4 (fun u r => r) n11 ?_
    walk_at "s"
    refine c_lenL (SqL.of g4.at_) ?_
    walk_at "s"
    refine c_isP d4 (fun u r => r) R.isW ?_
    walk_at "s"
    refine c_isP d4 (fun u r => by cases r; rfl) R.isV ?_
    walk_at "s"
    refine c_isP d4 (fun u r => r) n12 ?_
    walk_at "s"
    refine w_ixL (SqL.of g4.at_) rfl ?_
    walk_at "s"
    refine w_ixAny (.inr (SqT.of t4)) rfl ?_
    walk_at "s"
    refine w_new (by decide) fun p5 H5 m5 => ?_
    refine w_inT m5.at_ rfl rfl (b := false) (by decide +kernel) ?_
    walk_at "s"
    refine w_ixL (SqL.of (m5.keep.at0 g4.at_)) rfl ?_
    exact q p3 H5 (U4.trans m5.keep) (by
      cases e : H p3 with
      | none => rfl
      | some o => exact absurd (m2.keep.at0 e) (by rw [m3.no]; simp)) (m5.keep.at0 t4)
/-- the same, in an except suite -/
def sp_errA (C a : Addr) (cls : Value) (d : Option Addr) : Sp := fun vs H Q _ => ∃ (dd : Addr) (z : Str), vs = [.ref a] ∧ cls = .ref C ∧ d = some dd ∧ H dd = some (.xd [("name", .str z)]) ∧ ∀ t H', Upt [] H H' → H t = none → H' t = some (.tup [.str "BadArgument", .str z]) → Q (.ref t) H'
theorem imp_err {C a : Addr} {oe : Obj} {cls : Value} {d : Option Addr} (hz : L2N.Zn cls d oe) (hf : ∃ vs, oe.data = .fields vs) : ∀ vs H Q E, sp_errA C a cls d vs H Q E → sp_err C (a, oe) vs H Q E := fun _ _ _ _ ⟨dd, z, h1, h2, h3, h4, q⟩ =>
  ⟨dd, z, h1, by subst h2 h3; exact ⟨hz.1, hz.2.1⟩, hf, h4, q⟩
theorem hot_err {A : Around} {a : Addr} {oe : Obj} {cls : Value} {d : Option Addr} (hz : L2N.Zn cls d oe) (hf : ∃ vs, oe.data = .fields vs) : L2H.Hot1 (A.mark (some (.ref a))) (a, oe) := ⟨rfl, let ⟨vs, e⟩ := hf; ⟨vs, e, hz.2.2 vs e⟩⟩
theorem rH {A : Around} {x : Option Value} {j : Nat} (hr : Room (j + 1) A) : L2H.RoomH 1 (A.mark x) := L2H.RoomH.mono (k := j + 1) ⟨hr.dp, hr.un⟩ (by omega)
end
end K08
set_option Elab.async false
set_option linter.all false
set_option maxRecDepth 100000
set_option maxHeartbeats 4000000
namespace K08
open PySem PySem.Spec PyProof.Rows L2 Wk
local macro_rules | `(tactic| walk_at "u1") => `(tactic| fail "no more")
local macro_rules | `(tactic| walk_at "pos") => `(tactic| first | assumption | omega | decide | (simp only [Int.ofNat_eq_natCast] at *; omega))
local macro_rules | `(tactic| walk_at "sz") => `(tactic| first
  | (simp only [List.length_cons, List.length_nil]; decide)
  | exact Evl.sz_of (by omega)
  | exact Evl.sz_lt (by omega)
  | exact Evl.sz_of (by simp only [List.length_map, List.length_append, List.length_cons, List.length_nil, List.length_replicate]; omega)
  | exact Evl.sz_lt (by simp only [List.length_map, List.length_append, List.length_cons, List.length_nil, List.length_replicate]; omega))
local macro_rules | `(tactic| walk_at "cond") => `(tactic| first
  | exact Or.inr ⟨by decide, by decide⟩
  | (show (0 : Int) < _; first | decide | assumption | omega)
  | exact Or.inl ⟨by omega, by omega⟩
  | exact Or.inr ⟨by omega, by omega⟩
  | exact ⟨by decide, by decide, by decide⟩
  | exact log2_lt (by omega) (by omega)
  | exact ⟨by omega, by omega⟩)
local macro_rules | `(tactic| walk_at "ty") => `(tactic| first
  | exact ty_int | exact ty_bl | exact ty_str | exact ty_non
  | exact ty_L (by assumption) | exact ty_T (by assumption)
  | exact ty_L (SqL.of (by assumption)) | exact ty_T (SqT.of (by assumption)))
local macro_rules | `(tactic| walk_at "kit") => `(tactic| first
  | exact k_ii | exact k_ib | exact k_is | exact k_il | exact k_it
  | exact k_bb | exact k_bi | exact k_bs | exact k_bl | exact k_bt
  | exact k_ss | exact k_sb | exact k_si | exact k_sl | exact k_st
  | exact k_ll | exact k_lb | exact k_li | exact k_ls | exact k_lt
  | exact k_tt | exact k_tb | exact k_ti | exact k_ts | exact k_tl
  | exact k_nn | exact k_ni | exact k_ns | exact k_nl | exact k_nt)
local macro_rules | `(tactic| walk_at "s1") => `(tactic| first
  | with_reducible refine w_seq ?_
  | with_reducible refine w_set ?_
  | with_reducible refine w_op ?_
  | ((with_reducible refine' w_var ?h1 ?_); (case h1 => rfl))
  | with_reducible refine w_c ?_
  | with_reducible refine w_cb ?_
  | with_reducible refine w_cons ?_
  | with_reducible refine w_nil ?_
  | with_reducible refine w_I0 ?_
  | ((with_reducible refine' w_I ?c1 ?_); case c1 => walk_at "cond")
  | with_reducible refine w_ret ?_
  | with_reducible refine w_next ?_
  | with_reducible refine w_ifS ?_
  | with_reducible refine w_test ?_
  | with_reducible refine w_tB ?_
  | with_reducible refine w_k ?_
  | with_reducible refine w_eqI ?_
  | with_reducible refine w_neI ?_
  | with_reducible refine w_eqS ?_
  | with_reducible refine w_neS ?_
  | with_reducible refine w_and ?_
  | with_reducible refine w_or ?_
  | with_reducible refine w_not ?_
  | with_reducible refine w_andV ?_
  | with_reducible refine w_orV ?_
  | with_reducible refine w_notV ?_
  | with_reducible refine w_ifE ?_
  | with_reducible refine w_true ?_
  | with_reducible refine w_false ?_
  | with_reducible refine w_ntrue ?_
  | with_reducible refine w_nfalse ?_
  | with_reducible refine w_call ?_
  | with_reducible refine c_int ?_
  | with_reducible refine c_abs ?_
  | with_reducible refine c_max ?_
  | with_reducible refine c_min ?_
  | with_reducible refine w_drop ?_
  | with_reducible refine w_sfld ?_
  | with_reducible refine w_meth ?_
  | with_reducible refine w_make ?_
  | with_reducible refine w_prop ?_
  | with_reducible refine w_callK ?_
  | with_reducible refine w_callN ?_
  | with_reducible refine w_star ?_
  | with_reducible refine w_gcons ?_
  | with_reducible refine w_gname ?_
  | with_reducible refine w_gnil ?_
  | with_reducible refine w_retN ?_
  | with_reducible refine w_tup ?_
  | with_reducible refine w_lst ?_
  | with_reducible refine w_fld ?_
  | with_reducible refine w_bm ?_
  | with_reducible refine w_bm0 ?_
  | with_reducible refine w_forL ?_
  | with_reducible refine w_forT ?_
  | with_reducible refine w_forS ?_
  | with_reducible refine w_forR ?_
  | with_reducible refine w_lcR ?_
  | with_reducible refine w_lcL ?_
  | with_reducible refine w_lcT ?_
  | with_reducible refine w_isN ?_
  | with_reducible refine w_notN ?_
  | with_reducible refine w_asg ?_
  | with_reducible refine w_gsub ?_
  | ((with_reducible refine' w_aug ?h1 ?_); (case h1 => rfl))
  | with_reducible refine w_augS ?_
  | with_reducible refine w_ipI ?_
  | with_reducible refine w_un ?_
  | with_reducible refine w_U ?_
  | ((with_reducible refine' w_iteF ?f1 ?_); case f1 => (first | (intro h; cases h; done) | decide))
  | ((with_reducible refine' w_iteT ?f1 ?_); case f1 => rfl)
  | ((with_reducible refine' w_iteNF ?f1 ?_); case f1 => rfl)
  | ((with_reducible refine' w_iteNT ?f1 ?_); case f1 => (first | (intro h; cases h; done) | decide))
  | ((with_reducible refine' c_isi ?t1 ?k1 ?_); (case t1 => walk_at "ty"); (case k1 => walk_at "kit"))
  | ((with_reducible refine' w_eq ?e1 ?_); case e1 => rfl)
  | ((with_reducible refine' w_ne ?e1 ?_); case e1 => rfl)
  | walk_at "u1")
local macro_rules | `(tactic| walk_at "s") => `(tactic| repeat walk_at "s1")
local macro_rules | `(tactic| walk_at "mem") => `(tactic| first | with_reducible exact List.mem_cons_self .. | ((with_reducible refine' List.mem_cons_of_mem _ ?q); (case q => walk_at "mem")) | assumption | ((with_reducible refine' List.mem_append_right _ ?q); (case q => walk_at "mem")) | (exact List.mem_append_left _ (by assumption)))
local macro_rules | `(tactic| walk_at "pk") => `(tactic| first | with_reducible exact Pk.here | ((with_reducible refine' Pk.there ?q); (case q => walk_at "pk")) | ((with_reducible refine' Pk.app ?q); (case q => walk_at "pk")))
local macro_rules | `(tactic| walk_at "pkb") => `(tactic| first | with_reducible exact PkB.here | ((with_reducible refine' PkB.there ?q); (case q => walk_at "pkb")) | ((with_reducible refine' PkB.app ?q); (case q => walk_at "pkb")))
local macro_rules | `(tactic| walk_at "spl") => `(tactic| first | with_reducible exact Spl.nil | ((with_reducible refine' Spl.cons ?h ?t); (case h => walk_at "pk"); (case t => walk_at "spl")) | ((with_reducible refine' Spl.blk ?h ?t); (case h => walk_at "pkb"); (case t => walk_at "spl")))
local macro_rules | `(tactic| walk_at "sbx") => `(tactic| first | with_reducible exact Sb.refl | with_reducible exact Sb.nil | with_reducible exact Sb.left | ((with_reducible refine' Sb.cons ?h ?t); (case h => walk_at "pk"); (case t => walk_at "sbx")) | ((with_reducible refine' Sb.blk ?h ?t); (case h => walk_at "pkb"); (case t => walk_at "sbx")) | ((with_reducible refine' Sb.drop ?q); (case q => walk_at "sbx")) | ((with_reducible refine' Sb.right ?q); (case q => walk_at "sbx")))
local macro_rules | `(tactic| walk_at "hd") => `(tactic| first | assumption | exact Hd.sb (by assumption) (by walk_at "sbx"))
local macro_rules | `(tactic| walk_at "sq") => `(tactic| first
  | assumption
  | exact Hd.sqL (by assumption) (by walk_at "mem")
  | exact Hd.sqT (by assumption) (by walk_at "mem")
  | exact Hd.sqF (by assumption) (by walk_at "mem")
  | (refine .inl ?_; walk_at "sq")
  | (refine .inr ?_; walk_at "sq"))
local macro_rules | `(tactic| walk_at "at") => `(tactic| first | rfl | assumption | exact atI_nat (by assumption))
local macro_rules | `(tactic| walk_at "dn1") => `(tactic| first
  | exact Dn.int | exact Dn.str | exact Dn.non | exact Dn.bl | assumption
  | ((refine' Dn.tp ?a1 ?m1 ?l1 ?p1); (case a1 => assumption); (case m1 => walk_at "mem"); (case l1 => (simp only [List.length_cons, List.length_nil]; omega)); (case p1 => walk_at "dns"))
  | ((refine' Dn.lt ?a1 ?m1 ?l1 ?p1); (case a1 => assumption); (case m1 => walk_at "mem"); (case l1 => (simp only [List.length_cons, List.length_nil]; omega)); (case p1 => walk_at "dns")))
local macro_rules | `(tactic| walk_at "dns") => `(tactic| first | exact Paired.nil | exact Dn.ints | ((refine' Paired.cons ?a1 ?b1); (case a1 => walk_at "dn1"); (case b1 => walk_at "dns")))
local macro_rules | `(tactic| walk_at "g1") => `(tactic| first
  | ((with_reducible refine' g_ixI ?h1 ?h2 ?h3 ?_); (case h1 => assumption); (case h2 => walk_at "mem"); (case h3 => omega); intro z hz)
  | ((with_reducible refine' g_ixIT ?h1 ?h2 ?h3 ?_); (case h1 => assumption); (case h2 => walk_at "mem"); (case h3 => omega); intro z hz)
  | ((with_reducible refine' g_setI ?h1 ?h2 ?h3 ?_); (case h1 => assumption); (case h2 => walk_at "pk"); (case h3 => omega); intro H2 hh2)
  | ((with_reducible refine' w_ixL ?h1 ?h2 ?_); (case h1 => walk_at "sq"); (case h2 => walk_at "at"))
  | ((with_reducible refine' w_ixT ?h1 ?h2 ?_); (case h1 => walk_at "sq"); (case h2 => walk_at "at"))
  | ((with_reducible refine' w_ixAny ?h1 ?h2 ?_); (case h1 => walk_at "sq"); (case h2 => walk_at "at"))
  | ((with_reducible refine' c_lenA ?h1 ?_); (case h1 => walk_at "sq"))
  | ((with_reducible refine' c_isi ?t1 ?k1 ?_); (case t1 => first | exact ty_T (by walk_at "sq") | exact ty_L (by walk_at "sq")); (case k1 => walk_at "kit"))
  | ((with_reducible refine' g_lst ?h1 ?h2 ?_); (case h1 => assumption); (case h2 => walk_at "sz"); intro p H2 hh2)
  | ((with_reducible refine' g_tup ?h1 ?h2 ?_); (case h1 => assumption); (case h2 => walk_at "sz"); intro p H2 hh2)
  | ((with_reducible refine' g_dict ?h1 ?_); (case h1 => assumption); intro p H2 hh2)
  | ((with_reducible refine' g_listL ?h1 ?h2 ?_); (case h1 => assumption); (case h2 => walk_at "sq"); intro p H2 hh2)
  | ((with_reducible refine' g_listT ?h1 ?h2 ?_); (case h1 => assumption); (case h2 => walk_at "sq"); intro p H2 hh2)
  | ((with_reducible refine' g_tupL ?h1 ?h2 ?_); (case h1 => assumption); (case h2 => walk_at "sq"); intro p H2 hh2)
  | ((with_reducible refine' g_set ?h1 ?h2 ?h3 ?_); (case h1 => assumption); (case h2 => walk_at "pk"); (case h3 => first | rfl | assumption | exact Evl.ixN_nat (by first | omega | (simp only [List.length_cons, List.length_nil]; omega))); intro H2 hh2)
  | ((with_reducible refine' g_kbm ?h1 ?h2 ?_); (case h1 => assumption); (case h2 => walk_at "mem"))
  | ((with_reducible refine' g_kbm0 ?h1 ?h2 ?_); (case h1 => assumption); (case h2 => walk_at "mem"))
  | ((with_reducible refine' g_app ?h1 ?h2 ?h3 ?_); (case h1 => assumption); (case h2 => walk_at "pk"); (case h3 => walk_at "sz"); intro H2 hh2)
  | ((with_reducible refine' g_kapp ?h1 ?h2 ?h3 ?_); (case h1 => assumption); (case h2 => walk_at "pk"); (case h3 => walk_at "sz"); intro H2 hh2)
  | ((with_reducible refine' g_fld ?h1 ?h2 ?h3 ?h4 ?h5 ?_); (case h1 => assumption); (case h2 => walk_at "mem"); (case h3 => assumption); (case h4 => assumption); (case h5 => rfl))
  | ((with_reducible refine' g_sfld ?h1 ?h2 ?h3 ?h4 ?h5 ?_); (case h1 => assumption); (case h2 => walk_at "pk"); (case h3 => assumption); (case h4 => assumption); (case h5 => decide); intro H2 hh2)
  | ((with_reducible refine' g_meth ?h1 ?h2 ?h3 ?_); (case h1 => assumption); (case h2 => walk_at "mem"); (case h3 => rfl))
  | ((with_reducible refine' g_prop ?h1 ?h2 ?_); (case h1 => assumption); (case h2 => walk_at "mem"))
  | ((with_reducible refine' g_make ?h1 ?_); (case h1 => assumption); intro x H2 hh2)
  | ((with_reducible refine' g_cat ?h1 ?h2 ?h3 ?h4 ?_); (case h1 => assumption); (case h2 => walk_at "mem"); (case h3 => walk_at "mem"); (case h4 => walk_at "sz"); intro p H2 hh2)
  | ((with_reducible refine' g_inT ?h1 ?h2 ?h3 ?h4 ?h5 ?_); (case h1 => assumption); (case h2 => walk_at "mem"); (case h3 => rfl); (case h4 => rfl); (case h5 => rfl)))
local macro_rules | `(tactic| walk_at "gs") => `(tactic| repeat first | walk_at "s1" | walk_at "g1")
local macro_rules | `(tactic| walk_at "ite") => `(tactic| first
  | ((with_reducible refine' w_iteT ?h1 ?_); (case h1 => omega))
  | ((with_reducible refine' w_iteF ?h1 ?_); (case h1 => omega))
  | (with_reducible refine w_ite ?_ ?_ <;> intro hq)
  | ((with_reducible refine' w_iteNT ?h1 ?_); (case h1 => omega))
  | ((with_reducible refine' w_iteNF ?h1 ?_); (case h1 => omega))
  | (with_reducible refine w_iteN ?_ ?_ <;> intro hq))
local macro_rules | `(tactic| walk_at "go") => `(tactic| repeat' first | walk_at "s1" | walk_at "g1" | walk_at "ite")
local macro_rules | `(tactic| walk_at "g1") => `(tactic| first
  | ((with_reducible refine' g_take1 ?h1 ?h2 ?h3 ?h4 ?_); (case h1 => assumption); (case h2 => walk_at "spl"); (case h3 => omega); (case h4 => omega); intro k H2 hk1 hh2)
  | ((with_reducible refine' g_take ?h1 ?h2 ?h4 ?_); (case h1 => assumption); (case h2 => walk_at "spl"); (case h4 => omega); intro k H2 hk1 hh2)
  | ((with_reducible refine' g_betweenN ?h1 ?h2 ?h5 ?h3 ?h4 ?_); (case h1 => assumption); (case h2 => walk_at "spl"); (case h5 => omega); (case h3 => omega); (case h4 => omega); intro k H2 hk1 hk2 hh2)
  | ((with_reducible refine' g_between ?h1 ?h2 ?h3 ?h4 ?_); (case h1 => assumption); (case h2 => walk_at "spl"); (case h3 => omega); (case h4 => omega); intro k H2 hk1 hk2 hh2)
  | ((with_reducible refine' g_size ?h1 ?h2 ?h3 ?h4 ?_); (case h1 => assumption); (case h2 => walk_at "spl"); (case h3 => omega); (case h4 => omega); intro k H2 hk1 hh2)
  | ((with_reducible refine' g_word ?h1 ?h2 ?_); (case h1 => assumption); (case h2 => walk_at "spl"); intro k H2 hk1 hh2))
section
variable {P : Program} {w : World} {K : PySem.W.Frag} {mg : Str → Option Value} {base : Heap} {aREG aOPS : Addr}
def sp_ops (K : PySem.W.Frag) : Sp := fun vs H Q _ => vs = [] ∧ ∀ (p : Addr) (as : List Addr) (H' : Hp), H p = none → H' p = some (.lst (as.map V.ref)) → Paired (fun a r => SqT K H' a [.str r.1, .str r.2]) as opsL → Upt [] H H' → Q (.ref p) H'
theorem c_ops (T : Txt K mg aREG aOPS) (d : DefAt K mg "_law_operations" s__law_operations) : C8.Cal P w K mg base 1 "_law_operations" (sp_ops K) [] := by
  refine mk d sc__law_operations (fun _ _ _ _ _ _ us hl => match us, hl with | [], _ => rfl) (fun vs H Q E h => by rw [h.1]; rfl) (fun f cdv A outer s H vs Q E hr h => ?_)
  · obtain ⟨rfl, k⟩ := h
    refine ⟨_, (pss_cons (ps_set (i := 0) sc__law_operations.nd rfl (Or.inl rfl) (pe_lst (pa_cons (pe_tup (pa_cons pe_str (pa_cons pe_str pa_nil))) (pa_cons (pe_tup (pa_cons pe_str (pa_cons pe_str pa_nil))) (pa_cons (pe_tup (pa_cons pe_str (pa_cons pe_str pa_nil))) (pa_cons (pe_tup (pa_cons pe_str (pa_cons pe_str pa_nil))) (pa_cons (pe_tup (pa_cons pe_str (pa_cons pe_str pa_nil))) (pa_cons (pe_tup (pa_cons pe_str (pa_cons pe_str pa_nil))) (pa_cons (pe_tup (pa_cons pe_str (pa_cons pe_str pa_nil))) pa_nil)))))))))
  (pss_cons (ps_set (i := 0) sc__law_operations.nd rfl (Or.inl rfl) (pe_op op_cat (pv 0) (pe_lst (pa_cons (pe_tup (pa_cons pe_str (pa_cons pe_str pa_nil))) (pa_cons (pe_tup (pa_cons pe_str (pa_cons pe_str pa_nil))) (pa_cons (pe_tup (pa_cons pe_str (pa_cons pe_str pa_nil))) (pa_cons (pe_tup (pa_cons pe_str (pa_cons pe_str pa_nil))) (pa_cons (pe_tup (pa_cons pe_str (pa_cons pe_str pa_nil))) (pa_cons (pe_tup (pa_cons pe_str (pa_cons pe_str pa_nil))) pa_nil)))))))))
  (pss_one (ps_ret (pe_op op_cat (pv 0) (pe_lst (pa_cons (pe_tup (pa_cons pe_str (pa_cons pe_str pa_nil))) (pa_cons (pe_tup (pa_cons pe_str (pa_cons pe_str pa_nil))) (pa_cons (pe_tup (pa_cons pe_str (pa_cons pe_str pa_nil))) pa_nil))))))))), ?_⟩
    walk_at "s"
    refine w_new (by walk_at "sz") fun e0 H1 n_e0 => ?_
    walk_at "s"
    refine w_new (by walk_at "sz") fun e1 H2 n_e1 => ?_
    walk_at "s"
    refine w_new (by walk_at "sz") fun e2 H3 n_e2 => ?_
    walk_at "s"
    refine w_new (by walk_at "sz") fun e3 H4 n_e3 => ?_
    walk_at "s"
    refine w_new (by walk_at "sz") fun e4 H5 n_e4 => ?_
    walk_at "s"
    refine w_new (by walk_at "sz") fun e5 H6 n_e5 => ?_
    walk_at "s"
    refine w_new (by walk_at "sz") fun e6 H7 n_e6 => ?_
    walk_at "s"
    refine w_new (by walk_at "sz") fun l1 H8 n_l1 => ?_
    walk_at "s"
    refine w_new (by walk_at "sz") fun e7 H9 n_e7 => ?_
    walk_at "s"
    refine w_new (by walk_at "sz") fun e8 H10 n_e8 => ?_
    walk_at "s"
    refine w_new (by walk_at "sz") fun e9 H11 n_e9 => ?_
    walk_at "s"
    refine w_new (by walk_at "sz") fun e10 H12 n_e10 => ?_
    walk_at "s"
    refine w_new (by walk_at "sz") fun e11 H13 n_e11 => ?_
    walk_at "s"
    refine w_new (by walk_at "sz") fun e12 H14 n_e12 => ?_
    walk_at "s"
    refine w_new (by walk_at "sz") fun l2 H15 n_l2 => ?_
    walk_at "s"
    refine w_cat (n_l2.keep.at0 (n_e12.keep.at0 (n_e11.keep.at0 (n_e10.keep.at0 (n_e9.keep.at0 (n_e8.keep.at0 (n_e7.keep.at0 (n_l1.at_)))))))) n_l2.at_ (by walk_at "sz") fun l3 H16 n_l3 => ?_
    walk_at "s"
    refine w_new (by walk_at "sz") fun e13 H17 n_e13 => ?_
    walk_at "s"
    refine w_new (by walk_at "sz") fun e14 H18 n_e14 => ?_
    walk_at "s"
    refine w_new (by walk_at "sz") fun e15 H19 n_e15 => ?_
    walk_at "s"
    refine w_new (by walk_at "sz") fun l4 H20 n_l4 => ?_
    walk_at "s"
    refine w_cat (n_l4.keep.at0 (n_e15.keep.at0 (n_e14.keep.at0 (n_e13.keep.at0 (n_l3.at_))))) n_l4.at_ (by walk_at "sz") fun l5 H21 n_l5 => ?_
    walk_at "s"
    exact k l5 [e0, e1, e2, e3, e4, e5, e6, e7, e8, e9, e10, e11, e12, e13, e14, e15] H21 (n_e0.keep.free (by simp) (n_e1.keep.free (by simp) (n_e2.keep.free (by simp) (n_e3.keep.free (by simp) (n_e4.keep.free (by simp) (n_e5.keep.free (by simp) (n_e6.keep.free (by simp) (n_l1.keep.free (by simp) (n_e7.keep.free (by simp) (n_e8.keep.free (by simp) (n_e9.keep.free (by simp) (n_e10.keep.free (by simp) (n_e11.keep.free (by simp) (n_e12.keep.free (by simp) (n_l2.keep.free (by simp) (n_l3.keep.free (by simp) (n_e13.keep.free (by simp) (n_e14.keep.free (by simp) (n_e15.keep.free (by simp) (n_l4.keep.free (by simp) (n_l5.no))))))))))))))))))))) n_l5.at_ (.cons (SqT.of (n_l5.keep.at0 (n_l4.keep.at0 (n_e15.keep.at0 (n_e14.keep.at0 (n_e13.keep.at0 (n_l3.keep.at0 (n_l2.keep.at0 (n_e12.keep.at0 (n_e11.keep.at0 (n_e10.keep.at0 (n_e9.keep.at0 (n_e8.keep.at0 (n_e7.keep.at0 (n_l1.keep.at0 (n_e6.keep.at0 (n_e5.keep.at0 (n_e4.keep.at0 (n_e3.keep.at0 (n_e2.keep.at0 (n_e1.keep.at0 (n_e0.at_)))))))))))))))))))))) (.cons (SqT.of (n_l5.keep.at0 (n_l4.keep.at0 (n_e15.keep.at0 (n_e14.keep.at0 (n_e13.keep.at0 (n_l3.keep.at0 (n_l2.keep.at0 (n_e12.keep.at0 (n_e11.keep.at0 (n_e10.keep.at0 (n_e9.keep.at0 (n_e8.keep.at0 (n_e7.keep.at0 (n_l1.keep.at0 (n_e6.keep.at0 (n_e5.keep.at0 (n_e4.keep.at0 (n_e3.keep.at0 (n_e2.keep.at0 (n_e1.at_))))))))))))))))))))) (.cons (SqT.of (n_l5.keep.at0 (n_l4.keep.at0 (n_e15.keep.at0 (n_e14.keep.at0 (n_e13.keep.at0 (n_l3.keep.at0 (n_l2.keep.at0 (n_e12.keep.at0 (n_e11.keep.at0 (n_e10.keep.at0 (n_e9.keep.at0 (n_e8.keep.at0 (n_e7.keep.at0 (n_l1.keep.at0 (n_e6.keep.at0 (n_e5.keep.at0 (n_e4.keep.at0 (n_e3.keep.at0 (n_e2.at_)))))))))))))))))))) (.cons (SqT.of (n_l5.keep.at0 (n_l4.keep.at0 (n_e15.keep.at0 (n_e14.keep.at0 (n_e13.keep.at0 (n_l3.keep.at0 (n_l2.keep.at0 (n_e12.keep.at0 (n_e11.keep.at0 (n_e10.keep.at0 (n_e9.keep.at0 (n_e8.keep.at0 (n_e7.keep.at0 (n_l1.keep.at0 (n_e6.keep.at0 (n_e5.keep.at0 (n_e4.keep.at0 (n_e3.at_))))))))))))))))))) (.cons (SqT.of (n_l5.keep.at0 (n_l4.keep.at0 (n_e15.keep.at0 (n_e14.keep.at0 (n_e13.keep.at0 (n_l3.keep.at0 (n_l2.keep.at0 (n_e12.keep.at0 (n_e11.keep.at0 (n_e10.keep.at0 (n_e9.keep.at0 (n_e8.keep.at0 (n_e7.keep.at0 (n_l1.keep.at0 (n_e6.keep.at0 (n_e5.keep.at0 (n_e4.at_)))))))))))))))))) (.cons (SqT.of (n_l5.keep.at0 (n_l4.keep.at0 (n_e15.keep.at0 (n_e14.keep.at0 (n_e13.keep.at0 (n_l3.keep.at0 (n_l2.keep.at0 (n_e12.keep.at0 (n_e11.keep.at0 (n_e10.keep.at0 (n_e9.keep.at0 (n_e8.keep.at0 (n_e7.keep.at0 (n_l1.keep.at0 (n_e6.keep.at0 (n_e5.at_))))))))))))))))) (.cons (SqT.of (n_l5.keep.at0 (n_l4.keep.at0 (n_e15.keep.at0 (n_e14.keep.at0 (n_e13.keep.at0 (n_l3.keep.at0 (n_l2.keep.at0 (n_e12.keep.at0 (n_e11.keep.at0 (n_e10.keep.at0 (n_e9.keep.at0 (n_e8.keep.at0 (n_e7.keep.at0 (n_l1.keep.at0 (n_e6.at_)))))))))))))))) (.cons (SqT.of (n_l5.keep.at0 (n_l4.keep.at0 (n_e15.keep.at0 (n_e14.keep.at0 (n_e13.keep.at0 (n_l3.keep.at0 (n_l2.keep.at0 (n_e12.keep.at0 (n_e11.keep.at0 (n_e10.keep.at0 (n_e9.keep.at0 (n_e8.keep.at0 (n_e7.at_)))))))))))))) (.cons (SqT.of (n_l5.keep.at0 (n_l4.keep.at0 (n_e15.keep.at0 (n_e14.keep.at0 (n_e13.keep.at0 (n_l3.keep.at0 (n_l2.keep.at0 (n_e12.keep.at0 (n_e11.keep.at0 (n_e10.keep.at0 (n_e9.keep.at0 (n_e8.at_))))))))))))) (.cons (SqT.of (n_l5.keep.at0 (n_l4.keep.at0 (n_e15.keep.at0 (n_e14.keep.at0 (n_e13.keep.at0 (n_l3.keep.at0 (n_l2.keep.at0 (n_e12.keep.at0 (n_e11.keep.at0 (n_e10.keep.at0 (n_e9.at_)))))))))))) (.cons (SqT.of (n_l5.keep.at0 (n_l4.keep.at0 (n_e15.keep.at0 (n_e14.keep.at0 (n_e13.keep.at0 (n_l3.keep.at0 (n_l2.keep.at0 (n_e12.keep.at0 (n_e11.keep.at0 (n_e10.at_))))))))))) (.cons (SqT.of (n_l5.keep.at0 (n_l4.keep.at0 (n_e15.keep.at0 (n_e14.keep.at0 (n_e13.keep.at0 (n_l3.keep.at0 (n_l2.keep.at0 (n_e12.keep.at0 (n_e11.at_)))))))))) (.cons (SqT.of (n_l5.keep.at0 (n_l4.keep.at0 (n_e15.keep.at0 (n_e14.keep.at0 (n_e13.keep.at0 (n_l3.keep.at0 (n_l2.keep.at0 (n_e12.at_))))))))) (.cons (SqT.of (n_l5.keep.at0 (n_l4.keep.at0 (n_e15.keep.at0 (n_e14.keep.at0 (n_e13.at_)))))) (.cons (SqT.of (n_l5.keep.at0 (n_l4.keep.at0 (n_e15.keep.at0 (n_e14.at_))))) (.cons (SqT.of (n_l5.keep.at0 (n_l4.keep.at0 (n_e15.at_)))) (.nil))))))))))))))))) (n_e0.keep.trans (n_e1.keep.trans (n_e2.keep.trans (n_e3.keep.trans (n_e4.keep.trans (n_e5.keep.trans (n_e6.keep.trans (n_l1.keep.trans (n_e7.keep.trans (n_e8.keep.trans (n_e9.keep.trans (n_e10.keep.trans (n_e11.keep.trans (n_e12.keep.trans (n_l2.keep.trans (n_l3.keep.trans (n_e13.keep.trans (n_e14.keep.trans (n_e15.keep.trans (n_l4.keep.trans (n_l5.keep)))))))))))))))))))))
def opSo (o : Nat) : Str := (opsL.getD o ("", "")).2
def opNm (o : Nat) : Str := (opsL.getD o ("", "")).1
theorem insO_parts {o f l : Nat} (h : o < 16) : insO o f l = .str (opNm o) :: (opSo o).cps.toList.map (insPart f l) := by
  match o, h with
  | 0, _ | 1, _ | 2, _ | 3, _ | 4, _ | 5, _ | 6, _ | 7, _ | 8, _ | 9, _ | 10, _ | 11, _ | 12, _ | 13, _ | 14, _ | 15, _ => rfl
  | _ + 16, h => exact absurd h (by omega)
def codeO (o f l : Nat) : Nat := 4096 * o + (if 82 ∈ (opSo o).cps.toList then 1024 * f else 0) + (if 83 ∈ (opSo o).cps.toList ∨ 78 ∈ (opSo o).cps.toList then l else 0)
theorem nm_key {o : Nat} (ho : o < 16) : (opsL.map fun r => V.str r.1)[o]? = some (.str (opNm o)) ∧ eqV (.str (opNm o)) (.str (opNm o)) = true ∧ ∀ (m : Nat) (z' : V), m < o → (opsL.map fun r => V.str r.1)[m]? = some z' → eqV z' (.str (opNm o)) = false := by
  have k1 : ∀ o : Fin 16, (opsL.map fun r => r.1)[o.1]? = some (opNm o.1) := by decide +kernel
  have k2 : ∀ m o : Fin 16, m < o → eqV (.str (opNm m.1)) (.str (opNm o.1)) = false := by decide +kernel
  have k3 : ∀ o : Nat, o < 16 → (opsL.map fun r => V.str r.1)[o]? = some (.str (opNm o)) := fun o h => by
    have e := k1 ⟨o, h⟩
    rw [List.getElem?_map] at e ⊢
    cases q : opsL[o]? with
    | none => simp only [q] at e; cases e
    | some r => simp only [q] at e ⊢; exact congrArg (fun z => some (V.str z)) (Option.some.inj e)
  refine ⟨k3 o ho, by show (opNm o == opNm o) = true; exact beq_self_eq_true _, fun m z' hm hz => ?_⟩
  rw [k3 m (by omega)] at hz
  cases hz
  exact k2 ⟨m, by omega⟩ ⟨o, ho⟩ hm
theorem so_key {o : Nat} (ho : o < 16) : (opSo o).length ≤ 2 ∧ (opSo o).cps.toList.length ≤ 2 ∧ (∀ c ∈ (opSo o).cps.toList, c = 78 ∨ c = 82 ∨ c = 83) ∧ (83 ∈ (opSo o).cps.toList → 2 ≤ o ∧ o ≤ 10) ∧ (opSo o).cps.toList.Nodup ∧ (83 ∈ (opSo o).cps.toList → 78 ∉ (opSo o).cps.toList) := by
  have k : ∀ o : Fin 16, (opSo o.1).length ≤ 2 ∧ (opSo o.1).cps.toList.length ≤ 2 ∧ (∀ c ∈ (opSo o.1).cps.toList, c = 78 ∨ c = 82 ∨ c = 83) ∧ (83 ∈ (opSo o.1).cps.toList → 2 ≤ o.1 ∧ o.1 ≤ 10) ∧ (opSo o.1).cps.toList.Nodup ∧ (83 ∈ (opSo o.1).cps.toList → 78 ∉ (opSo o.1).cps.toList) := by decide +kernel
  exact k ⟨o, ho⟩
theorem find_reg {f : Nat} (h : f < 4) : Txt.find "abcd" (regL.getD f "") = (f : Int) := by
  match f, h with
  | 0, _ | 1, _ | 2, _ | 3, _ => decide +kernel
def sp_code (K : PySem.W.Frag) : Sp := fun vs H Q _ => ∃ (p : Addr) (o f l : Nat), vs = [.ref p] ∧ o < 16 ∧ f < 4 ∧ (2 ≤ o → o ≤ 10 → l < 4) ∧ SqT K H p (insO o f l) ∧ ∀ H', Upt [] H H' → Q (.int (codeO o f l : Nat)) H'
theorem c_code (T : Txt K mg aREG aOPS) (d : DefAt K mg "_law_code" s__law_code) (c__law_operations : C8.Cal P w K mg base 1 "_law_operations" (sp_ops K) []) : C8.Cal P w K mg base 2 "_law_code" (sp_code K) [] := by
  refine mk d sc__law_code (fun _ _ _ _ _ _ us hl => match us, hl with | [_], _ => rfl) (fun vs H Q E h => ?_) (fun fa cdv A outer s H vs Q E hr h => ?_)
  · obtain ⟨p, o, f, l, rfl, _⟩ := h
    rfl
  · obtain ⟨p, o, f, l, rfl, ho, hf, hl, p0, k⟩ := h
    refine ⟨_, (pss_cons (ps_set (i := 1) sc__law_code.nd rfl (Or.inl rfl) pe_str)
  (pss_cons (ps_set (i := 2) sc__law_code.nd rfl (Or.inl rfl) (pe_bm PySem.F.plainAttrs_list PySem.F.slot_list_index PySem.F.type_list_index mt_index (pe_lc (own := [("row", 7)]) rfl sc__law_code.nd (pi_list (Wk.pe_c0 c__law_operations hr (by first | decide | omega) rfl)) (blkOk_by (own := [("row", 7)]) (N := nm__law_code) (sc := defScope s__law_code) (by decide +kernel)) (fun _ _ _ _ _ => (pg_name (i := 7) sc__law_code.nd rfl (Or.inl rfl))) (fun _ _ _ _ _ => pts_nil) (fun _ _ _ _ _ => (pe_ix (show IxR _ (rIx K) from ix_seq) (pv 7) pe_int (fun _ _ => rfl)))) (pa_cons (pe_ix ix_seq (pv 0) pe_int (fun _ _ => rfl)) pa_nil)))
  (pss_cons (ps_set (i := 3) sc__law_code.nd rfl (Or.inl rfl) (pe_ix ix_seq (pe_ix ix_list (Wk.pe_c0 c__law_operations hr (by first | decide | omega) rfl) (pv 2) (fun _ _ => rfl)) pe_int (fun _ _ => rfl)))
  (pss_cons (ps_set (i := 4) sc__law_code.nd rfl (Or.inl rfl) pe_int)
  (pss_cons (ps_set (i := 5) sc__law_code.nd rfl (Or.inl rfl) pe_int)
  (pss_cons (ps_for PassesOwn.never rfl (pi_range1 rfl T.b_range (pa_cons (pe_callB Wk.b_lenT (by rfl) T.b_len (by decide +kernel) (pa_cons (pv 3) pa_nil)) pa_nil)) (pg_name (i := 6) sc__law_code.nd rfl (Or.inl rfl))
    (pss_one (ps_if (pt_cmpR op_eq (pe_ix ix_str (pv 3) (pv 6) (fun _ _ => rfl)) pe_str (nomark _))
        (pss_one (ps_set (i := 4) sc__law_code.nd rfl (Or.inl rfl) (pe_bm PySem.F.plainAttrs_str PySem.F.slot_str_find PySem.F.type_str_find mt_find (pv 1) (pa_cons (pe_ix ix_seq (pv 0) (pe_op op_add (pv 6) pe_int) (fun _ _ => rfl)) pa_nil))))
        (pss_one (ps_if (pt_cmpR op_eq (pe_ix ix_str (pv 3) (pv 6) (fun _ _ => rfl)) pe_str (nomark _))
            (pss_one (ps_set (i := 5) sc__law_code.nd rfl (Or.inl rfl) (pe_bm PySem.F.plainAttrs_str PySem.F.slot_str_find PySem.F.type_str_find mt_find (pv 1) (pa_cons (pe_ix ix_seq (pv 0) (pe_op op_add (pv 6) pe_int) (fun _ _ => rfl)) pa_nil))))
            (pss_one (ps_set (i := 5) sc__law_code.nd rfl (Or.inl rfl) (pe_ix ix_seq (pv 0) (pe_op op_add (pv 6) pe_int) (fun _ _ => rfl)))))))))
  (pss_one (ps_ret (pe_op op_add (pe_op op_add (pe_op op_mul pe_int (pv 2)) (pe_op op_mul pe_int (pv 4))) (pv 5)))))))))), ?_⟩
    walk_at "s"
    refine ⟨rfl, fun p1 as H1 z1 i1 r1 u1 => ?_⟩
    refine lc_L (SqL.of i1) (fun i D H2 => H2 D = some (.lst ((opsL.take i).map fun r => V.str r.1)) ∧ Upt [] H1 H2 ∧ H1 D = none) (fun D H2 n => ⟨n.at_, n.keep, n.no⟩) (fun i D H2 hi q => (SqL.of i1).upt q.2.1) ?_ ?_
    · rintro i x D H2 hx ⟨hD, u2, zD⟩
      rw [List.getElem?_map] at hx
      cases ha : as[i]? with
      | none => rw [ha] at hx; cases hx
      | some a =>
        rw [ha] at hx
        cases hx
        obtain ⟨r, hr1, hq⟩ := paired_at r1 ha
        walk_at "s"
        refine w_ixAny (.inr (hq.upt u2)) (v := .str r.1) rfl ?_
        refine w_kapp hD (by rw [List.length_map, List.length_take]; exact Nat.lt_of_le_of_lt (Nat.min_le_right _ _) (by decide)) fun H5 g5 => ⟨?_, fun b o nb ho => g5.keep.at1 (fun z => by rw [z, zD] at ho; cases ho) (u2 b o nb ho), zD⟩
        rw [g5.at_, List.take_add_one, hr1]
        simp
    · rintro D H2 ⟨hD, u2, zD⟩
      have la : as.length = 16 := r1.length
      rw [List.length_map, la] at hD
      have hD : H2 D = some (.lst (opsL.map fun r => V.str r.1)) := hD
      have u := u1.trans u2
      walk_at "s"
      refine w_kbm (ty_list (SqL.of hD)) ?_
      walk_at "s"
      refine w_ixAny (.inr (p0.upt u)) (v := .str (opNm o)) (by rw [insO_parts ho]; exact atI_nat (j := 0) rfl) ?_
      walk_at "s"
      refine ⟨D, _, .str (opNm o), o, .str (opNm o), rfl, rfl, SqL.of hD, rfl, by decide +kernel, (nm_key ho).1, (nm_key ho).2.1, (nm_key ho).2.2, ?_⟩
      walk_at "s"
      refine ⟨rfl, fun p2 as2 H3 z3 i3 r3 u3 => ?_⟩
      have la2 : as2.length = 16 := r3.length
      have ha2 := List.getElem?_eq_getElem (show o < as2.length by omega)
      obtain ⟨r, hr1, hq⟩ := paired_at r3 ha2
      have er : r = (opNm o, opSo o) := by
        have e : opsL[o]? = some (opNm o, opSo o) := by unfold opNm opSo; rw [List.getD_eq_getElem?_getD, List.getElem?_eq_getElem (show o < opsL.length from ho)]; rfl
        rw [e] at hr1
        exact (Option.some.inj hr1).symm
      subst er
      walk_at "s"
      refine w_ixL (SqL.of i3) (v := .ref as2[o]) (atI_nat (by rw [List.getElem?_map, ha2]; rfl)) ?_
      walk_at "s"
      refine w_ixAny (.inr hq) (v := .str (opSo o)) rfl ?_
      walk_at "s"
      have sz : (opSo o).length ≤ 2 := (so_key ho).1
      refine c_lenS (Nat.le_trans sz (by decide)) ?_
      walk_at "s"
      have U3 := u.trans u3
      have ik := so_key ho
      have pI := p0.upt U3
      have lz : (opSo o).length = (opSo o).cps.toList.length := by simp [Str.length]
      let F : Nat → Int := fun i => if 82 ∈ (opSo o).cps.toList.take i then (f : Int) else 0
      let L : Nat → Int := fun i => if 83 ∈ (opSo o).cps.toList.take i ∨ 78 ∈ (opSo o).cps.toList.take i then (l : Int) else 0
      refine l_range rfl (by omega) (fun i σ H4 => H4 = H3 ∧ ∃ v, σ = [some (.ref p), some (.str "abcd"), some (.int (o : Int)), some (.str (opSo o)), some (.int (F i)), some (.int (L i)), v, none]) ⟨rfl, none, by simp only [F, L, List.take_zero, List.not_mem_nil, if_false, or_self]; rfl⟩ ?_ ?_
      · rintro i σ H4 hi ⟨rfl, v, rfl⟩
        rw [lz] at hi
        have hc := List.getElem?_eq_getElem hi
        generalize (opSo o).cps.toList[i] = c at hc
        have hcm := List.mem_of_getElem? hc
        have hins : atI (insO o f l) ((i : Int) + 1) = some (insPart f l c) := by
          rw [insO_parts ho, show ((i : Int) + 1) = ((i + 1 : Nat) : Int) by omega]
          exact atI_nat (by rw [List.getElem?_cons_succ, List.getElem?_map, hc]; rfl)
        have tk : ∀ d, d ∈ (opSo o).cps.toList.take (i + 1) ↔ d ∈ (opSo o).cps.toList.take i ∨ d = c := fun d => by
          rw [List.take_add_one, hc]; simp
        walk_at "s"
        refine w_ixS (by rw [lz]; exact Nat.le_trans ik.2.1 (by decide)) (atI_nat hc) ?_
        walk_at "s"
        refine w_ite (fun q1 => ?_) (fun q1 => ?_)
        · have hc2 := (one_eq (z := "R") (d := 82) rfl).mp q1
          subst hc2
          walk_at "s"
          refine w_kbm rfl ?_
          walk_at "s"
          refine w_ixAny (.inr pI) hins ?_
          walk_at "s"
          refine ⟨"abcd", regL.getD f "", rfl, rfl, ?_⟩
          rw [find_reg hf]
          walk_at "s"
          refine ⟨rfl, some (.int (i : Int)), ?_⟩
          have e1 : F (i + 1) = (f : Int) := if_pos ((tk 82).mpr (.inr rfl))
          have e2 : L (i + 1) = L i := by simp only [L, tk]; simp
          rw [e1, e2]
          rfl
        · have hc2 := fun z => q1 ((one_eq (z := "R") (d := 82) rfl).mpr z)
          have e1 : F (i + 1) = F i := by
            have : (82 = c) = False := eq_false fun z => hc2 z.symm
            simp only [F, tk, this, or_false]
          walk_at "s"
          refine w_ixS (by rw [lz]; exact Nat.le_trans ik.2.1 (by decide)) (atI_nat hc) ?_
          walk_at "s"
          refine w_ite (fun q2 => ?_) (fun q2 => ?_)
          · have hc3 := (one_eq (z := "S") (d := 83) rfl).mp q2
            subst hc3
            have hl4 := hl (ik.2.2.2.1 hcm).1 (ik.2.2.2.1 hcm).2
            walk_at "s"
            refine w_kbm rfl ?_
            walk_at "s"
            refine w_ixAny (.inr pI) hins ?_
            walk_at "s"
            refine ⟨"abcd", regL.getD l "", rfl, rfl, ?_⟩
            rw [find_reg hl4]
            walk_at "s"
            refine ⟨rfl, some (.int (i : Int)), ?_⟩
            have e2 : L (i + 1) = (l : Int) := if_pos (.inl ((tk 83).mpr (.inr rfl)))
            rw [e1, e2]
            rfl
          · have hc3 := fun z => q2 ((one_eq (z := "S") (d := 83) rfl).mpr z)
            have hc4 : c = 78 := by
              rcases ik.2.2.1 c hcm with h | h | h
              · exact h
              · exact absurd h hc2
              · exact absurd h hc3
            subst hc4
            walk_at "s"
            refine w_ixAny (.inr pI) hins ?_
            walk_at "s"
            refine ⟨rfl, some (.int (i : Int)), ?_⟩
            have e2 : L (i + 1) = (l : Int) := if_pos (.inr ((tk 78).mpr (.inr rfl)))
            rw [e1, e2]
            rfl
      · rintro σ H4 ⟨rfl, v, rfl⟩
        walk_at "s"
        have e : (4096 * (o : Int) + 1024 * F (opSo o).length + L (opSo o).length) = ((codeO o f l : Nat) : Int) := by
          simp only [F, L, codeO, lz, List.take_length]
          split <;> split <;> omega
        rw [e]
        exact k _ U3
theorem reg_sgn {f : Nat} (hf : f < 4) : ∃ c, (Str.ofString "abcd").cps.toList[f]? = some c ∧ V.str ⟨#[c]⟩ = regV f := by
  match f, hf with
  | 0, _ => exact ⟨97, rfl, by decide +kernel⟩
  | 1, _ => exact ⟨98, rfl, by decide +kernel⟩
  | 2, _ => exact ⟨99, rfl, by decide +kernel⟩
  | 3, _ => exact ⟨100, rfl, by decide +kernel⟩
  | _ + 4, h => exact absurd h (by omega)
theorem g_letter {k : Nat} {H : Hp} {Q : VK} (h1 : k < 4) (q : Q (regV k) H) : rIxS (.str "abcd") (.int k) H Q := by
  obtain ⟨c, hc, e⟩ := reg_sgn h1
  exact w_ixS (by decide +kernel) (atI_nat hc) (by rw [e]; exact q)
local macro_rules | `(tactic| walk_at "g1") => `(tactic| ((with_reducible refine' g_letter ?h1 ?_); (case h1 => omega)))
theorem Hd.cast {c c' : Cell} {L : List Cell} {H : Hp} (h : Hd H (c :: L)) (e : c = c') : Hd H (c' :: L) := e ▸ h
/-- the operations' rows, over the ledger -/
def sp_opsL (K : PySem.W.Frag) : Sp := fun vs H Q _ => ∃ L : List Cell, vs = [] ∧ Hd H L ∧ ∀ (p : Addr) (as : List Addr) (Z : List Cell) (H' : Hp), as.length = 16 → (∀ (i : Nat) (a : Addr) (r : Str × Str), as[i]? = some a → opsL[i]? = some r → ∀ H, Hd H Z → SqT K H a [.str r.1, .str r.2]) → Hd H' (lstC p (as.map V.ref) :: (Z ++ L)) → Q (.ref p) H'
theorem g_ops {H : Hp} {L : List Cell} {Q : VK} {E : XK} (hh : Hd H L) (q : ∀ (p : Addr) (as : List Addr) (Z : List Cell) (H' : Hp), as.length = 16 → (∀ (i : Nat) (a : Addr) (r : Str × Str), as[i]? = some a → opsL[i]? = some r → ∀ H, Hd H Z → SqT K H a [.str r.1, .str r.2]) → Hd H' (lstC p (as.map V.ref) :: (Z ++ L)) → Q (.ref p) H') : sp_opsL K [] H Q E := ⟨L, rfl, hh, q⟩
theorem c_opsL (T : Txt K mg aREG aOPS) (d : DefAt K mg "_law_operations" s__law_operations) : C8.Cal P w K mg base 1 "_law_operations" (sp_opsL K) [] := by
  refine mk d sc__law_operations (fun _ _ _ _ _ _ us hl => match us, hl with | [], _ => rfl) (fun vs H Q E h => by obtain ⟨L, rfl, _⟩ := h; rfl) (fun f cdv A outer s H vs Q E hr h => ?_)
  · obtain ⟨L, rfl, hh, q⟩ := h
    refine ⟨_, (pss_cons (ps_set (i := 0) sc__law_operations.nd rfl (Or.inl rfl) (pe_lst (pa_cons (pe_tup (pa_cons pe_str (pa_cons pe_str pa_nil))) (pa_cons (pe_tup (pa_cons pe_str (pa_cons pe_str pa_nil))) (pa_cons (pe_tup (pa_cons pe_str (pa_cons pe_str pa_nil))) (pa_cons (pe_tup (pa_cons pe_str (pa_cons pe_str pa_nil))) (pa_cons (pe_tup (pa_cons pe_str (pa_cons pe_str pa_nil))) (pa_cons (pe_tup (pa_cons pe_str (pa_cons pe_str pa_nil))) (pa_cons (pe_tup (pa_cons pe_str (pa_cons pe_str pa_nil))) pa_nil)))))))))
  (pss_cons (ps_set (i := 0) sc__law_operations.nd rfl (Or.inl rfl) (pe_op op_cat (pv 0) (pe_lst (pa_cons (pe_tup (pa_cons pe_str (pa_cons pe_str pa_nil))) (pa_cons (pe_tup (pa_cons pe_str (pa_cons pe_str pa_nil))) (pa_cons (pe_tup (pa_cons pe_str (pa_cons pe_str pa_nil))) (pa_cons (pe_tup (pa_cons pe_str (pa_cons pe_str pa_nil))) (pa_cons (pe_tup (pa_cons pe_str (pa_cons pe_str pa_nil))) (pa_cons (pe_tup (pa_cons pe_str (pa_cons pe_str pa_nil))) pa_nil)))))))))
  (pss_one (ps_ret (pe_op op_cat (pv 0) (pe_lst (pa_cons (pe_tup (pa_cons pe_str (pa_cons pe_str pa_nil))) (pa_cons (pe_tup (pa_cons pe_str (pa_cons pe_str pa_nil))) (pa_cons (pe_tup (pa_cons pe_str (pa_cons pe_str pa_nil))) pa_nil))))))))), ?_⟩
    walk_at "gs"
    rename_i e0 _ _ e1 _ _ e2 _ _ e3 _ _ e4 _ _ e5 _ _ e6 _ _ l1 _ _ e7 _ _ e8 _ _ e9 _ _ e10 _ _ e11 _ _ e12 _ _ l2 _ _ l3 _ _ e13 _ _ e14 _ _ e15 _ _ l4 _ _ l5 H21 h21
    exact q l5 [e0, e1, e2, e3, e4, e5, e6, e7, e8, e9, e10, e11, e12, e13, e14, e15] [tupC e0 [.str "halt", .str ""], tupC e1 [.str "set", .str "RN"], tupC e2 [.str "copy", .str "RS"], tupC e3 [.str "load", .str "RS"], tupC e4 [.str "store", .str "RS"], tupC e5 [.str "add", .str "RS"], tupC e6 [.str "sub", .str "RS"], tupC e7 [.str "mul", .str "RS"], tupC e8 [.str "div", .str "RS"], tupC e9 [.str "less", .str "RS"], tupC e10 [.str "same", .str "RS"], tupC e11 [.str "jump", .str "N"], tupC e12 [.str "zero", .str "RN"], tupC e13 [.str "trap", .str "N"], tupC e14 [.str "link", .str "RN"], tupC e15 [.str "back", .str "R"]] H21 rfl (fun i a r ha hr H hZ => by
      have hi : i < 16 := (List.getElem?_eq_some_iff.mp hr).1
      match i, hi with
      | 0, _ | 1, _ | 2, _ | 3, _ | 4, _ | 5, _ | 6, _ | 7, _ | 8, _ | 9, _ | 10, _ | 11, _ | 12, _ | 13, _ | 14, _ | 15, _ =>
        cases ha
        cases hr
        exact hZ.sqT (by walk_at "mem")
      | _ + 16, h => exact absurd h (by omega)) (show Hd H21 (lstC l5 ([e0, e1, e2, e3, e4, e5, e6, e7, e8, e9, e10, e11, e12, e13, e14, e15].map V.ref) :: tupC e0 [.str "halt", .str ""] :: tupC e1 [.str "set", .str "RN"] :: tupC e2 [.str "copy", .str "RS"] :: tupC e3 [.str "load", .str "RS"] :: tupC e4 [.str "store", .str "RS"] :: tupC e5 [.str "add", .str "RS"] :: tupC e6 [.str "sub", .str "RS"] :: tupC e7 [.str "mul", .str "RS"] :: tupC e8 [.str "div", .str "RS"] :: tupC e9 [.str "less", .str "RS"] :: tupC e10 [.str "same", .str "RS"] :: tupC e11 [.str "jump", .str "N"] :: tupC e12 [.str "zero", .str "RN"] :: tupC e13 [.str "trap", .str "N"] :: tupC e14 [.str "link", .str "RN"] :: tupC e15 [.str "back", .str "R"] :: L) from Hd.sb (Hd.cast (c' := lstC l5 ([e0, e1, e2, e3, e4, e5, e6, e7, e8, e9, e10, e11, e12, e13, e14, e15].map V.ref)) h21 rfl) (by walk_at "sbx"))
theorem u_nil {g : TG} {tb : TS} {D : Ends} {σ : L2.St} {H : Hp} (h : D.nx σ H) : unrS g tb D [] σ H := h
theorem u_cons {g : TG} {tb : TS} {D : Ends} {σ : L2.St} {H : Hp} {x : Nat} {cs : List Nat} (h : g (.str ⟨#[x]⟩) σ H fun σ2 H2 => tb { D with nx := unrS g tb D cs, ct := unrS g tb D cs, bk := D.nx } σ2 H2) : unrS g tb D (x :: cs) σ H := h
def InsR (o f l : Nat) : Prop := o < 16 ∧ f < 4 ∧ l ≤ 1023 ∧ (2 ≤ o → o ≤ 10 → l < 4)
def sp_linstr : Sp := fun vs H Q _ => ∃ (st c : Addr) (t : Nat) (R : List Cell), vs = [.ref st, .int t] ∧ t ≤ 1023 ∧ Hd H (stoC st c :: scrC c :: R) ∧ ∀ (p : Addr) (o f l : Nat) (H' : Hp), InsR o f l → Hd H' (tupC p (insO o f l) :: stoC st c :: scrC c :: R) → Q (.ref p) H'
theorem g_linstr {st c : Addr} {t : Nat} {H : Hp} {L R : List Cell} {Q : VK} {E : XK} (hh : Hd H L) (s : Spl L [stoC st c, scrC c] R) (h1 : t ≤ 1023) (q : ∀ (p : Addr) (o f l : Nat) (H' : Hp), InsR o f l → Hd H' (tupC p (insO o f l) :: stoC st c :: scrC c :: R) → Q (.ref p) H') : sp_linstr [.ref st, .int t] H Q E :=
  ⟨st, c, t, R, rfl, h1, hh.spl s, q⟩
theorem g_code {p : Addr} {o f l : Nat} {H : Hp} {L : List Cell} {Q : VK} {E : XK} (hh : Hd H L) (hp : SqT K H p (insO o f l)) (hr : InsR o f l) (q : ∀ (k : Nat) H', k ≤ 65535 → k = codeO o f l → Hd H' L → Q (.int k) H') : sp_code K [.ref p] H Q E := ⟨p, o, f, l, rfl, hr.1, hr.2.1, hr.2.2.2, hp, fun H' u => q _ H' (by
  obtain ⟨h1, h2, h3, _⟩ := hr
  unfold codeO
  split <;> split <;> omega) rfl (hh.upt0 u)⟩
theorem sgnF {a b : Str} {A B : Prop} (h : a ≠ b) (q : B) : if decide (a = b) = true then A else B := by rw [decide_eq_false h]; exact q
theorem sgnT {a b : Str} {A B : Prop} (h : a = b) (q : A) : if decide (a = b) = true then A else B := by rw [decide_eq_true h]; exact q
local macro_rules | `(tactic| walk_at "g1") => `(tactic| first | with_reducible refine u_nil ?_ | with_reducible refine u_cons ?_ | ((with_reducible refine' sgnT ?h1 ?_); (case h1 => decide +kernel)) | ((with_reducible refine' sgnF ?h1 ?_); (case h1 => decide +kernel)))
theorem c_linstr (T : Txt K mg aREG aOPS) (d : DefAt K mg "_law_instruction" s__law_instruction) (c__law_take : C8.Cal P w K mg base 2 "_law_take" sp_take []) (c__law_pick : C8.Cal P w K mg base 3 "_law_pick" (sp_pick K) []) (c__law_between : C8.Cal P w K mg base 3 "_law_between" sp_between []) (c__law_operations : C8.Cal P w K mg base 1 "_law_operations" (sp_opsL K) []) : C8.Cal P w K mg base 4 "_law_instruction" sp_linstr [] := by
  refine mk d sc__law_instruction (fun _ _ _ _ _ _ us hl => match us, hl with | [_, _], _ => rfl) (fun vs H Q E h => ?_) (fun fa cdv A outer s H vs Q E hr h => ?_)
  · obtain ⟨st, c, t, R, rfl, _⟩ := h
    rfl
  · obtain ⟨st, c, t, R, rfl, ht, hh, q⟩ := h
    refine ⟨_, (pss_cons (ps_set (i := 2) sc__law_instruction.nd rfl (Or.inl rfl) pe_str)
  (pss_cons (ps_set (i := 3) sc__law_instruction.nd rfl (Or.inl rfl) (C8.pe_c c__law_pick hr (by first | decide | omega) rfl (pa_cons (pv 0) (pa_cons (Wk.pe_c0 c__law_operations hr (by first | decide | omega) rfl) pa_nil))))
  (pss_cons (ps_set (i := 4) sc__law_instruction.nd rfl (Or.inl rfl) (pe_lst (pa_cons (pe_ix ix_tup (pv 3) pe_int (fun _ _ => rfl)) pa_nil)))
  (pss_cons (ps_for PassesOwn.never rfl (pi_str (pe_ix ix_tup (pv 3) pe_int (fun _ _ => rfl))) (pg_name (i := 5) sc__law_instruction.nd rfl (Or.inl rfl))
    (pss_one (ps_if (pt_cmpR op_eq (pv 5) pe_str (nomark _))
        (pss_one (ps_expr (pe_bm PySem.F.plainAttrs_list PySem.F.slot_list_append PySem.F.type_list_append mt_append (pv 4) (pa_cons (C8.pe_c c__law_between hr (by first | decide | omega) rfl (pa_cons (pv 0) (pa_cons pe_int (pa_cons (pv 1) pa_nil)))) pa_nil))))
        (pss_one (ps_expr (pe_bm PySem.F.plainAttrs_list PySem.F.slot_list_append PySem.F.type_list_append mt_append (pv 4) (pa_cons (pe_ix ix_str (pv 2) (C8.pe_c c__law_take hr (by first | decide | omega) rfl (pa_cons (pv 0) (pa_cons pe_int pa_nil))) (fun _ _ => rfl)) pa_nil)))))))
  (pss_one (ps_ret (pe_callTy Wk.b_tuple (by rfl) T.b_tuple (by decide +kernel) (pa_cons (pv 4) pa_nil)))))))), ?_⟩
    walk_at "gs"
    refine g_ops hh fun p as Z H1 hl hZ h1 => ?_
    walk_at "gs"
    refine g_pick h1 (by walk_at "spl") (by walk_at "mem") (by rw [List.length_map, hl]; decide) (by rw [List.length_map, hl]; decide) fun v H2 hv h2 => ?_
    obtain ⟨a, ha, rfl⟩ := List.mem_map.mp hv
    obtain ⟨o, ho⟩ := List.mem_iff_getElem?.mp ha
    have hlt : o < 16 := by have := (List.getElem?_eq_some_iff.mp ho).1; omega
    have hop : opsL[o]? = some (opNm o, opSo o) := by
      have k : ∀ o : Fin 16, opsL[o.1]? = some (opNm o.1, opSo o.1) := by decide +kernel
      exact k ⟨o, hlt⟩
    have hrow : ∀ {H}, Hd H Z → SqT K H a [.str (opNm o), .str (opSo o)] := fun hz => hZ o a _ ho hop _ hz
    walk_at "gs"
    refine w_ixT (i := 0) (hrow (Hd.sb h2 (by walk_at "sbx"))) rfl ?_
    walk_at "gs"
    rename_i ps H3 h3
    refine w_ixT (i := 1) (hrow (Hd.sb h3 (by walk_at "sbx"))) rfl ?_
    walk_at "gs"
    refine w_unr ?_
    have hs : (opSo o = "" ∧ o = 0) ∨ (opSo o = "RN" ∧ (o = 1 ∨ o = 12 ∨ o = 14)) ∨ (opSo o = "RS" ∧ 2 ≤ o ∧ o ≤ 10) ∨ (opSo o = "N" ∧ (o = 11 ∨ o = 13)) ∨ (opSo o = "R" ∧ o = 15) := by
      have k : ∀ o : Fin 16, (opSo o.1 = "" ∧ o.1 = 0) ∨ (opSo o.1 = "RN" ∧ (o.1 = 1 ∨ o.1 = 12 ∨ o.1 = 14)) ∨ (opSo o.1 = "RS" ∧ 2 ≤ o.1 ∧ o.1 ≤ 10) ∨ (opSo o.1 = "N" ∧ (o.1 = 11 ∨ o.1 = 13)) ∨ (opSo o.1 = "R" ∧ o.1 = 15) := by decide +kernel
      exact k ⟨o, hlt⟩
    have fin : ∀ {p xs H' L0} (f l : Nat), Hd H' (tupC p xs :: L0) → insO o f l = xs → f < 4 → l ≤ 1023 → (2 ≤ o → o ≤ 10 → l < 4) → Sb (stoC st c :: scrC c :: R) L0 → Q (.ref p) H' := fun {p xs H' L0} f l h e h1 h2 h3 s => q p o f l H' ⟨hlt, h1, h2, h3⟩ (e ▸ h.sb (.cons .here s))
    rcases hs with ⟨e, ho⟩ | ⟨e, ho⟩ | ⟨e, ho⟩ | ⟨e, ho⟩ | ⟨e, ho⟩
    all_goals
      rw [e]
    · show unrS _ _ _ [] _ _
      walk_at "gs"
      rename_i h
      exact fin 0 0 h (by subst ho; rfl) (by omega) (by omega) (by omega) (by walk_at "sbx")
    · show unrS _ _ _ [82, 78] _ _
      walk_at "gs"
      rename_i f _ hf _ _ _ l _ _ hl _ _ _ _ _ h
      exact fin f l h (by rcases ho with rfl | rfl | rfl <;> rfl) (by omega) (by omega) (by omega) (by walk_at "sbx")
    · show unrS _ _ _ [82, 83] _ _
      walk_at "gs"
      rename_i f _ hf _ _ _ l _ hl _ _ _ _ _ h
      exact fin f l h (by
        obtain ⟨h1, h2⟩ := ho
        match o, h1, h2 with
        | 2, _, _ | 3, _, _ | 4, _, _ | 5, _, _ | 6, _, _ | 7, _, _ | 8, _, _ | 9, _, _ | 10, _, _ => rfl) (by omega) (by omega) (by omega) (by walk_at "sbx")
    · show unrS _ _ _ [78] _ _
      walk_at "gs"
      rename_i l _ _ hl _ _ _ _ _ h
      exact fin 0 l h (by rcases ho with rfl | rfl <;> rfl) (by omega) (by omega) (by omega) (by walk_at "sbx")
    · show unrS _ _ _ [82] _ _
      walk_at "gs"
      rename_i f _ hf _ _ _ _ _ h
      exact fin f 0 h (by subst ho; rfl) (by omega) (by omega) (by omega) (by walk_at "sbx")
end
end K08
set_option Elab.async false
set_option linter.all false
set_option maxRecDepth 100000
set_option maxHeartbeats 4000000
namespace K08
open PySem PySem.Spec PyProof.Rows L2 Wk
local macro_rules | `(tactic| walk_at "u1") => `(tactic| fail "no more")
local macro_rules | `(tactic| walk_at "pos") => `(tactic| first | assumption | omega | decide | (simp only [Int.ofNat_eq_natCast] at *; omega))
local macro_rules | `(tactic| walk_at "sz") => `(tactic| first
  | (simp only [List.length_cons, List.length_nil]; decide)
  | exact Evl.sz_of (by omega)
  | exact Evl.sz_lt (by omega)
  | exact Evl.sz_of (by simp only [List.length_map, List.length_append, List.length_cons, List.length_nil, List.length_replicate]; omega)
  | exact Evl.sz_lt (by simp only [List.length_map, List.length_append, List.length_cons, List.length_nil, List.length_replicate]; omega))
local macro_rules | `(tactic| walk_at "cond") => `(tactic| first
  | exact Or.inr ⟨by decide, by decide⟩
  | (show (0 : Int) < _; first | decide | assumption | omega)
  | exact Or.inl ⟨by omega, by omega⟩
  | exact Or.inr ⟨by omega, by omega⟩
  | exact ⟨by decide, by decide, by decide⟩
  | exact log2_lt (by omega) (by omega)
  | exact ⟨by omega, by omega⟩)
local macro_rules | `(tactic| walk_at "ty") => `(tactic| first
  | exact ty_int | exact ty_bl | exact ty_str | exact ty_non
  | exact ty_L (by assumption) | exact ty_T (by assumption)
  | exact ty_L (SqL.of (by assumption)) | exact ty_T (SqT.of (by assumption)))
local macro_rules | `(tactic| walk_at "kit") => `(tactic| first
  | exact k_ii | exact k_ib | exact k_is | exact k_il | exact k_it
  | exact k_bb | exact k_bi | exact k_bs | exact k_bl | exact k_bt
  | exact k_ss | exact k_sb | exact k_si | exact k_sl | exact k_st
  | exact k_ll | exact k_lb | exact k_li | exact k_ls | exact k_lt
  | exact k_tt | exact k_tb | exact k_ti | exact k_ts | exact k_tl
  | exact k_nn | exact k_ni | exact k_ns | exact k_nl | exact k_nt)
local macro_rules | `(tactic| walk_at "s1") => `(tactic| first
  | with_reducible refine w_seq ?_
  | with_reducible refine w_set ?_
  | with_reducible refine w_op ?_
  | ((with_reducible refine' w_var ?h1 ?_); (case h1 => rfl))
  | with_reducible refine w_c ?_
  | with_reducible refine w_cb ?_
  | with_reducible refine w_cons ?_
  | with_reducible refine w_nil ?_
  | with_reducible refine w_I0 ?_
  | ((with_reducible refine' w_I ?c1 ?_); case c1 => walk_at "cond")
  | with_reducible refine w_ret ?_
  | with_reducible refine w_next ?_
  | with_reducible refine w_ifS ?_
  | with_reducible refine w_test ?_
  | with_reducible refine w_tB ?_
  | with_reducible refine w_k ?_
  | with_reducible refine w_eqI ?_
  | with_reducible refine w_neI ?_
  | with_reducible refine w_eqS ?_
  | with_reducible refine w_neS ?_
  | with_reducible refine w_and ?_
  | with_reducible refine w_or ?_
  | with_reducible refine w_not ?_
  | with_reducible refine w_andV ?_
  | with_reducible refine w_orV ?_
  | with_reducible refine w_notV ?_
  | with_reducible refine w_ifE ?_
  | with_reducible refine w_true ?_
  | with_reducible refine w_false ?_
  | with_reducible refine w_ntrue ?_
  | with_reducible refine w_nfalse ?_
  | with_reducible refine w_call ?_
  | with_reducible refine c_int ?_
  | with_reducible refine c_abs ?_
  | with_reducible refine c_max ?_
  | with_reducible refine c_min ?_
  | with_reducible refine w_drop ?_
  | with_reducible refine w_sfld ?_
  | with_reducible refine w_meth ?_
  | with_reducible refine w_make ?_
  | with_reducible refine w_prop ?_
  | with_reducible refine w_callK ?_
  | with_reducible refine w_callN ?_
  | with_reducible refine w_star ?_
  | with_reducible refine w_gcons ?_
  | with_reducible refine w_gname ?_
  | with_reducible refine w_gnil ?_
  | with_reducible refine w_retN ?_
  | with_reducible refine w_tup ?_
  | with_reducible refine w_lst ?_
  | with_reducible refine w_fld ?_
  | with_reducible refine w_bm ?_
  | with_reducible refine w_bm0 ?_
  | with_reducible refine w_forL ?_
  | with_reducible refine w_forT ?_
  | with_reducible refine w_forS ?_
  | with_reducible refine w_forR ?_
  | with_reducible refine w_lcR ?_
  | with_reducible refine w_lcL ?_
  | with_reducible refine w_lcT ?_
  | with_reducible refine w_isN ?_
  | with_reducible refine w_notN ?_
  | with_reducible refine w_asg ?_
  | with_reducible refine w_gsub ?_
  | ((with_reducible refine' w_aug ?h1 ?_); (case h1 => rfl))
  | with_reducible refine w_augS ?_
  | with_reducible refine w_ipI ?_
  | with_reducible refine w_un ?_
  | with_reducible refine w_U ?_
  | ((with_reducible refine' w_iteF ?f1 ?_); case f1 => (first | (intro h; cases h; done) | decide))
  | ((with_reducible refine' w_iteT ?f1 ?_); case f1 => rfl)
  | ((with_reducible refine' w_iteNF ?f1 ?_); case f1 => rfl)
  | ((with_reducible refine' w_iteNT ?f1 ?_); case f1 => (first | (intro h; cases h; done) | decide))
  | ((with_reducible refine' c_isi ?t1 ?k1 ?_); (case t1 => walk_at "ty"); (case k1 => walk_at "kit"))
  | ((with_reducible refine' w_eq ?e1 ?_); case e1 => rfl)
  | ((with_reducible refine' w_ne ?e1 ?_); case e1 => rfl)
  | walk_at "u1")
local macro_rules | `(tactic| walk_at "s") => `(tactic| repeat walk_at "s1")
local macro_rules | `(tactic| walk_at "mem") => `(tactic| first | with_reducible exact List.mem_cons_self .. | ((with_reducible refine' List.mem_cons_of_mem _ ?q); (case q => walk_at "mem")) | assumption | ((with_reducible refine' List.mem_append_right _ ?q); (case q => walk_at "mem")) | (exact List.mem_append_left _ (by assumption)))
local macro_rules | `(tactic| walk_at "pk") => `(tactic| first | with_reducible exact Pk.here | ((with_reducible refine' Pk.there ?q); (case q => walk_at "pk")) | ((with_reducible refine' Pk.app ?q); (case q => walk_at "pk")))
local macro_rules | `(tactic| walk_at "pkb") => `(tactic| first | with_reducible exact PkB.here | ((with_reducible refine' PkB.there ?q); (case q => walk_at "pkb")) | ((with_reducible refine' PkB.app ?q); (case q => walk_at "pkb")))
local macro_rules | `(tactic| walk_at "spl") => `(tactic| first | with_reducible exact Spl.nil | ((with_reducible refine' Spl.cons ?h ?t); (case h => walk_at "pk"); (case t => walk_at "spl")) | ((with_reducible refine' Spl.blk ?h ?t); (case h => walk_at "pkb"); (case t => walk_at "spl")))
local macro_rules | `(tactic| walk_at "sbx") => `(tactic| first | with_reducible exact Sb.refl | with_reducible exact Sb.nil | with_reducible exact Sb.left | ((with_reducible refine' Sb.cons ?h ?t); (case h => walk_at "pk"); (case t => walk_at "sbx")) | ((with_reducible refine' Sb.blk ?h ?t); (case h => walk_at "pkb"); (case t => walk_at "sbx")) | ((with_reducible refine' Sb.drop ?q); (case q => walk_at "sbx")) | ((with_reducible refine' Sb.right ?q); (case q => walk_at "sbx")))
local macro_rules | `(tactic| walk_at "hd") => `(tactic| first | assumption | exact Hd.sb (by assumption) (by walk_at "sbx"))
local macro_rules | `(tactic| walk_at "sq") => `(tactic| first
  | assumption
  | exact Hd.sqL (by assumption) (by walk_at "mem")
  | exact Hd.sqT (by assumption) (by walk_at "mem")
  | exact Hd.sqF (by assumption) (by walk_at "mem")
  | (refine .inl ?_; walk_at "sq")
  | (refine .inr ?_; walk_at "sq"))
local macro_rules | `(tactic| walk_at "at") => `(tactic| first | rfl | assumption | exact atI_nat (by assumption))
local macro_rules | `(tactic| walk_at "dn1") => `(tactic| first
  | exact Dn.int | exact Dn.str | exact Dn.non | exact Dn.bl | assumption
  | ((refine' Dn.tp ?a1 ?m1 ?l1 ?p1); (case a1 => assumption); (case m1 => walk_at "mem"); (case l1 => (simp only [List.length_cons, List.length_nil]; omega)); (case p1 => walk_at "dns"))
  | ((refine' Dn.lt ?a1 ?m1 ?l1 ?p1); (case a1 => assumption); (case m1 => walk_at "mem"); (case l1 => (simp only [List.length_cons, List.length_nil]; omega)); (case p1 => walk_at "dns")))
local macro_rules | `(tactic| walk_at "dns") => `(tactic| first | exact Paired.nil | exact Dn.ints | ((refine' Paired.cons ?a1 ?b1); (case a1 => walk_at "dn1"); (case b1 => walk_at "dns")))
local macro_rules | `(tactic| walk_at "g1") => `(tactic| first
  | ((with_reducible refine' g_ixI ?h1 ?h2 ?h3 ?_); (case h1 => assumption); (case h2 => walk_at "mem"); (case h3 => omega); intro z hz)
  | ((with_reducible refine' g_ixIT ?h1 ?h2 ?h3 ?_); (case h1 => assumption); (case h2 => walk_at "mem"); (case h3 => omega); intro z hz)
  | ((with_reducible refine' g_setI ?h1 ?h2 ?h3 ?_); (case h1 => assumption); (case h2 => walk_at "pk"); (case h3 => omega); intro H2 hh2)
  | ((with_reducible refine' w_ixL ?h1 ?h2 ?_); (case h1 => walk_at "sq"); (case h2 => walk_at "at"))
  | ((with_reducible refine' w_ixT ?h1 ?h2 ?_); (case h1 => walk_at "sq"); (case h2 => walk_at "at"))
  | ((with_reducible refine' w_ixAny ?h1 ?h2 ?_); (case h1 => walk_at "sq"); (case h2 => walk_at "at"))
  | ((with_reducible refine' c_lenA ?h1 ?_); (case h1 => walk_at "sq"))
  | ((with_reducible refine' c_isi ?t1 ?k1 ?_); (case t1 => first | exact ty_T (by walk_at "sq") | exact ty_L (by walk_at "sq")); (case k1 => walk_at "kit"))
  | ((with_reducible refine' g_lst ?h1 ?h2 ?_); (case h1 => assumption); (case h2 => walk_at "sz"); intro p H2 hh2)
  | ((with_reducible refine' g_tup ?h1 ?h2 ?_); (case h1 => assumption); (case h2 => walk_at "sz"); intro p H2 hh2)
  | ((with_reducible refine' g_dict ?h1 ?_); (case h1 => assumption); intro p H2 hh2)
  | ((with_reducible refine' g_listL ?h1 ?h2 ?_); (case h1 => assumption); (case h2 => walk_at "sq"); intro p H2 hh2)
  | ((with_reducible refine' g_listT ?h1 ?h2 ?_); (case h1 => assumption); (case h2 => walk_at "sq"); intro p H2 hh2)
  | ((with_reducible refine' g_tupL ?h1 ?h2 ?_); (case h1 => assumption); (case h2 => walk_at "sq"); intro p H2 hh2)
  | ((with_reducible refine' g_set ?h1 ?h2 ?h3 ?_); (case h1 => assumption); (case h2 => walk_at "pk"); (case h3 => first | rfl | assumption | exact Evl.ixN_nat (by first | omega | (simp only [List.length_cons, List.length_nil]; omega))); intro H2 hh2)
  | ((with_reducible refine' g_kbm ?h1 ?h2 ?_); (case h1 => assumption); (case h2 => walk_at "mem"))
  | ((with_reducible refine' g_kbm0 ?h1 ?h2 ?_); (case h1 => assumption); (case h2 => walk_at "mem"))
  | ((with_reducible refine' g_app ?h1 ?h2 ?h3 ?_); (case h1 => assumption); (case h2 => walk_at "pk"); (case h3 => walk_at "sz"); intro H2 hh2)
  | ((with_reducible refine' g_kapp ?h1 ?h2 ?h3 ?_); (case h1 => assumption); (case h2 => walk_at "pk"); (case h3 => walk_at "sz"); intro H2 hh2)
  | ((with_reducible refine' g_fld ?h1 ?h2 ?h3 ?h4 ?h5 ?_); (case h1 => assumption); (case h2 => walk_at "mem"); (case h3 => assumption); (case h4 => assumption); (case h5 => rfl))
  | ((with_reducible refine' g_sfld ?h1 ?h2 ?h3 ?h4 ?h5 ?_); (case h1 => assumption); (case h2 => walk_at "pk"); (case h3 => assumption); (case h4 => assumption); (case h5 => decide); intro H2 hh2)
  | ((with_reducible refine' g_meth ?h1 ?h2 ?h3 ?_); (case h1 => assumption); (case h2 => walk_at "mem"); (case h3 => rfl))
  | ((with_reducible refine' g_prop ?h1 ?h2 ?_); (case h1 => assumption); (case h2 => walk_at "mem"))
  | ((with_reducible refine' g_make ?h1 ?_); (case h1 => assumption); intro x H2 hh2)
  | ((with_reducible refine' g_cat ?h1 ?h2 ?h3 ?h4 ?_); (case h1 => assumption); (case h2 => walk_at "mem"); (case h3 => walk_at "mem"); (case h4 => walk_at "sz"); intro p H2 hh2)
  | ((with_reducible refine' g_inT ?h1 ?h2 ?h3 ?h4 ?h5 ?_); (case h1 => assumption); (case h2 => walk_at "mem"); (case h3 => rfl); (case h4 => rfl); (case h5 => rfl)))
local macro_rules | `(tactic| walk_at "gs") => `(tactic| repeat first | walk_at "s1" | walk_at "g1")
local macro_rules | `(tactic| walk_at "ite") => `(tactic| first
  | ((with_reducible refine' w_iteT ?h1 ?_); (case h1 => omega))
  | ((with_reducible refine' w_iteF ?h1 ?_); (case h1 => omega))
  | (with_reducible refine w_ite ?_ ?_ <;> intro hq)
  | ((with_reducible refine' w_iteNT ?h1 ?_); (case h1 => omega))
  | ((with_reducible refine' w_iteNF ?h1 ?_); (case h1 => omega))
  | (with_reducible refine w_iteN ?_ ?_ <;> intro hq))
local macro_rules | `(tactic| walk_at "go") => `(tactic| repeat' first | walk_at "s1" | walk_at "g1" | walk_at "ite")
local macro_rules | `(tactic| walk_at "g1") => `(tactic| first
  | ((with_reducible refine' g_take1 ?h1 ?h2 ?h3 ?h4 ?_); (case h1 => assumption); (case h2 => walk_at "spl"); (case h3 => omega); (case h4 => omega); intro k H2 hk1 hh2)
  | ((with_reducible refine' g_take ?h1 ?h2 ?h4 ?_); (case h1 => assumption); (case h2 => walk_at "spl"); (case h4 => omega); intro k H2 hk1 hh2)
  | ((with_reducible refine' g_betweenN ?h1 ?h2 ?h5 ?h3 ?h4 ?_); (case h1 => assumption); (case h2 => walk_at "spl"); (case h5 => omega); (case h3 => omega); (case h4 => omega); intro k H2 hk1 hk2 hh2)
  | ((with_reducible refine' g_between ?h1 ?h2 ?h3 ?h4 ?_); (case h1 => assumption); (case h2 => walk_at "spl"); (case h3 => omega); (case h4 => omega); intro k H2 hk1 hk2 hh2)
  | ((with_reducible refine' g_size ?h1 ?h2 ?h3 ?h4 ?_); (case h1 => assumption); (case h2 => walk_at "spl"); (case h3 => omega); (case h4 => omega); intro k H2 hk1 hh2)
  | ((with_reducible refine' g_word ?h1 ?h2 ?_); (case h1 => assumption); (case h2 => walk_at "spl"); intro k H2 hk1 hh2))
section
variable {P : Program} {w : World} {K : PySem.W.Frag} {mg : Str → Option Value} {base : Heap} {aREG aOPS : Addr}
/-- v is no integer from lo to hi; what it is made of stands in Z -/
def WrongD (K : PySem.W.Frag) (Z : List Cell) (lo hi : Int) (v : V) : Prop := isR v lo hi = false ∧ ∃ d, Zc K Z 1 v d
def sp_wrongD (K : PySem.W.Frag) : Sp := fun vs H Q _ => ∃ (st c : Addr) (lo hi : Int) (R : List Cell), vs = [.ref st, .int lo, .int hi] ∧ 0 ≤ lo ∧ lo ≤ hi ∧ hi ≤ 65535 ∧ Hd H (stoC st c :: scrC c :: R) ∧
  ∀ (v : V) (Z : List Cell) (H' : Hp), WrongD K Z lo hi v → Hd H' (stoC st c :: scrC c :: (Z ++ R)) → Q v H'
theorem g_wrongD {st c : Addr} {lo hi : Int} {H : Hp} {L R : List Cell} {Q : VK} {E : XK} (hh : Hd H L) (s : Spl L [stoC st c, scrC c] R) (h0 : 0 ≤ lo) (h1 : lo ≤ hi) (h2 : hi ≤ 65535) (q : ∀ (v : V) (Z : List Cell) (H' : Hp), WrongD K Z lo hi v → Hd H' (stoC st c :: scrC c :: (Z ++ R)) → Q v H') : sp_wrongD K [.ref st, .int lo, .int hi] H Q E :=
  ⟨st, c, lo, hi, R, rfl, h0, h1, h2, hh.spl s, q⟩
theorem c_wrongD (T : Txt K mg aREG aOPS) (d : DefAt K mg "_law_wrong_integer" s__law_wrong_integer) (c__law_take : C8.Cal P w K mg base 2 "_law_take" sp_take []) (c__law_pick : C8.Cal P w K mg base 3 "_law_pick" (sp_pick K) []) : C8.Cal P w K mg base 4 "_law_wrong_integer" (sp_wrongD K) [] := by
  refine mk d sc__law_wrong_integer (fun _ _ _ _ _ _ us hl => match us, hl with | [_, _, _], _ => rfl) (fun vs H Q E h => ?_) (fun fa cdv A outer s H vs Q E hr h => ?_)
  · obtain ⟨st, c, lo, hi, R, rfl, _⟩ := h
    rfl
  · obtain ⟨st, c, lo, hi, R, rfl, h0, h1, h2, hh, q⟩ := h
    refine ⟨_, (pss_cons (ps_set (i := 3) sc__law_wrong_integer.nd rfl (Or.inl rfl) (pe_lst (pa_cons (pe_op op_sub (pv 1) pe_int) (pa_cons (pe_op op_add (pv 2) pe_int) (pa_cons (pe_un un_neg pe_int) (pa_cons pe_int pa_nil))))))
  (pss_cons (ps_set (i := 4) sc__law_wrong_integer.nd rfl (Or.inl rfl) (pe_lst (pa_cons pe_bl (pa_cons pe_bl (pa_cons pe_non (pa_cons (pe_callTy call_str_int (by rfl) T.b_str (by decide +kernel) (pa_cons (pv 1) pa_nil)) (pa_cons pe_str (pa_cons pe_str (pa_cons (pe_lst pa_nil) (pa_cons (pe_lst (pa_cons (pv 1) pa_nil)) (pa_cons (pe_tup (pa_cons (pv 2) pa_nil)) (pa_cons (pe_tup pa_nil) pa_nil))))))))))))
  (pss_cons (ps_if (pt_cmpR op_eq (C8.pe_c c__law_take hr (by first | decide | omega) rfl (pa_cons (pv 0) (pa_cons pe_int pa_nil))) pe_int (nomark _))
    (pss_one (ps_ret (C8.pe_c c__law_pick hr (by first | decide | omega) rfl (pa_cons (pv 0) (pa_cons (pv 3) pa_nil)))))
    pss_nil)
  (pss_one (ps_ret (C8.pe_c c__law_pick hr (by first | decide | omega) rfl (pa_cons (pv 0) (pa_cons (pv 4) pa_nil)))))))), ?_⟩
    walk_at "go"
    have lg : lo.natAbs.log2 < 1920 := by
      rcases Nat.eq_zero_or_pos lo.natAbs with z | z
      · rw [z]; decide
      · exact Nat.lt_trans ((Nat.log2_lt (by omega)).mpr (show lo.natAbs < 2 ^ 17 by omega)) (by decide)
    refine ⟨lo, rfl, lg, ?_⟩
    walk_at "go"
    · refine g_pick (by assumption) (by walk_at "spl") (by walk_at "mem") (by simp) (by simp) fun v H4 hv h4 => ?_
      refine q v [_, _, _, _, _, _] H4 ?_ h4
      simp only [List.mem_cons, List.not_mem_nil, or_false] at hv
      rcases hv with rfl | rfl | rfl | rfl
      all_goals exact ⟨decide_eq_false (by omega), _, fun H hz => Dn.int⟩
    · refine g_pick (by assumption) (by walk_at "spl") (by walk_at "mem") (by simp) (by simp) fun v H4 hv h4 => ?_
      refine q v [_, _, _, _, _, _] H4 ?_ h4
      simp only [List.mem_cons, List.not_mem_nil, or_false] at hv
      rcases hv with rfl | rfl | rfl | rfl | rfl | rfl | rfl | rfl | rfl | rfl
      · exact ⟨rfl, _, fun H hz => Dn.bl⟩
      · exact ⟨rfl, _, fun H hz => Dn.bl⟩
      · exact ⟨rfl, _, fun H hz => Dn.non⟩
      · exact ⟨rfl, _, fun H hz => Dn.str⟩
      · exact ⟨rfl, _, fun H hz => Dn.str⟩
      · exact ⟨rfl, _, fun H hz => Dn.str⟩
      · exact ⟨rfl, .list [], fun H hz => Dn.lt (n := 0) hz (by walk_at "mem") (by simp) .nil⟩
      · exact ⟨rfl, .list [.int lo], fun H hz => Dn.lt (n := 0) hz (by walk_at "mem") (by simp) (.cons (Dn.sc (.int _)) .nil)⟩
      · exact ⟨rfl, .tuple [.int hi], fun H hz => Dn.tp (n := 0) hz (by walk_at "mem") (by simp) (.cons (Dn.sc (.int _)) .nil)⟩
      · exact ⟨rfl, .tuple [], fun H hz => Dn.tp (n := 0) hz (by walk_at "mem") (by simp) .nil⟩
end
end K08
set_option Elab.async false
set_option linter.all false
set_option maxRecDepth 100000
set_option maxHeartbeats 4000000
namespace K08
open PySem PySem.Spec PyProof.Rows L2 Wk
local macro_rules | `(tactic| walk_at "u1") => `(tactic| fail "no more")
local macro_rules | `(tactic| walk_at "pos") => `(tactic| first | assumption | omega | decide | (simp only [Int.ofNat_eq_natCast] at *; omega))
local macro_rules | `(tactic| walk_at "sz") => `(tactic| first
  | (simp only [List.length_cons, List.length_nil]; decide)
  | exact Evl.sz_of (by omega)
  | exact Evl.sz_lt (by omega)
  | exact Evl.sz_of (by simp only [List.length_map, List.length_append, List.length_cons, List.length_nil, List.length_replicate]; omega)
  | exact Evl.sz_lt (by simp only [List.length_map, List.length_append, List.length_cons, List.length_nil, List.length_replicate]; omega))
local macro_rules | `(tactic| walk_at "cond") => `(tactic| first
  | exact Or.inr ⟨by decide, by decide⟩
  | (show (0 : Int) < _; first | decide | assumption | omega)
  | exact Or.inl ⟨by omega, by omega⟩
  | exact Or.inr ⟨by omega, by omega⟩
  | exact ⟨by decide, by decide, by decide⟩
  | exact log2_lt (by omega) (by omega)
  | exact ⟨by omega, by omega⟩)
local macro_rules | `(tactic| walk_at "ty") => `(tactic| first
  | exact ty_int | exact ty_bl | exact ty_str | exact ty_non
  | exact ty_L (by assumption) | exact ty_T (by assumption)
  | exact ty_L (SqL.of (by assumption)) | exact ty_T (SqT.of (by assumption)))
local macro_rules | `(tactic| walk_at "kit") => `(tactic| first
  | exact k_ii | exact k_ib | exact k_is | exact k_il | exact k_it
  | exact k_bb | exact k_bi | exact k_bs | exact k_bl | exact k_bt
  | exact k_ss | exact k_sb | exact k_si | exact k_sl | exact k_st
  | exact k_ll | exact k_lb | exact k_li | exact k_ls | exact k_lt
  | exact k_tt | exact k_tb | exact k_ti | exact k_ts | exact k_tl
  | exact k_nn | exact k_ni | exact k_ns | exact k_nl | exact k_nt)
local macro_rules | `(tactic| walk_at "s1") => `(tactic| first
  | with_reducible refine w_seq ?_
  | with_reducible refine w_set ?_
  | with_reducible refine w_op ?_
  | ((with_reducible refine' w_var ?h1 ?_); (case h1 => rfl))
  | with_reducible refine w_c ?_
  | with_reducible refine w_cb ?_
  | with_reducible refine w_cons ?_
  | with_reducible refine w_nil ?_
  | with_reducible refine w_I0 ?_
  | ((with_reducible refine' w_I ?c1 ?_); case c1 => walk_at "cond")
  | with_reducible refine w_ret ?_
  | with_reducible refine w_next ?_
  | with_reducible refine w_ifS ?_
  | with_reducible refine w_test ?_
  | with_reducible refine w_tB ?_
  | with_reducible refine w_k ?_
  | with_reducible refine w_eqI ?_
  | with_reducible refine w_neI ?_
  | with_reducible refine w_eqS ?_
  | with_reducible refine w_neS ?_
  | with_reducible refine w_and ?_
  | with_reducible refine w_or ?_
  | with_reducible refine w_not ?_
  | with_reducible refine w_andV ?_
  | with_reducible refine w_orV ?_
  | with_reducible refine w_notV ?_
  | with_reducible refine w_ifE ?_
  | with_reducible refine w_true ?_
  | with_reducible refine w_false ?_
  | with_reducible refine w_ntrue ?_
  | with_reducible refine w_nfalse ?_
  | with_reducible refine w_call ?_
  | with_reducible refine c_int ?_
  | with_reducible refine c_abs ?_
  | with_reducible refine c_max ?_
  | with_reducible refine c_min ?_
  | with_reducible refine w_drop ?_
  | with_reducible refine w_sfld ?_
  | with_reducible refine w_meth ?_
  | with_reducible refine w_make ?_
  | with_reducible refine w_prop ?_
  | with_reducible refine w_callK ?_
  | with_reducible refine w_callN ?_
  | with_reducible refine w_star ?_
  | with_reducible refine w_gcons ?_
  | with_reducible refine w_gname ?_
  | with_reducible refine w_gnil ?_
  | with_reducible refine w_retN ?_
  | with_reducible refine w_tup ?_
  | with_reducible refine w_lst ?_
  | with_reducible refine w_fld ?_
  | with_reducible refine w_bm ?_
  | with_reducible refine w_bm0 ?_
  | with_reducible refine w_forL ?_
  | with_reducible refine w_forT ?_
  | with_reducible refine w_forS ?_
  | with_reducible refine w_forR ?_
  | with_reducible refine w_lcR ?_
  | with_reducible refine w_lcL ?_
  | with_reducible refine w_lcT ?_
  | with_reducible refine w_isN ?_
  | with_reducible refine w_notN ?_
  | with_reducible refine w_asg ?_
  | with_reducible refine w_gsub ?_
  | ((with_reducible refine' w_aug ?h1 ?_); (case h1 => rfl))
  | with_reducible refine w_augS ?_
  | with_reducible refine w_ipI ?_
  | with_reducible refine w_un ?_
  | with_reducible refine w_U ?_
  | ((with_reducible refine' w_iteF ?f1 ?_); case f1 => (first | (intro h; cases h; done) | decide))
  | ((with_reducible refine' w_iteT ?f1 ?_); case f1 => rfl)
  | ((with_reducible refine' w_iteNF ?f1 ?_); case f1 => rfl)
  | ((with_reducible refine' w_iteNT ?f1 ?_); case f1 => (first | (intro h; cases h; done) | decide))
  | ((with_reducible refine' c_isi ?t1 ?k1 ?_); (case t1 => walk_at "ty"); (case k1 => walk_at "kit"))
  | ((with_reducible refine' w_eq ?e1 ?_); case e1 => rfl)
  | ((with_reducible refine' w_ne ?e1 ?_); case e1 => rfl)
  | walk_at "u1")
local macro_rules | `(tactic| walk_at "s") => `(tactic| repeat walk_at "s1")
local macro_rules | `(tactic| walk_at "mem") => `(tactic| first | with_reducible exact List.mem_cons_self .. | ((with_reducible refine' List.mem_cons_of_mem _ ?q); (case q => walk_at "mem")) | assumption | ((with_reducible refine' List.mem_append_right _ ?q); (case q => walk_at "mem")) | (exact List.mem_append_left _ (by assumption)))
local macro_rules | `(tactic| walk_at "pk") => `(tactic| first | with_reducible exact Pk.here | ((with_reducible refine' Pk.there ?q); (case q => walk_at "pk")) | ((with_reducible refine' Pk.app ?q); (case q => walk_at "pk")))
local macro_rules | `(tactic| walk_at "pkb") => `(tactic| first | with_reducible exact PkB.here | ((with_reducible refine' PkB.there ?q); (case q => walk_at "pkb")) | ((with_reducible refine' PkB.app ?q); (case q => walk_at "pkb")))
local macro_rules | `(tactic| walk_at "spl") => `(tactic| first | with_reducible exact Spl.nil | ((with_reducible refine' Spl.cons ?h ?t); (case h => walk_at "pk"); (case t => walk_at "spl")) | ((with_reducible refine' Spl.blk ?h ?t); (case h => walk_at "pkb"); (case t => walk_at "spl")))
local macro_rules | `(tactic| walk_at "sbx") => `(tactic| first | with_reducible exact Sb.refl | with_reducible exact Sb.nil | with_reducible exact Sb.left | ((with_reducible refine' Sb.cons ?h ?t); (case h => walk_at "pk"); (case t => walk_at "sbx")) | ((with_reducible refine' Sb.blk ?h ?t); (case h => walk_at "pkb"); (case t => walk_at "sbx")) | ((with_reducible refine' Sb.drop ?q); (case q => walk_at "sbx")) | ((with_reducible refine' Sb.right ?q); (case q => walk_at "sbx")))
local macro_rules | `(tactic| walk_at "hd") => `(tactic| first | assumption | exact Hd.sb (by assumption) (by walk_at "sbx"))
local macro_rules | `(tactic| walk_at "sq") => `(tactic| first
  | assumption
  | exact Hd.sqL (by assumption) (by walk_at "mem")
  | exact Hd.sqT (by assumption) (by walk_at "mem")
  | exact Hd.sqF (by assumption) (by walk_at "mem")
  | (refine .inl ?_; walk_at "sq")
  | (refine .inr ?_; walk_at "sq"))
local macro_rules | `(tactic| walk_at "at") => `(tactic| first | rfl | assumption | exact atI_nat (by assumption))
local macro_rules | `(tactic| walk_at "dn1") => `(tactic| first
  | exact Dn.int | exact Dn.str | exact Dn.non | exact Dn.bl | assumption
  | ((refine' Dn.tp ?a1 ?m1 ?l1 ?p1); (case a1 => assumption); (case m1 => walk_at "mem"); (case l1 => (simp only [List.length_cons, List.length_nil]; omega)); (case p1 => walk_at "dns"))
  | ((refine' Dn.lt ?a1 ?m1 ?l1 ?p1); (case a1 => assumption); (case m1 => walk_at "mem"); (case l1 => (simp only [List.length_cons, List.length_nil]; omega)); (case p1 => walk_at "dns")))
local macro_rules | `(tactic| walk_at "dns") => `(tactic| first | exact Paired.nil | exact Dn.ints | ((refine' Paired.cons ?a1 ?b1); (case a1 => walk_at "dn1"); (case b1 => walk_at "dns")))
local macro_rules | `(tactic| walk_at "g1") => `(tactic| first
  | ((with_reducible refine' g_ixI ?h1 ?h2 ?h3 ?_); (case h1 => assumption); (case h2 => walk_at "mem"); (case h3 => omega); intro z hz)
  | ((with_reducible refine' g_ixIT ?h1 ?h2 ?h3 ?_); (case h1 => assumption); (case h2 => walk_at "mem"); (case h3 => omega); intro z hz)
  | ((with_reducible refine' g_setI ?h1 ?h2 ?h3 ?_); (case h1 => assumption); (case h2 => walk_at "pk"); (case h3 => omega); intro H2 hh2)
  | ((with_reducible refine' w_ixL ?h1 ?h2 ?_); (case h1 => walk_at "sq"); (case h2 => walk_at "at"))
  | ((with_reducible refine' w_ixT ?h1 ?h2 ?_); (case h1 => walk_at "sq"); (case h2 => walk_at "at"))
  | ((with_reducible refine' w_ixAny ?h1 ?h2 ?_); (case h1 => walk_at "sq"); (case h2 => walk_at "at"))
  | ((with_reducible refine' c_lenA ?h1 ?_); (case h1 => walk_at "sq"))
  | ((with_reducible refine' c_isi ?t1 ?k1 ?_); (case t1 => first | exact ty_T (by walk_at "sq") | exact ty_L (by walk_at "sq")); (case k1 => walk_at "kit"))
  | ((with_reducible refine' g_lst ?h1 ?h2 ?_); (case h1 => assumption); (case h2 => walk_at "sz"); intro p H2 hh2)
  | ((with_reducible refine' g_tup ?h1 ?h2 ?_); (case h1 => assumption); (case h2 => walk_at "sz"); intro p H2 hh2)
  | ((with_reducible refine' g_dict ?h1 ?_); (case h1 => assumption); intro p H2 hh2)
  | ((with_reducible refine' g_listL ?h1 ?h2 ?_); (case h1 => assumption); (case h2 => walk_at "sq"); intro p H2 hh2)
  | ((with_reducible refine' g_listT ?h1 ?h2 ?_); (case h1 => assumption); (case h2 => walk_at "sq"); intro p H2 hh2)
  | ((with_reducible refine' g_tupL ?h1 ?h2 ?_); (case h1 => assumption); (case h2 => walk_at "sq"); intro p H2 hh2)
  | ((with_reducible refine' g_set ?h1 ?h2 ?h3 ?_); (case h1 => assumption); (case h2 => walk_at "pk"); (case h3 => first | rfl | assumption | exact Evl.ixN_nat (by first | omega | (simp only [List.length_cons, List.length_nil]; omega))); intro H2 hh2)
  | ((with_reducible refine' g_kbm ?h1 ?h2 ?_); (case h1 => assumption); (case h2 => walk_at "mem"))
  | ((with_reducible refine' g_kbm0 ?h1 ?h2 ?_); (case h1 => assumption); (case h2 => walk_at "mem"))
  | ((with_reducible refine' g_app ?h1 ?h2 ?h3 ?_); (case h1 => assumption); (case h2 => walk_at "pk"); (case h3 => walk_at "sz"); intro H2 hh2)
  | ((with_reducible refine' g_kapp ?h1 ?h2 ?h3 ?_); (case h1 => assumption); (case h2 => walk_at "pk"); (case h3 => walk_at "sz"); intro H2 hh2)
  | ((with_reducible refine' g_fld ?h1 ?h2 ?h3 ?h4 ?h5 ?_); (case h1 => assumption); (case h2 => walk_at "mem"); (case h3 => assumption); (case h4 => assumption); (case h5 => rfl))
  | ((with_reducible refine' g_sfld ?h1 ?h2 ?h3 ?h4 ?h5 ?_); (case h1 => assumption); (case h2 => walk_at "pk"); (case h3 => assumption); (case h4 => assumption); (case h5 => decide); intro H2 hh2)
  | ((with_reducible refine' g_meth ?h1 ?h2 ?h3 ?_); (case h1 => assumption); (case h2 => walk_at "mem"); (case h3 => rfl))
  | ((with_reducible refine' g_prop ?h1 ?h2 ?_); (case h1 => assumption); (case h2 => walk_at "mem"))
  | ((with_reducible refine' g_make ?h1 ?_); (case h1 => assumption); intro x H2 hh2)
  | ((with_reducible refine' g_cat ?h1 ?h2 ?h3 ?h4 ?_); (case h1 => assumption); (case h2 => walk_at "mem"); (case h3 => walk_at "mem"); (case h4 => walk_at "sz"); intro p H2 hh2)
  | ((with_reducible refine' g_inT ?h1 ?h2 ?h3 ?h4 ?h5 ?_); (case h1 => assumption); (case h2 => walk_at "mem"); (case h3 => rfl); (case h4 => rfl); (case h5 => rfl)))
local macro_rules | `(tactic| walk_at "gs") => `(tactic| repeat first | walk_at "s1" | walk_at "g1")
local macro_rules | `(tactic| walk_at "ite") => `(tactic| first
  | ((with_reducible refine' w_iteT ?h1 ?_); (case h1 => omega))
  | ((with_reducible refine' w_iteF ?h1 ?_); (case h1 => omega))
  | (with_reducible refine w_ite ?_ ?_ <;> intro hq)
  | ((with_reducible refine' w_iteNT ?h1 ?_); (case h1 => omega))
  | ((with_reducible refine' w_iteNF ?h1 ?_); (case h1 => omega))
  | (with_reducible refine w_iteN ?_ ?_ <;> intro hq))
local macro_rules | `(tactic| walk_at "go") => `(tactic| repeat' first | walk_at "s1" | walk_at "g1" | walk_at "ite")
local macro_rules | `(tactic| walk_at "g1") => `(tactic| first
  | ((with_reducible refine' g_take1 ?h1 ?h2 ?h3 ?h4 ?_); (case h1 => assumption); (case h2 => walk_at "spl"); (case h3 => omega); (case h4 => omega); intro k H2 hk1 hh2)
  | ((with_reducible refine' g_take ?h1 ?h2 ?h4 ?_); (case h1 => assumption); (case h2 => walk_at "spl"); (case h4 => omega); intro k H2 hk1 hh2)
  | ((with_reducible refine' g_betweenN ?h1 ?h2 ?h5 ?h3 ?h4 ?_); (case h1 => assumption); (case h2 => walk_at "spl"); (case h5 => omega); (case h3 => omega); (case h4 => omega); intro k H2 hk1 hk2 hh2)
  | ((with_reducible refine' g_between ?h1 ?h2 ?h3 ?h4 ?_); (case h1 => assumption); (case h2 => walk_at "spl"); (case h3 => omega); (case h4 => omega); intro k H2 hk1 hk2 hh2)
  | ((with_reducible refine' g_size ?h1 ?h2 ?h3 ?h4 ?_); (case h1 => assumption); (case h2 => walk_at "spl"); (case h3 => omega); (case h4 => omega); intro k H2 hk1 hh2)
  | ((with_reducible refine' g_word ?h1 ?h2 ?_); (case h1 => assumption); (case h2 => walk_at "spl"); intro k H2 hk1 hh2))
local macro_rules | `(tactic| walk_at "g1") => `(tactic| first | with_reducible refine w_sl ?_ | with_reducible refine w_part ?_ | with_reducible refine w_noPart ?_ | with_reducible refine w_exI ?_)
section
variable {P : Program} {w : World} {K : PySem.W.Frag} {mg : Str → Option Value} {base : Heap} {aREG aOPS : Addr}
theorem isT {p : Prop} [Decidable p] {A B : Prop} (hp : p) (h : A) : if decide p = true then A else B := by rw [decide_eq_true hp]; exact h
theorem isF {p : Prop} [Decidable p] {A B : Prop} (hp : ¬ p) (h : B) : if decide p = true then A else B := by rw [decide_eq_false hp]; exact h
theorem nisT {p : Prop} [Decidable p] {A B : Prop} (hp : ¬ p) (h : A) : if (!decide p) = true then A else B := by rw [decide_eq_false hp]; exact h
theorem nisF {p : Prop} [Decidable p] {A B : Prop} (hp : p) (h : B) : if (!decide p) = true then A else B := by rw [decide_eq_true hp]; exact h
theorem op_shape (o : Nat) (h : o < 16) : (opSo o = "" ∧ o = 0) ∨ (opSo o = "RN" ∧ (o = 1 ∨ o = 12 ∨ o = 14)) ∨ (opSo o = "RS" ∧ 2 ≤ o ∧ o ≤ 10) ∨ (opSo o = "N" ∧ (o = 11 ∨ o = 13)) ∨ (opSo o = "R" ∧ o = 15) := by
  have k : ∀ o : Fin 16, (opSo o.1 = "" ∧ o.1 = 0) ∨ (opSo o.1 = "RN" ∧ (o.1 = 1 ∨ o.1 = 12 ∨ o.1 = 14)) ∨ (opSo o.1 = "RS" ∧ 2 ≤ o.1 ∧ o.1 ≤ 10) ∨ (opSo o.1 = "N" ∧ (o.1 = 11 ∨ o.1 = 13)) ∨ (opSo o.1 = "R" ∧ o.1 = 15) := by decide +kernel
  exact k ⟨o, h⟩
theorem bad_iff {w o : Nat} (e : w / 4096 = o) : insBad w ↔ (82 ∉ (opSo o).cps.toList ∧ 0 < w / 1024 % 4) ∨ greatest (opSo o) < ((w % 1024 : Nat) : Int) := by
  unfold insBad opRow
  rw [e]
  rfl
section
variable {H : Hp} {L : List Cell} {Q : VK} {a : Addr} {xs ys : List V}
theorem g_slT {K : PySem.W.Frag} {lo hi : Option Int} (hh : Hd H L) (ha : SqT K H a xs) (hn : ¬ (HT.sIx xs.length 0 lo = 0 ∧ HT.sIx xs.length xs.length hi = xs.length)) (e : cutV xs lo hi = ys) (q : ∀ p H2, Hd H2 (tupC p ys :: L) → Q (.ref p) H2) : rSlT K (.ref a) lo hi H Q :=
  ⟨a, xs, rfl, ha, hn, fun p hp => q p _ (hh.newT (e ▸ New.of hp))⟩
end
/-! ### the parts of an instruction -/
def opOk (z : Str) (v : V) : Bool := if z == "N" then isR v 0 1023 else match v with
  | .str a => regL.any fun y => y == a
  | _ => false
def okO (c : Nat) (v : V) : Prop := (c = 78 ∧ ∃ i, v = .int i) ∨ (c ≠ 78 ∧ ∃ a, v = .str a)
section
variable {D : Nat} {G : Pins} {f g h j : Addr} {fd gd kd jd : FuncData} {v : V} {t : String} {lo hi : Int}
theorem rf_number (T : Txt K mg aREG aOPS) (M : Mod K mg base) (d1 : FunT K "is_integer" s_is_integer f fd) (m1 : mg "is_integer" = some (.ref f)) (d2 : FunT K "is_in_range" s_is_in_range g gd) (m2 : mg "is_in_range" = some (.ref g)) (d : FunT K "is_number" s_is_number h kd) (kv : KV G v t) (hD : D + 2 < recursionLimit) : RF P w base D h [v] G (.bl (isR v 0 1023)) := by
  refine rf_of d M sc_is_number (by decide +kernel) (by decide +kernel) (fun _ _ _ _ _ _ us hl => match us, hl with | [_], _ => rfl) rfl (by omega) fun env c => ?_
  have F := rf_range (P := P) (w := w) (D := D + 1) (lo := 0) (hi := 1023) T M d1 m1 d2 kv (by omega)
  have hx : ∀ {p : Pos}, RE P w base (D + 1) env ([(("x" : Str), v)]) G (.Name "x" p) v := fun {p} => re_name c rfl (List.mem_cons_self ..)
  exact re_call M c rfl m2 d2.kp F (ra_cons hx (ra_cons re_int (ra_cons re_int ra_nil)))
theorem rf_isop {c : Nat} (T : Txt K mg aREG aOPS) (B : Tabs K aREG aOPS) (M : Mod K mg base) (d1 : FunT K "is_integer" s_is_integer f fd) (m1 : mg "is_integer" = some (.ref f)) (d2 : FunT K "is_in_range" s_is_in_range g gd) (m2 : mg "is_in_range" = some (.ref g)) (d3 : FunT K "is_number" s_is_number h kd) (m3 : mg "is_number" = some (.ref h)) (d : FunT K "_is_operand" s__is_operand j jd) (kv : KV G v t) (ok : okO c v) (hD : D + 3 < recursionLimit) : RF P w base D j [.str ⟨#[c]⟩, v] G (.bl (opOk ⟨#[c]⟩ v)) := by
  have hs : ∀ {env : Env} {p : Pos} (c0 : RC (defScope s__is_operand) env), RE P w base (D + 1) env [(("sort" : Str), .str ⟨#[c]⟩), (("operand" : Str), v)] G (.Name "sort" p) (.str ⟨#[c]⟩) := fun c0 => re_name c0 rfl (List.mem_cons_self ..)
  have ho : ∀ {env : Env} {p : Pos} (c0 : RC (defScope s__is_operand) env), RE P w base (D + 1) env [(("sort" : Str), .str ⟨#[c]⟩), (("operand" : Str), v)] G (.Name "operand" p) v := fun c0 => re_name c0 rfl (List.mem_cons_of_mem _ (List.mem_cons_self ..))
  refine rf_if (b := ((⟨#[c]⟩ : Str) == "N")) d M sc__is_operand (by decide +kernel) (by decide +kernel) (fun _ _ _ _ _ _ us hl => match us, hl with | [_, _], _ => rfl) rfl (by omega) (fun env c0 => re_eqS (hs c0) re_str) (fun hb env c0 => ?_) (fun hb env c0 => ?_)
  · have F := rf_number (P := P) (w := w) (D := D + 1) T M d1 m1 d2 m2 d3 kv (by omega)
    rw [show opOk ⟨#[c]⟩ v = isR v 0 1023 by unfold opOk; rw [hb]; rfl]
    exact re_call M c0 rfl m3 d3.kp F (ra_cons (ho c0) ra_nil)
  · rcases ok with ⟨rfl, _⟩ | ⟨_, a, rfl⟩
    · exact absurd hb (by decide +kernel)
    · obtain ⟨u, e1, e2⟩ := T.g_REGISTERS
      rw [show opOk ⟨#[c]⟩ (.str a) = regL.any fun y => y == a by unfold opOk; rw [hb]; rfl]
      exact re_inS M B.reg (ho c0) (re_glob M c0 rfl e1 e2)
end
end
end K08
set_option Elab.async false
set_option linter.all false
set_option maxRecDepth 100000
set_option maxHeartbeats 4000000
namespace K08
open PySem PySem.Spec PyProof.Rows L2 Wk
local macro_rules | `(tactic| walk_at "u1") => `(tactic| fail "no more")
local macro_rules | `(tactic| walk_at "pos") => `(tactic| first | assumption | omega | decide | (simp only [Int.ofNat_eq_natCast] at *; omega))
local macro_rules | `(tactic| walk_at "sz") => `(tactic| first
  | (simp only [List.length_cons, List.length_nil]; decide)
  | exact Evl.sz_of (by omega)
  | exact Evl.sz_lt (by omega)
  | exact Evl.sz_of (by simp only [List.length_map, List.length_append, List.length_cons, List.length_nil, List.length_replicate]; omega)
  | exact Evl.sz_lt (by simp only [List.length_map, List.length_append, List.length_cons, List.length_nil, List.length_replicate]; omega))
local macro_rules | `(tactic| walk_at "cond") => `(tactic| first
  | exact Or.inr ⟨by decide, by decide⟩
  | (show (0 : Int) < _; first | decide | assumption | omega)
  | exact Or.inl ⟨by omega, by omega⟩
  | exact Or.inr ⟨by omega, by omega⟩
  | exact ⟨by decide, by decide, by decide⟩
  | exact log2_lt (by omega) (by omega)
  | exact ⟨by omega, by omega⟩)
local macro_rules | `(tactic| walk_at "ty") => `(tactic| first
  | exact ty_int | exact ty_bl | exact ty_str | exact ty_non
  | exact ty_L (by assumption) | exact ty_T (by assumption)
  | exact ty_L (SqL.of (by assumption)) | exact ty_T (SqT.of (by assumption)))
local macro_rules | `(tactic| walk_at "kit") => `(tactic| first
  | exact k_ii | exact k_ib | exact k_is | exact k_il | exact k_it
  | exact k_bb | exact k_bi | exact k_bs | exact k_bl | exact k_bt
  | exact k_ss | exact k_sb | exact k_si | exact k_sl | exact k_st
  | exact k_ll | exact k_lb | exact k_li | exact k_ls | exact k_lt
  | exact k_tt | exact k_tb | exact k_ti | exact k_ts | exact k_tl
  | exact k_nn | exact k_ni | exact k_ns | exact k_nl | exact k_nt)
local macro_rules | `(tactic| walk_at "s1") => `(tactic| first
  | with_reducible refine w_seq ?_
  | with_reducible refine w_set ?_
  | with_reducible refine w_op ?_
  | ((with_reducible refine' w_var ?h1 ?_); (case h1 => rfl))
  | with_reducible refine w_c ?_
  | with_reducible refine w_cb ?_
  | with_reducible refine w_cons ?_
  | with_reducible refine w_nil ?_
  | with_reducible refine w_I0 ?_
  | ((with_reducible refine' w_I ?c1 ?_); case c1 => walk_at "cond")
  | with_reducible refine w_ret ?_
  | with_reducible refine w_next ?_
  | with_reducible refine w_ifS ?_
  | with_reducible refine w_test ?_
  | with_reducible refine w_tB ?_
  | with_reducible refine w_k ?_
  | with_reducible refine w_eqI ?_
  | with_reducible refine w_neI ?_
  | with_reducible refine w_eqS ?_
  | with_reducible refine w_neS ?_
  | with_reducible refine w_and ?_
  | with_reducible refine w_or ?_
  | with_reducible refine w_not ?_
  | with_reducible refine w_andV ?_
  | with_reducible refine w_orV ?_
  | with_reducible refine w_notV ?_
  | with_reducible refine w_ifE ?_
  | with_reducible refine w_true ?_
  | with_reducible refine w_false ?_
  | with_reducible refine w_ntrue ?_
  | with_reducible refine w_nfalse ?_
  | with_reducible refine w_call ?_
  | with_reducible refine c_int ?_
  | with_reducible refine c_abs ?_
  | with_reducible refine c_max ?_
  | with_reducible refine c_min ?_
  | with_reducible refine w_drop ?_
  | with_reducible refine w_sfld ?_
  | with_reducible refine w_meth ?_
  | with_reducible refine w_make ?_
  | with_reducible refine w_prop ?_
  | with_reducible refine w_callK ?_
  | with_reducible refine w_callN ?_
  | with_reducible refine w_star ?_
  | with_reducible refine w_gcons ?_
  | with_reducible refine w_gname ?_
  | with_reducible refine w_gnil ?_
  | with_reducible refine w_retN ?_
  | with_reducible refine w_tup ?_
  | with_reducible refine w_lst ?_
  | with_reducible refine w_fld ?_
  | with_reducible refine w_bm ?_
  | with_reducible refine w_bm0 ?_
  | with_reducible refine w_forL ?_
  | with_reducible refine w_forT ?_
  | with_reducible refine w_forS ?_
  | with_reducible refine w_forR ?_
  | with_reducible refine w_lcR ?_
  | with_reducible refine w_lcL ?_
  | with_reducible refine w_lcT ?_
  | with_reducible refine w_isN ?_
  | with_reducible refine w_notN ?_
  | with_reducible refine w_asg ?_
  | with_reducible refine w_gsub ?_
  | ((with_reducible refine' w_aug ?h1 ?_); (case h1 => rfl))
  | with_reducible refine w_augS ?_
  | with_reducible refine w_ipI ?_
  | with_reducible refine w_un ?_
  | with_reducible refine w_U ?_
  | ((with_reducible refine' w_iteF ?f1 ?_); case f1 => (first | (intro h; cases h; done) | decide))
  | ((with_reducible refine' w_iteT ?f1 ?_); case f1 => rfl)
  | ((with_reducible refine' w_iteNF ?f1 ?_); case f1 => rfl)
  | ((with_reducible refine' w_iteNT ?f1 ?_); case f1 => (first | (intro h; cases h; done) | decide))
  | ((with_reducible refine' c_isi ?t1 ?k1 ?_); (case t1 => walk_at "ty"); (case k1 => walk_at "kit"))
  | ((with_reducible refine' w_eq ?e1 ?_); case e1 => rfl)
  | ((with_reducible refine' w_ne ?e1 ?_); case e1 => rfl)
  | walk_at "u1")
local macro_rules | `(tactic| walk_at "s") => `(tactic| repeat walk_at "s1")
local macro_rules | `(tactic| walk_at "mem") => `(tactic| first | with_reducible exact List.mem_cons_self .. | ((with_reducible refine' List.mem_cons_of_mem _ ?q); (case q => walk_at "mem")) | assumption | ((with_reducible refine' List.mem_append_right _ ?q); (case q => walk_at "mem")) | (exact List.mem_append_left _ (by assumption)))
local macro_rules | `(tactic| walk_at "pk") => `(tactic| first | with_reducible exact Pk.here | ((with_reducible refine' Pk.there ?q); (case q => walk_at "pk")) | ((with_reducible refine' Pk.app ?q); (case q => walk_at "pk")))
local macro_rules | `(tactic| walk_at "pkb") => `(tactic| first | with_reducible exact PkB.here | ((with_reducible refine' PkB.there ?q); (case q => walk_at "pkb")) | ((with_reducible refine' PkB.app ?q); (case q => walk_at "pkb")))
local macro_rules | `(tactic| walk_at "spl") => `(tactic| first | with_reducible exact Spl.nil | ((with_reducible refine' Spl.cons ?h ?t); (case h => walk_at "pk"); (case t => walk_at "spl")) | ((with_reducible refine' Spl.blk ?h ?t); (case h => walk_at "pkb"); (case t => walk_at "spl")))
local macro_rules | `(tactic| walk_at "sbx") => `(tactic| first | with_reducible exact Sb.refl | with_reducible exact Sb.nil | with_reducible exact Sb.left | ((with_reducible refine' Sb.cons ?h ?t); (case h => walk_at "pk"); (case t => walk_at "sbx")) | ((with_reducible refine' Sb.blk ?h ?t); (case h => walk_at "pkb"); (case t => walk_at "sbx")) | ((with_reducible refine' Sb.drop ?q); (case q => walk_at "sbx")) | ((with_reducible refine' Sb.right ?q); (case q => walk_at "sbx")))
local macro_rules | `(tactic| walk_at "hd") => `(tactic| first | assumption | exact Hd.sb (by assumption) (by walk_at "sbx"))
local macro_rules | `(tactic| walk_at "sq") => `(tactic| first
  | assumption
  | exact Hd.sqL (by assumption) (by walk_at "mem")
  | exact Hd.sqT (by assumption) (by walk_at "mem")
  | exact Hd.sqF (by assumption) (by walk_at "mem")
  | (refine .inl ?_; walk_at "sq")
  | (refine .inr ?_; walk_at "sq"))
local macro_rules | `(tactic| walk_at "at") => `(tactic| first | rfl | assumption | exact atI_nat (by assumption))
local macro_rules | `(tactic| walk_at "dn1") => `(tactic| first
  | exact Dn.int | exact Dn.str | exact Dn.non | exact Dn.bl | assumption
  | ((refine' Dn.tp ?a1 ?m1 ?l1 ?p1); (case a1 => assumption); (case m1 => walk_at "mem"); (case l1 => (simp only [List.length_cons, List.length_nil]; omega)); (case p1 => walk_at "dns"))
  | ((refine' Dn.lt ?a1 ?m1 ?l1 ?p1); (case a1 => assumption); (case m1 => walk_at "mem"); (case l1 => (simp only [List.length_cons, List.length_nil]; omega)); (case p1 => walk_at "dns")))
local macro_rules | `(tactic| walk_at "dns") => `(tactic| first | exact Paired.nil | exact Dn.ints | ((refine' Paired.cons ?a1 ?b1); (case a1 => walk_at "dn1"); (case b1 => walk_at "dns")))
local macro_rules | `(tactic| walk_at "g1") => `(tactic| first
  | ((with_reducible refine' g_ixI ?h1 ?h2 ?h3 ?_); (case h1 => assumption); (case h2 => walk_at "mem"); (case h3 => omega); intro z hz)
  | ((with_reducible refine' g_ixIT ?h1 ?h2 ?h3 ?_); (case h1 => assumption); (case h2 => walk_at "mem"); (case h3 => omega); intro z hz)
  | ((with_reducible refine' g_setI ?h1 ?h2 ?h3 ?_); (case h1 => assumption); (case h2 => walk_at "pk"); (case h3 => omega); intro H2 hh2)
  | ((with_reducible refine' w_ixL ?h1 ?h2 ?_); (case h1 => walk_at "sq"); (case h2 => walk_at "at"))
  | ((with_reducible refine' w_ixT ?h1 ?h2 ?_); (case h1 => walk_at "sq"); (case h2 => walk_at "at"))
  | ((with_reducible refine' w_ixAny ?h1 ?h2 ?_); (case h1 => walk_at "sq"); (case h2 => walk_at "at"))
  | ((with_reducible refine' c_lenA ?h1 ?_); (case h1 => walk_at "sq"))
  | ((with_reducible refine' c_isi ?t1 ?k1 ?_); (case t1 => first | exact ty_T (by walk_at "sq") | exact ty_L (by walk_at "sq")); (case k1 => walk_at "kit"))
  | ((with_reducible refine' g_lst ?h1 ?h2 ?_); (case h1 => assumption); (case h2 => walk_at "sz"); intro p H2 hh2)
  | ((with_reducible refine' g_tup ?h1 ?h2 ?_); (case h1 => assumption); (case h2 => walk_at "sz"); intro p H2 hh2)
  | ((with_reducible refine' g_dict ?h1 ?_); (case h1 => assumption); intro p H2 hh2)
  | ((with_reducible refine' g_listL ?h1 ?h2 ?_); (case h1 => assumption); (case h2 => walk_at "sq"); intro p H2 hh2)
  | ((with_reducible refine' g_listT ?h1 ?h2 ?_); (case h1 => assumption); (case h2 => walk_at "sq"); intro p H2 hh2)
  | ((with_reducible refine' g_tupL ?h1 ?h2 ?_); (case h1 => assumption); (case h2 => walk_at "sq"); intro p H2 hh2)
  | ((with_reducible refine' g_set ?h1 ?h2 ?h3 ?_); (case h1 => assumption); (case h2 => walk_at "pk"); (case h3 => first | rfl | assumption | exact Evl.ixN_nat (by first | omega | (simp only [List.length_cons, List.length_nil]; omega))); intro H2 hh2)
  | ((with_reducible refine' g_kbm ?h1 ?h2 ?_); (case h1 => assumption); (case h2 => walk_at "mem"))
  | ((with_reducible refine' g_kbm0 ?h1 ?h2 ?_); (case h1 => assumption); (case h2 => walk_at "mem"))
  | ((with_reducible refine' g_app ?h1 ?h2 ?h3 ?_); (case h1 => assumption); (case h2 => walk_at "pk"); (case h3 => walk_at "sz"); intro H2 hh2)
  | ((with_reducible refine' g_kapp ?h1 ?h2 ?h3 ?_); (case h1 => assumption); (case h2 => walk_at "pk"); (case h3 => walk_at "sz"); intro H2 hh2)
  | ((with_reducible refine' g_fld ?h1 ?h2 ?h3 ?h4 ?h5 ?_); (case h1 => assumption); (case h2 => walk_at "mem"); (case h3 => assumption); (case h4 => assumption); (case h5 => rfl))
  | ((with_reducible refine' g_sfld ?h1 ?h2 ?h3 ?h4 ?h5 ?_); (case h1 => assumption); (case h2 => walk_at "pk"); (case h3 => assumption); (case h4 => assumption); (case h5 => decide); intro H2 hh2)
  | ((with_reducible refine' g_meth ?h1 ?h2 ?h3 ?_); (case h1 => assumption); (case h2 => walk_at "mem"); (case h3 => rfl))
  | ((with_reducible refine' g_prop ?h1 ?h2 ?_); (case h1 => assumption); (case h2 => walk_at "mem"))
  | ((with_reducible refine' g_make ?h1 ?_); (case h1 => assumption); intro x H2 hh2)
  | ((with_reducible refine' g_cat ?h1 ?h2 ?h3 ?h4 ?_); (case h1 => assumption); (case h2 => walk_at "mem"); (case h3 => walk_at "mem"); (case h4 => walk_at "sz"); intro p H2 hh2)
  | ((with_reducible refine' g_inT ?h1 ?h2 ?h3 ?h4 ?h5 ?_); (case h1 => assumption); (case h2 => walk_at "mem"); (case h3 => rfl); (case h4 => rfl); (case h5 => rfl)))
local macro_rules | `(tactic| walk_at "gs") => `(tactic| repeat first | walk_at "s1" | walk_at "g1")
local macro_rules | `(tactic| walk_at "ite") => `(tactic| first
  | ((with_reducible refine' w_iteT ?h1 ?_); (case h1 => omega))
  | ((with_reducible refine' w_iteF ?h1 ?_); (case h1 => omega))
  | (with_reducible refine w_ite ?_ ?_ <;> intro hq)
  | ((with_reducible refine' w_iteNT ?h1 ?_); (case h1 => omega))
  | ((with_reducible refine' w_iteNF ?h1 ?_); (case h1 => omega))
  | (with_reducible refine w_iteN ?_ ?_ <;> intro hq))
local macro_rules | `(tactic| walk_at "go") => `(tactic| repeat' first | walk_at "s1" | walk_at "g1" | walk_at "ite")
local macro_rules | `(tactic| walk_at "g1") => `(tactic| first
  | ((with_reducible refine' g_take1 ?h1 ?h2 ?h3 ?h4 ?_); (case h1 => assumption); (case h2 => walk_at "spl"); (case h3 => omega); (case h4 => omega); intro k H2 hk1 hh2)
  | ((with_reducible refine' g_take ?h1 ?h2 ?h4 ?_); (case h1 => assumption); (case h2 => walk_at "spl"); (case h4 => omega); intro k H2 hk1 hh2)
  | ((with_reducible refine' g_betweenN ?h1 ?h2 ?h5 ?h3 ?h4 ?_); (case h1 => assumption); (case h2 => walk_at "spl"); (case h5 => omega); (case h3 => omega); (case h4 => omega); intro k H2 hk1 hk2 hh2)
  | ((with_reducible refine' g_between ?h1 ?h2 ?h3 ?h4 ?_); (case h1 => assumption); (case h2 => walk_at "spl"); (case h3 => omega); (case h4 => omega); intro k H2 hk1 hk2 hh2)
  | ((with_reducible refine' g_size ?h1 ?h2 ?h3 ?h4 ?_); (case h1 => assumption); (case h2 => walk_at "spl"); (case h3 => omega); (case h4 => omega); intro k H2 hk1 hh2)
  | ((with_reducible refine' g_word ?h1 ?h2 ?_); (case h1 => assumption); (case h2 => walk_at "spl"); intro k H2 hk1 hh2))
local macro_rules | `(tactic| walk_at "g1") => `(tactic| first | with_reducible refine w_sl ?_ | with_reducible refine w_part ?_ | with_reducible refine w_noPart ?_ | with_reducible refine w_exI ?_)
section
variable {P : Program} {w : World} {K : PySem.W.Frag} {mg : Str → Option Value} {base : Heap} {aREG aOPS : Addr}
def KForET (K : PySem.W.Frag) (g : TG) (tb : TS) (D : Ends) (σ : L2.St) (vs : List V) (H : Hp) : Prop := ∃ a ys, vs = [.ref a] ∧ SqT K H a ys ∧ ∃ W : Nat → Nat → L2.St → Hp → Prop, (∃ m, W 0 m σ H) ∧ ∀ i m σ H, W i m σ H →
      ((IteT K a ys).stop i H ∧ D.nx σ H) ∨ ((IteT K a ys).go i H ∧ ∃ N : L2.St → Hp → Prop, (∀ σ' H', N σ' H' → ∃ m', m' < m ∧ W (i + 1) m' σ' H') ∧ ∀ v H', (IteT K a ys).yld i H v H' → g v σ H' fun σ2 H2 => tb { D with nx := N, ct := N, bk := D.nx } σ2 H2)
theorem w_forET {g : TG} {tb : TS} {D : Ends} {σ : L2.St} {H : Hp} {ta : TA} (h : ta σ H fun vs H1 => KForET K g tb D σ vs H1) : tFor (iEnumT K ta) g tb D σ H := h
theorem ops_at (B : Tabs K aREG aOPS) : ∃ as : List Addr, as.length = 16 ∧ (∀ H, SqT K H aOPS (as.map V.ref)) ∧ ∀ (i : Nat) (a : Addr), as[i]? = some a → ∀ H, SqT K H a [.str (opNm i), .str (opSo i)] := by
  obtain ⟨as, hl, hA, hR⟩ := B.ops
  refine ⟨as, hl, hA, fun i a ha H => hR i a (opNm i, opSo i) ha ?_ H⟩
  have hi : i < 16 := by have := (List.getElem?_eq_some_iff.mp ha).1; omega
  have k : ∀ o : Fin 16, opsL[o.1]? = some (opNm o.1, opSo o.1) := by decide +kernel
  exact k ⟨i, hi⟩
theorem nm_ne {i o : Nat} (hi : i < o) (ho : o < 16) : opNm i ≠ opNm o := by
  have k2 : ∀ m o : Fin 16, m < o → opNm m.1 ≠ opNm o.1 := by decide +kernel
  exact k2 ⟨i, by omega⟩ ⟨o, ho⟩ hi
def sp_numof : Sp := fun vs H Q _ => ∃ (o : Nat) (L : List Cell), vs = [.str (opNm o)] ∧ o < 16 ∧ Hd H L ∧ ∀ H', Hd H' L → Q (.int o) H'
theorem g_numof {o : Nat} {H : Hp} {L : List Cell} {Q : VK} {E : XK} (hh : Hd H L) (ho : o < 16) (q : ∀ H', Hd H' L → Q (.int o) H') : sp_numof [.str (opNm o)] H Q E := ⟨o, L, rfl, ho, hh, q⟩
theorem c_numof (T : Txt K mg aREG aOPS) (B : Tabs K aREG aOPS) (d : DefAt K mg "_number_of" s__number_of) : C8.Cal P w K mg base 1 "_number_of" sp_numof [] := by
  refine mk d sc__number_of (fun _ _ _ _ _ _ us hl => match us, hl with | [_], _ => rfl) (fun vs H Q E h => ?_) (fun f cdv A outer s H vs Q E hr h => ?_)
  · obtain ⟨o, L, rfl, _⟩ := h
    rfl
  · obtain ⟨o, L, rfl, ho, hh, q⟩ := h
    refine ⟨_, (pss_cons (ps_for PassesOwn.never rfl (pi_enumT rfl T.b_enumerate (pa_cons (C8.pe_gc rfl T.g_OPERATIONS) pa_nil)) (pg_tup rfl (pgs_cons (pg_name (i := 1) sc__number_of.nd rfl (Or.inl rfl)) (pgs_cons (pg_name (i := 2) sc__number_of.nd rfl (Or.inl rfl)) pgs_nil)))
    (pss_one (ps_if (pt_cmpR op_eq (pe_ix ix_tup (pv 2) pe_int (fun _ _ => rfl)) (pv 0) (nomark _))
        (pss_one (ps_ret (pv 1)))
        pss_nil)))
  (pss_one (ps_ret pe_non))), ?_⟩
    obtain ⟨as, hl, hA, hR⟩ := ops_at B
    walk_at "gs"
    refine w_forET ?_
    walk_at "gs"
    refine ⟨aOPS, as.map V.ref, rfl, hA _, for_enumT (fun i σ H => ∃ v1 v2 : Option V, σ = [some (.str (opNm o)), v1, v2] ∧ i ≤ o ∧ Hd H L) ⟨none, none, rfl, Nat.zero_le _, hh⟩ (fun i σ H _ => hA _) ?_ ?_⟩
    · rintro i y T0 σ H1 hy ⟨v1, v2, rfl, hi, h1⟩ hT
      rw [List.getElem?_map] at hy
      cases ha : as[i]? with
      | none => rw [ha] at hy; cases hy
      | some a =>
        rw [ha] at hy
        cases hy
        have nw : New H1 (upd H1 T0 (.tup [.int (i : Nat), .ref a])) T0 (.tup [.int (i : Nat), .ref a]) := New.of hT
        have h2 := h1.newT nw
        refine w_gtup (h2.sqT (List.mem_cons_self ..)) rfl ?_
        refine w_gcons (w_gname (w_gcons (w_gname (w_gnil ?_))))
        walk_at "gs"
        refine w_ixT (i := 0) (hR i a ha _) rfl ?_
        walk_at "gs"
        refine w_ite (fun e => ?_) (fun e => ?_)
        · have eo : i = o := by
            rcases Nat.lt_or_ge i o with h | h
            · exact absurd e (nm_ne h ho)
            · omega
          subst eo
          walk_at "gs"
          exact q _ h2.tail
        · have : i < o := by
            rcases Nat.lt_or_ge i o with h | h
            · exact h
            · exact absurd (by rw [show i = o by omega]) e
          walk_at "gs"
          exact ⟨_, _, rfl, this, h2.tail⟩
    · rintro σ H1 ⟨v1, v2, rfl, hi, h1⟩
      rw [List.length_map, hl] at hi
      omega
def sp_opsof : Sp := fun vs H Q _ => ∃ (o : Nat) (L : List Cell), vs = [.str (opNm o)] ∧ o < 16 ∧ Hd H L ∧ ∀ H', Hd H' L → Q (.str (opSo o)) H'
theorem g_opsof {o : Nat} {H : Hp} {L : List Cell} {Q : VK} {E : XK} (hh : Hd H L) (ho : o < 16) (q : ∀ H', Hd H' L → Q (.str (opSo o)) H') : sp_opsof [.str (opNm o)] H Q E := ⟨o, L, rfl, ho, hh, q⟩
theorem c_opsof (T : Txt K mg aREG aOPS) (B : Tabs K aREG aOPS) (d : DefAt K mg "operands_of" s_operands_of) (c__number_of : C8.Cal P w K mg base 1 "_number_of" sp_numof []) : C8.Cal P w K mg base 2 "operands_of" sp_opsof [] := by
  refine mk d sc_operands_of (fun _ _ _ _ _ _ us hl => match us, hl with | [_], _ => rfl) (fun vs H Q E h => ?_) (fun f cdv A outer s H vs Q E hr h => ?_)
  · obtain ⟨o, L, rfl, _⟩ := h
    rfl
  · obtain ⟨o, L, rfl, ho, hh, q⟩ := h
    refine ⟨_, (pss_cons (ps_set (i := 1) sc_operands_of.nd rfl (Or.inl rfl) (C8.pe_c c__number_of hr (by first | decide | omega) rfl (pa_cons (pv 0) pa_nil)))
  (pss_one (ps_ret (pe_ifExp (pt_cmpR op_isN1 (pv 1) pe_non (nomark _)) pe_non (pe_ix ix_tup (pe_ix ix_seq (C8.pe_gc rfl T.g_OPERATIONS) (pv 1) (fun _ _ => rfl)) pe_int (fun _ _ => rfl)))))), ?_⟩
    obtain ⟨as, hl, hA, hR⟩ := ops_at B
    walk_at "gs"
    refine g_numof hh ho fun H1 h1 => ?_
    walk_at "gs"
    have ha := List.getElem?_eq_getElem (show o < as.length by omega)
    refine w_ixAny (xs := as.map V.ref) (v := .ref as[o]) (.inr (hA _)) (atI_nat (by rw [List.getElem?_map, ha]; rfl)) ?_
    walk_at "gs"
    refine w_ixT (i := 1) (hR o _ ha _) rfl ?_
    walk_at "gs"
    exact q _ h1
theorem tab_put {H H' : Hp} {R : List Cell} {tP : Addr} (h : Hd H (tblC tP :: R)) (hT : GxR.TabG H' tP) (u : Upt [tP] H H') : Hd H' (tblC tP :: R) :=
  Hd.put (A := [tblC tP]) (B := [tblC tP]) h u (fun a ha => ha) (let ⟨ps, e, t⟩ := hT; Hd.one (c := tblC tP) e ⟨ps, rfl, t⟩) fun c hc => .inl (List.mem_map_of_mem hc)
theorem regV_str {f : Nat} : ∃ z, regV f = .str z := ⟨_, rfl⟩
theorem part_ok {f l c : Nat} (h : c = 78 ∨ c = 82 ∨ c = 83) : okO c (insPart f l c) := by
  rcases h with rfl | rfl | rfl
  · exact .inl ⟨rfl, _, rfl⟩
  · exact .inr ⟨by decide, _, rfl⟩
  · exact .inr ⟨by decide, _, rfl⟩
theorem reg_any {f : Nat} (h : f < 4) : (regL.any fun y => y == regL.getD f "") = true := by
  match f, h with
  | 0, _ | 1, _ | 2, _ | 3, _ => decide +kernel
theorem part_op {f l c : Nat} (hf : f < 4) (hl : l ≤ 1023) (hc : c = 78 ∨ c = 82 ∨ (c = 83 ∧ l < 4)) : opOk ⟨#[c]⟩ (insPart f l c) = true := by
  rcases hc with rfl | rfl | ⟨rfl, h4⟩
  · show (if (⟨#[78]⟩ : Str) == "N" then isR (.int l) 0 1023 else _) = true
    rw [if_pos (by decide +kernel)]
    exact decide_eq_true (by omega)
  · show (if (⟨#[82]⟩ : Str) == "N" then _ else (regL.any fun y => y == regL.getD f "")) = true
    rw [if_neg (by decide +kernel)]
    exact reg_any hf
  · show (if (⟨#[83]⟩ : Str) == "N" then _ else (regL.any fun y => y == regL.getD l "")) = true
    rw [if_neg (by decide +kernel)]
    exact reg_any h4
/-- is_instruction of an instruction -/
def sp_isins (K : PySem.W.Frag) (tP : Addr) : Sp := fun vs H Q _ => ∃ (p : Addr) (o f l : Nat) (R : List Cell), vs = [.ref p] ∧ InsR o f l ∧ (∀ H', Hd H' R → SqT K H' p (insO o f l)) ∧ Hd H (tblC tP :: R) ∧ ∀ H', Hd H' (tblC tP :: R) → Q (.bl true) H'
theorem g_isins {tP p : Addr} {o f l : Nat} {R : List Cell} {H : Hp} {L : List Cell} {Q : VK} {E : XK} (hh : Hd H L) (s : Spl L [tblC tP] R) (hi : InsR o f l) (hp : ∀ H', Hd H' R → SqT K H' p (insO o f l)) (q : ∀ H', Hd H' (tblC tP :: R) → Q (.bl true) H') : sp_isins K tP [.ref p] H Q E := ⟨p, o, f, l, R, rfl, hi, hp, hh.spl s, q⟩
theorem c_isins {c tP : Addr} (T : Txt K mg aREG aOPS) (B : Tabs K aREG aOPS) (TB : GxR.TabB base mg c tP) (d : DefAtC K mg "is_instruction" s_is_instruction c) (d1 : DefAt K mg "is_integer" s_is_integer) (d2 : DefAt K mg "is_in_range" s_is_in_range) (d3 : DefAt K mg "is_number" s_is_number) (d4 : DefAt K mg "_is_operand" s__is_operand) (c_operands_of : C8.Cal P w K mg base 2 "operands_of" sp_opsof []) : C8.Cal P w K mg base 6 "is_instruction" (sp_isins K tP) [] := by
  obtain ⟨f1, fd1, F1, m1⟩ := d1
  obtain ⟨f2, fd2, F2, m2⟩ := d2
  obtain ⟨f3, fd3, F3, m3⟩ := d3
  obtain ⟨f4, fd4, F4, m4⟩ := d4
  refine mkC d sc_is_instruction (fun _ _ _ _ _ _ us hl => match us, hl with | [_], _ => rfl) (fun vs H Q E h => ?_) (fun fa A outer s H vs Q E hr h => ?_)
  · obtain ⟨p, o, f, l, R, rfl, _⟩ := h
    rfl
  · obtain ⟨p, o, f, l, R, rfl, hi, hp, hh, q⟩ := h
    have hD : (A.deeper (envOfC "is_instruction" (defScope s_is_instruction) s.heap.objs.size fa (.ref c))).depth + 1 + 3 < recursionLimit := by have := hr.dp; omega
    refine ⟨_, (pss_cons (ps_if (PW.pt (pw_or (pt_not (pt_val (pe_callB call_isi (by rfl) T.b_isinstance (by decide +kernel) (pa_cons (pv 0) (pa_cons (pe_bltn (v := .ty "tuple") (by rfl) T.b_tuple (by decide +kernel) rfl) pa_nil))))) (pw_or1 (pt_cmpR op_eq (pe_callB Wk.b_len (by rfl) T.b_len (by decide +kernel) (pa_cons (pv 0) pa_nil)) pe_int (nomark _)))))
    (pss_one (ps_ret pe_bl))
    pss_nil)
  (pss_cons (ps_set (i := 1) sc_is_instruction.nd rfl (Or.inl rfl) (C8.pe_c c_operands_of hr (by first | decide | omega) rfl (pa_cons (pe_ix ix_tup (pv 0) pe_int (fun _ _ => rfl)) pa_nil)))
  (pss_cons (ps_if (PW.pt (pw_or (pt_cmpR op_isN1 (pv 1) pe_non (nomark _)) (pw_or1 (pt_cmpR op_ne (pe_callB Wk.b_len (by rfl) T.b_len (by decide +kernel) (pa_cons (pv 0) pa_nil)) (pe_op op_add pe_int (pe_callB Wk.b_lenT (by rfl) T.b_len (by decide +kernel) (pa_cons (pv 1) pa_nil))) (nomark _)))))
    (pss_one (ps_ret pe_bl))
    pss_nil)
  (pss_one (ps_ret (pe_allZ (pb := opOk) (ok := okO) hr rfl T.b_all rfl T.b_zip TB rfl ⟨rfl, rfl, by decide +kernel, rfl, rfl, rfl, by decide, fun y hy hf => absurd hf (by revert y; decide +kernel)⟩ (pa_cons (pv 1) (pa_cons (pe_slice sl_tup (pv 0) (po_some pe_int) po_none) pa_nil)) (fun M cenv G c v t rc kv okv => ?_) (fun _ => rfl))))))), ?_⟩
    · exact re_call M rc rfl m4 F4.kp (rf_isop (f := f1) (g := f2) (h := f3) T B M F1 m1 F2 m2 F3 m3 F4 kv okv hD) (ra_cons (re_name rc rfl (List.mem_cons_self ..)) (ra_cons (re_name rc rfl (List.mem_cons_of_mem _ (List.mem_cons_self ..))) ra_nil))
    · have hp0 := hp _ hh.tail
      have ei := insO_parts (f := f) (l := l) hi.1
      have ik := so_key hi.1
      have hlen : (insO o f l).length = (opSo o).cps.toList.length + 1 := by rw [ei, List.length_cons, List.length_map]
      have lz : (opSo o).length = (opSo o).cps.toList.length := by simp [Str.length]
      walk_at "gs"
      refine isF (by omega) ?_
      walk_at "gs"
      refine w_ixT (xs := insO o f l) (i := 0) (v := .str (opNm o)) hp0 (by rw [ei]; exact atI_nat (j := 0) rfl) ?_
      walk_at "gs"
      refine g_opsof hh hi.1 fun H1 h1 => ?_
      walk_at "gs"
      refine c_lenT (hp _ h1.tail) ?_
      walk_at "gs"
      refine c_lenS (Nat.le_trans ik.1 (by decide)) ?_
      walk_at "gs"
      refine nisF (by omega) ?_
      walk_at "gs"
      unfold tAllZ
      walk_at "gs"
      refine g_slT (ys := (opSo o).cps.toList.map (insPart f l)) h1 (hp _ h1.tail) (by rw [hlen]; unfold HT.sIx; simp) (show cutV (insO o f l) (some ((1 : Nat) : Int)) none = _ by rw [cut_lo, ei]; rfl) fun p2 H2 h2 => ?_
      walk_at "gs"
      have hpart : ∀ c ∈ (opSo o).cps.toList, c = 78 ∨ c = 82 ∨ (c = 83 ∧ l < 4) := fun c hc => by
        rcases ik.2.2.1 c hc with h | h | h
        · exact .inl h
        · exact .inr (.inl h)
        · subst h
          exact .inr (.inr ⟨rfl, hi.2.2.2 (ik.2.2.2.1 hc).1 (ik.2.2.2.1 hc).2⟩)
      refine ⟨opSo o, p2, (opSo o).cps.toList.map (insPart f l), rfl, h2.sqT (List.mem_cons_self ..), fun v hv => ?_, fun i c v hc hv => ?_, h2.tbl (List.mem_cons_of_mem _ (List.mem_cons_self ..)), fun H3 hT3 => ?_⟩
      · obtain ⟨c, hc, rfl⟩ := List.mem_map.mp hv
        rcases ik.2.2.1 c hc with rfl | rfl | rfl
        · exact ⟨_, .int⟩
        · exact ⟨_, .str⟩
        · exact ⟨_, .str⟩
      · have hc' : (opSo o).cps.toList[i]? = some c := by simpa using hc
        rw [List.getElem?_map, hc'] at hv
        cases hv
        exact part_ok (ik.2.2.1 c (List.mem_of_getElem? hc'))
      · have e : allZ opOk (opSo o) ((opSo o).cps.toList.map (insPart f l)) = true := by
          unfold allZ
          rw [List.all_eq_true]
          intro j hj
          have hj2 : j < (opSo o).cps.toList.length := by
            have := List.mem_range.mp hj
            rw [List.length_map] at this
            omega
          have hc' := List.getElem?_eq_getElem hj2
          rw [trZ_some (c := (opSo o).cps.toList[j]) (by simpa using hc') (by rw [List.getElem?_map, hc']; rfl)]
          exact part_op hi.2.1 hi.2.2.1 (hpart _ (List.getElem_mem hj2))
        rw [e]
        exact q H3 (tab_put (Hd.sb h2 (by walk_at "sbx")) hT3.1 fun b o n e => (hT3.2 b fun z => n (List.mem_singleton.mpr z)).trans e)
end
end K08
set_option Elab.async false
set_option linter.all false
set_option maxRecDepth 100000
set_option maxHeartbeats 4000000
namespace K08
open PySem PySem.Spec PyProof.Rows L2 Wk
local macro_rules | `(tactic| walk_at "u1") => `(tactic| fail "no more")
local macro_rules | `(tactic| walk_at "pos") => `(tactic| first | assumption | omega | decide | (simp only [Int.ofNat_eq_natCast] at *; omega))
local macro_rules | `(tactic| walk_at "sz") => `(tactic| first
  | (simp only [List.length_cons, List.length_nil]; decide)
  | exact Evl.sz_of (by omega)
  | exact Evl.sz_lt (by omega)
  | exact Evl.sz_of (by simp only [List.length_map, List.length_append, List.length_cons, List.length_nil, List.length_replicate]; omega)
  | exact Evl.sz_lt (by simp only [List.length_map, List.length_append, List.length_cons, List.length_nil, List.length_replicate]; omega))
local macro_rules | `(tactic| walk_at "cond") => `(tactic| first
  | exact Or.inr ⟨by decide, by decide⟩
  | (show (0 : Int) < _; first | decide | assumption | omega)
  | exact Or.inl ⟨by omega, by omega⟩
  | exact Or.inr ⟨by omega, by omega⟩
  | exact ⟨by decide, by decide, by decide⟩
  | exact log2_lt (by omega) (by omega)
  | exact ⟨by omega, by omega⟩)
local macro_rules | `(tactic| walk_at "ty") => `(tactic| first
  | exact ty_int | exact ty_bl | exact ty_str | exact ty_non
  | exact ty_L (by assumption) | exact ty_T (by assumption)
  | exact ty_L (SqL.of (by assumption)) | exact ty_T (SqT.of (by assumption)))
local macro_rules | `(tactic| walk_at "kit") => `(tactic| first
  | exact k_ii | exact k_ib | exact k_is | exact k_il | exact k_it
  | exact k_bb | exact k_bi | exact k_bs | exact k_bl | exact k_bt
  | exact k_ss | exact k_sb | exact k_si | exact k_sl | exact k_st
  | exact k_ll | exact k_lb | exact k_li | exact k_ls | exact k_lt
  | exact k_tt | exact k_tb | exact k_ti | exact k_ts | exact k_tl
  | exact k_nn | exact k_ni | exact k_ns | exact k_nl | exact k_nt)
local macro_rules | `(tactic| walk_at "s1") => `(tactic| first
  | with_reducible refine w_seq ?_
  | with_reducible refine w_set ?_
  | with_reducible refine w_op ?_
  | ((with_reducible refine' w_var ?h1 ?_); (case h1 => rfl))
  | with_reducible refine w_c ?_
  | with_reducible refine w_cb ?_
  | with_reducible refine w_cons ?_
  | with_reducible refine w_nil ?_
  | with_reducible refine w_I0 ?_
  | ((with_reducible refine' w_I ?c1 ?_); case c1 => walk_at "cond")
  | with_reducible refine w_ret ?_
  | with_reducible refine w_next ?_
  | with_reducible refine w_ifS ?_
  | with_reducible refine w_test ?_
  | with_reducible refine w_tB ?_
  | with_reducible refine w_k ?_
  | with_reducible refine w_eqI ?_
  | with_reducible refine w_neI ?_
  | with_reducible refine w_eqS ?_
  | with_reducible refine w_neS ?_
  | with_reducible refine w_and ?_
  | with_reducible refine w_or ?_
  | with_reducible refine w_not ?_
  | with_reducible refine w_andV ?_
  | with_reducible refine w_orV ?_
  | with_reducible refine w_notV ?_
  | with_reducible refine w_ifE ?_
  | with_reducible refine w_true ?_
  | with_reducible refine w_false ?_
  | with_reducible refine w_ntrue ?_
  | with_reducible refine w_nfalse ?_
  | with_reducible refine w_call ?_
  | with_reducible refine c_int ?_
  | with_reducible refine c_abs ?_
  | with_reducible refine c_max ?_
  | with_reducible refine c_min ?_
  | with_reducible refine w_drop ?_
  | with_reducible refine w_sfld ?_
  | with_reducible refine w_meth ?_
  | with_reducible refine w_make ?_
  | with_reducible refine w_prop ?_
  | with_reducible refine w_callK ?_
  | with_reducible refine w_callN ?_
  | with_reducible refine w_star ?_
  | with_reducible refine w_gcons ?_
  | with_reducible refine w_gname ?_
  | with_reducible refine w_gnil ?_
  | with_reducible refine w_retN ?_
  | with_reducible refine w_tup ?_
  | with_reducible refine w_lst ?_
  | with_reducible refine w_fld ?_
  | with_reducible refine w_bm ?_
  | with_reducible refine w_bm0 ?_
  | with_reducible refine w_forL ?_
  | with_reducible refine w_forT ?_
  | with_reducible refine w_forS ?_
  | with_reducible refine w_forR ?_
  | with_reducible refine w_lcR ?_
  | with_reducible refine w_lcL ?_
  | with_reducible refine w_lcT ?_
  | with_reducible refine w_isN ?_
  | with_reducible refine w_notN ?_
  | with_reducible refine w_asg ?_
  | with_reducible refine w_gsub ?_
  | ((with_reducible refine' w_aug ?h1 ?_); (case h1 => rfl))
  | with_reducible refine w_augS ?_
  | with_reducible refine w_ipI ?_
  | with_reducible refine w_un ?_
  | with_reducible refine w_U ?_
  | ((with_reducible refine' w_iteF ?f1 ?_); case f1 => (first | (intro h; cases h; done) | decide))
  | ((with_reducible refine' w_iteT ?f1 ?_); case f1 => rfl)
  | ((with_reducible refine' w_iteNF ?f1 ?_); case f1 => rfl)
  | ((with_reducible refine' w_iteNT ?f1 ?_); case f1 => (first | (intro h; cases h; done) | decide))
  | ((with_reducible refine' c_isi ?t1 ?k1 ?_); (case t1 => walk_at "ty"); (case k1 => walk_at "kit"))
  | ((with_reducible refine' w_eq ?e1 ?_); case e1 => rfl)
  | ((with_reducible refine' w_ne ?e1 ?_); case e1 => rfl)
  | walk_at "u1")
local macro_rules | `(tactic| walk_at "s") => `(tactic| repeat walk_at "s1")
local macro_rules | `(tactic| walk_at "mem") => `(tactic| first | with_reducible exact List.mem_cons_self .. | ((with_reducible refine' List.mem_cons_of_mem _ ?q); (case q => walk_at "mem")) | assumption | ((with_reducible refine' List.mem_append_right _ ?q); (case q => walk_at "mem")) | (exact List.mem_append_left _ (by assumption)))
local macro_rules | `(tactic| walk_at "pk") => `(tactic| first | with_reducible exact Pk.here | ((with_reducible refine' Pk.there ?q); (case q => walk_at "pk")) | ((with_reducible refine' Pk.app ?q); (case q => walk_at "pk")))
local macro_rules | `(tactic| walk_at "pkb") => `(tactic| first | with_reducible exact PkB.here | ((with_reducible refine' PkB.there ?q); (case q => walk_at "pkb")) | ((with_reducible refine' PkB.app ?q); (case q => walk_at "pkb")))
local macro_rules | `(tactic| walk_at "spl") => `(tactic| first | with_reducible exact Spl.nil | ((with_reducible refine' Spl.cons ?h ?t); (case h => walk_at "pk"); (case t => walk_at "spl")) | ((with_reducible refine' Spl.blk ?h ?t); (case h => walk_at "pkb"); (case t => walk_at "spl")))
local macro_rules | `(tactic| walk_at "sbx") => `(tactic| first | with_reducible exact Sb.refl | with_reducible exact Sb.nil | with_reducible exact Sb.left | ((with_reducible refine' Sb.cons ?h ?t); (case h => walk_at "pk"); (case t => walk_at "sbx")) | ((with_reducible refine' Sb.blk ?h ?t); (case h => walk_at "pkb"); (case t => walk_at "sbx")) | ((with_reducible refine' Sb.drop ?q); (case q => walk_at "sbx")) | ((with_reducible refine' Sb.right ?q); (case q => walk_at "sbx")))
local macro_rules | `(tactic| walk_at "hd") => `(tactic| first | assumption | exact Hd.sb (by assumption) (by walk_at "sbx"))
local macro_rules | `(tactic| walk_at "sq") => `(tactic| first
  | assumption
  | exact Hd.sqL (by assumption) (by walk_at "mem")
  | exact Hd.sqT (by assumption) (by walk_at "mem")
  | exact Hd.sqF (by assumption) (by walk_at "mem")
  | (refine .inl ?_; walk_at "sq")
  | (refine .inr ?_; walk_at "sq"))
local macro_rules | `(tactic| walk_at "at") => `(tactic| first | rfl | assumption | exact atI_nat (by assumption))
local macro_rules | `(tactic| walk_at "dn1") => `(tactic| first
  | exact Dn.int | exact Dn.str | exact Dn.non | exact Dn.bl | assumption
  | ((refine' Dn.tp ?a1 ?m1 ?l1 ?p1); (case a1 => assumption); (case m1 => walk_at "mem"); (case l1 => (simp only [List.length_cons, List.length_nil]; omega)); (case p1 => walk_at "dns"))
  | ((refine' Dn.lt ?a1 ?m1 ?l1 ?p1); (case a1 => assumption); (case m1 => walk_at "mem"); (case l1 => (simp only [List.length_cons, List.length_nil]; omega)); (case p1 => walk_at "dns")))
local macro_rules | `(tactic| walk_at "dns") => `(tactic| first | exact Paired.nil | exact Dn.ints | ((refine' Paired.cons ?a1 ?b1); (case a1 => walk_at "dn1"); (case b1 => walk_at "dns")))
local macro_rules | `(tactic| walk_at "g1") => `(tactic| first
  | ((with_reducible refine' g_ixI ?h1 ?h2 ?h3 ?_); (case h1 => assumption); (case h2 => walk_at "mem"); (case h3 => omega); intro z hz)
  | ((with_reducible refine' g_ixIT ?h1 ?h2 ?h3 ?_); (case h1 => assumption); (case h2 => walk_at "mem"); (case h3 => omega); intro z hz)
  | ((with_reducible refine' g_setI ?h1 ?h2 ?h3 ?_); (case h1 => assumption); (case h2 => walk_at "pk"); (case h3 => omega); intro H2 hh2)
  | ((with_reducible refine' w_ixL ?h1 ?h2 ?_); (case h1 => walk_at "sq"); (case h2 => walk_at "at"))
  | ((with_reducible refine' w_ixT ?h1 ?h2 ?_); (case h1 => walk_at "sq"); (case h2 => walk_at "at"))
  | ((with_reducible refine' w_ixAny ?h1 ?h2 ?_); (case h1 => walk_at "sq"); (case h2 => walk_at "at"))
  | ((with_reducible refine' c_lenA ?h1 ?_); (case h1 => walk_at "sq"))
  | ((with_reducible refine' c_isi ?t1 ?k1 ?_); (case t1 => first | exact ty_T (by walk_at "sq") | exact ty_L (by walk_at "sq")); (case k1 => walk_at "kit"))
  | ((with_reducible refine' g_lst ?h1 ?h2 ?_); (case h1 => assumption); (case h2 => walk_at "sz"); intro p H2 hh2)
  | ((with_reducible refine' g_tup ?h1 ?h2 ?_); (case h1 => assumption); (case h2 => walk_at "sz"); intro p H2 hh2)
  | ((with_reducible refine' g_dict ?h1 ?_); (case h1 => assumption); intro p H2 hh2)
  | ((with_reducible refine' g_listL ?h1 ?h2 ?_); (case h1 => assumption); (case h2 => walk_at "sq"); intro p H2 hh2)
  | ((with_reducible refine' g_listT ?h1 ?h2 ?_); (case h1 => assumption); (case h2 => walk_at "sq"); intro p H2 hh2)
  | ((with_reducible refine' g_tupL ?h1 ?h2 ?_); (case h1 => assumption); (case h2 => walk_at "sq"); intro p H2 hh2)
  | ((with_reducible refine' g_set ?h1 ?h2 ?h3 ?_); (case h1 => assumption); (case h2 => walk_at "pk"); (case h3 => first | rfl | assumption | exact Evl.ixN_nat (by first | omega | (simp only [List.length_cons, List.length_nil]; omega))); intro H2 hh2)
  | ((with_reducible refine' g_kbm ?h1 ?h2 ?_); (case h1 => assumption); (case h2 => walk_at "mem"))
  | ((with_reducible refine' g_kbm0 ?h1 ?h2 ?_); (case h1 => assumption); (case h2 => walk_at "mem"))
  | ((with_reducible refine' g_app ?h1 ?h2 ?h3 ?_); (case h1 => assumption); (case h2 => walk_at "pk"); (case h3 => walk_at "sz"); intro H2 hh2)
  | ((with_reducible refine' g_kapp ?h1 ?h2 ?h3 ?_); (case h1 => assumption); (case h2 => walk_at "pk"); (case h3 => walk_at "sz"); intro H2 hh2)
  | ((with_reducible refine' g_fld ?h1 ?h2 ?h3 ?h4 ?h5 ?_); (case h1 => assumption); (case h2 => walk_at "mem"); (case h3 => assumption); (case h4 => assumption); (case h5 => rfl))
  | ((with_reducible refine' g_sfld ?h1 ?h2 ?h3 ?h4 ?h5 ?_); (case h1 => assumption); (case h2 => walk_at "pk"); (case h3 => assumption); (case h4 => assumption); (case h5 => decide); intro H2 hh2)
  | ((with_reducible refine' g_meth ?h1 ?h2 ?h3 ?_); (case h1 => assumption); (case h2 => walk_at "mem"); (case h3 => rfl))
  | ((with_reducible refine' g_prop ?h1 ?h2 ?_); (case h1 => assumption); (case h2 => walk_at "mem"))
  | ((with_reducible refine' g_make ?h1 ?_); (case h1 => assumption); intro x H2 hh2)
  | ((with_reducible refine' g_cat ?h1 ?h2 ?h3 ?h4 ?_); (case h1 => assumption); (case h2 => walk_at "mem"); (case h3 => walk_at "mem"); (case h4 => walk_at "sz"); intro p H2 hh2)
  | ((with_reducible refine' g_inT ?h1 ?h2 ?h3 ?h4 ?h5 ?_); (case h1 => assumption); (case h2 => walk_at "mem"); (case h3 => rfl); (case h4 => rfl); (case h5 => rfl)))
local macro_rules | `(tactic| walk_at "gs") => `(tactic| repeat first | walk_at "s1" | walk_at "g1")
local macro_rules | `(tactic| walk_at "ite") => `(tactic| first
  | ((with_reducible refine' w_iteT ?h1 ?_); (case h1 => omega))
  | ((with_reducible refine' w_iteF ?h1 ?_); (case h1 => omega))
  | (with_reducible refine w_ite ?_ ?_ <;> intro hq)
  | ((with_reducible refine' w_iteNT ?h1 ?_); (case h1 => omega))
  | ((with_reducible refine' w_iteNF ?h1 ?_); (case h1 => omega))
  | (with_reducible refine w_iteN ?_ ?_ <;> intro hq))
local macro_rules | `(tactic| walk_at "go") => `(tactic| repeat' first | walk_at "s1" | walk_at "g1" | walk_at "ite")
local macro_rules | `(tactic| walk_at "g1") => `(tactic| first
  | ((with_reducible refine' g_take1 ?h1 ?h2 ?h3 ?h4 ?_); (case h1 => assumption); (case h2 => walk_at "spl"); (case h3 => omega); (case h4 => omega); intro k H2 hk1 hh2)
  | ((with_reducible refine' g_take ?h1 ?h2 ?h4 ?_); (case h1 => assumption); (case h2 => walk_at "spl"); (case h4 => omega); intro k H2 hk1 hh2)
  | ((with_reducible refine' g_betweenN ?h1 ?h2 ?h5 ?h3 ?h4 ?_); (case h1 => assumption); (case h2 => walk_at "spl"); (case h5 => omega); (case h3 => omega); (case h4 => omega); intro k H2 hk1 hk2 hh2)
  | ((with_reducible refine' g_between ?h1 ?h2 ?h3 ?h4 ?_); (case h1 => assumption); (case h2 => walk_at "spl"); (case h3 => omega); (case h4 => omega); intro k H2 hk1 hk2 hh2)
  | ((with_reducible refine' g_size ?h1 ?h2 ?h3 ?h4 ?_); (case h1 => assumption); (case h2 => walk_at "spl"); (case h3 => omega); (case h4 => omega); intro k H2 hk1 hh2)
  | ((with_reducible refine' g_word ?h1 ?h2 ?_); (case h1 => assumption); (case h2 => walk_at "spl"); intro k H2 hk1 hh2))
local macro_rules | `(tactic| walk_at "g1") => `(tactic| first | with_reducible refine w_sl ?_ | with_reducible refine w_part ?_ | with_reducible refine w_noPart ?_ | with_reducible refine w_exI ?_)
section
variable {P : Program} {w : World} {K : PySem.W.Frag} {mg : Str → Option Value} {base : Heap} {aREG aOPS : Addr}
def KForZS (K : PySem.W.Frag) (g : TG) (tb : TS) (D : Ends) (σ : L2.St) (vs : List V) (H : Hp) : Prop := ∃ x b ys, vs = [.str x, .ref b] ∧ SqT K H b ys ∧ ∃ W : Nat → Nat → L2.St → Hp → Prop, (∃ m, W 0 m σ H) ∧ ∀ i m σ H, W i m σ H →
      ((ItzS K x b ys).stop i H ∧ D.nx σ H) ∨ ((ItzS K x b ys).go i H ∧ ∃ N : L2.St → Hp → Prop, (∀ σ' H', N σ' H' → ∃ m', m' < m ∧ W (i + 1) m' σ' H') ∧ ∀ v H', (ItzS K x b ys).yld i H v H' → g v σ H' fun σ2 H2 => tb { D with nx := N, ct := N, bk := D.nx } σ2 H2)
theorem w_forZS {g : TG} {tb : TS} {D : Ends} {σ : L2.St} {H : Hp} {ta : TA} (h : ta σ H fun vs H1 => KForZS K g tb D σ vs H1) : tFor (iZipS K ta) g tb D σ H := h
theorem reg_idx {f : Nat} (h : f < 4) : regL[f]? = some (regL.getD f "") ∧ ∀ m, m < f → regL[m]? ≠ some (regL.getD f "") := by
  have k : ∀ f : Fin 4, regL[f.1]? = some (regL.getD f.1 "") ∧ ∀ m : Fin 4, m < f → regL[m.1]? ≠ some (regL.getD f.1 "") := by decide +kernel
  exact ⟨(k ⟨f, h⟩).1, fun m hm => (k ⟨f, h⟩).2 ⟨m, by omega⟩ hm⟩
theorem not_in_take {l : List Nat} {i c : Nat} (h : l.Nodup) (hc : l[i]? = some c) : c ∉ l.take i := by
  intro hm
  have e := List.take_append_drop (i + 1) l
  rw [take_succ' hc, List.append_assoc] at e
  rw [← e] at h
  exact (List.nodup_append.mp h).2.2 c hm c (List.mem_append_left _ (List.mem_singleton.mpr rfl)) rfl
/-- code_of an instruction -/
def sp_codeof (K : PySem.W.Frag) (tP : Addr) : Sp := fun vs H Q _ => ∃ (p : Addr) (o f l : Nat) (R : List Cell), vs = [.ref p] ∧ InsR o f l ∧ (∀ H', Hd H' R → SqT K H' p (insO o f l)) ∧ Hd H (tblC tP :: R) ∧ ∀ H', Hd H' (tblC tP :: R) → Q (.int (codeO o f l : Nat)) H'
theorem g_codeof {tP p : Addr} {o f l : Nat} {R : List Cell} {H : Hp} {L : List Cell} {Q : VK} {E : XK} (hh : Hd H L) (s : Spl L [tblC tP] R) (hi : InsR o f l) (hp : ∀ H', Hd H' R → SqT K H' p (insO o f l)) (q : ∀ H', Hd H' (tblC tP :: R) → Q (.int (codeO o f l : Nat)) H') : sp_codeof K tP [.ref p] H Q E := ⟨p, o, f, l, R, rfl, hi, hp, hh.spl s, q⟩
theorem b_codeof {tP : Addr} (T : Txt K mg aREG aOPS) (B : Tabs K aREG aOPS) (c_is_instruction : C8.Cal P w K mg base 6 "is_instruction" (sp_isins K tP) []) (c__number_of : C8.Cal P w K mg base 1 "_number_of" sp_numof []) (fa : Addr) (cdv : Value) (A : Around) (outer : List Env) (s : Shared) (H : Hp) (vs : List V) (Q : VK) (E : XK) (hr : Room 6 (A.deeper (envOfC "code_of" (defScope s_code_of) s.heap.objs.size fa cdv))) (h : sp_codeof K tP vs H Q E) :
    ∃ t, PSs (cxOf C8.CX0 P w K mg base nm_code_of "code_of" (defScope s_code_of) fa cdv A outer s H E).nox (defBody s_code_of) t ∧ t { nx := fun _ H' => Q .non H', rt := Q } (L2.start nm_code_of vs) H := by
  · obtain ⟨p, o, f, l, R, rfl, hi, hp, hh, q⟩ := h
    refine ⟨_, (pss_cons (ps_if (pt_not (pt_val (C8.pe_c c_is_instruction hr (by first | decide | omega) rfl (pa_cons (pv 0) pa_nil))))
    (pss_one ps_never)
    pss_nil)
  (pss_cons (ps_set (i := 1) sc_code_of.nd rfl (Or.inl rfl) (C8.pe_c c__number_of hr (by first | decide | omega) rfl (pa_cons (pe_ix ix_tup (pv 0) pe_int (fun _ _ => rfl)) pa_nil)))
  (pss_cons (ps_set (i := 2) sc_code_of.nd rfl (Or.inl rfl) (pe_op op_mul pe_int (pv 1)))
  (pss_cons (ps_for PassesOwn.never rfl (pi_zipS rfl T.b_zip (pa_cons (pe_ix ix_seq (pe_ix ix_seq (C8.pe_gc rfl T.g_OPERATIONS) (pv 1) (fun _ _ => rfl)) pe_int (fun _ _ => rfl)) (pa_cons (pe_slice sl_tup (pv 0) (po_some pe_int) po_none) pa_nil))) (pg_tup rfl (pgs_cons (pg_name (i := 3) sc_code_of.nd rfl (Or.inl rfl)) (pgs_cons (pg_name (i := 4) sc_code_of.nd rfl (Or.inl rfl)) pgs_nil)))
    (pss_one (ps_if (pt_cmpR op_eq (pv 3) pe_str (nomark _))
        (pss_one (ps_aug (i := 2) sc_code_of.nd rfl (Or.inl rfl) (pe_op op_mul pe_int (pe_bm PySem.F.plainAttrs_tuple PySem.F.slot_tuple_index PySem.F.type_tuple_index mt_tup_index (C8.pe_gc rfl T.g_REGISTERS) (pa_cons (pv 4) pa_nil))) ip_add))
        (pss_one (ps_if (pt_cmpR op_eq (pv 3) pe_str (nomark _))
            (pss_one (ps_aug (i := 2) sc_code_of.nd rfl (Or.inl rfl) (pe_bm PySem.F.plainAttrs_tuple PySem.F.slot_tuple_index PySem.F.type_tuple_index mt_tup_index (C8.pe_gc rfl T.g_REGISTERS) (pa_cons (pv 4) pa_nil)) ip_add))
            (pss_one (ps_aug (i := 2) sc_code_of.nd rfl (Or.inl rfl) (pv 4) ip_add)))))))
  (pss_one (ps_ret (pv 2))))))), ?_⟩
    have ei := insO_parts (f := f) (l := l) hi.1
    have ik := so_key hi.1
    have hlen : (insO o f l).length = (opSo o).cps.toList.length + 1 := by rw [ei, List.length_cons, List.length_map]
    obtain ⟨as, hl, hA, hR⟩ := ops_at B
    walk_at "gs"
    refine g_isins hh (by walk_at "spl") hi hp fun H1 h1 => ?_
    walk_at "gs"
    refine w_ixT (xs := insO o f l) (i := 0) (v := .str (opNm o)) (hp _ h1.tail) (by rw [ei]; exact atI_nat (j := 0) rfl) ?_
    walk_at "gs"
    refine g_numof h1 hi.1 fun H2 h2 => ?_
    walk_at "gs"
    refine w_forZS ?_
    walk_at "gs"
    have ho := hi.1
    have ha := List.getElem?_eq_getElem (show o < as.length by omega)
    refine w_ixAny (xs := as.map V.ref) (v := .ref as[o]) (.inr (hA _)) (atI_nat (by rw [List.getElem?_map, ha]; rfl)) ?_
    walk_at "gs"
    refine w_ixAny (xs := [.str (opNm o), .str (opSo o)]) (v := .str (opSo o)) (.inr (hR o _ ha _)) (atI_nat (j := 1) rfl) ?_
    walk_at "gs"
    refine g_slT (ys := (opSo o).cps.toList.map (insPart f l)) h2 (hp _ h2.tail) (by rw [hlen]; unfold HT.sIx; simp) (show cutV (insO o f l) (some ((1 : Nat) : Int)) none = _ by rw [cut_lo, ei]; rfl) fun p2 H3 h3 => ?_
    walk_at "gs"
    let F : Nat → Int := fun i => if 82 ∈ (opSo o).cps.toList.take i then (f : Int) else 0
    let L : Nat → Int := fun i => if 83 ∈ (opSo o).cps.toList.take i ∨ 78 ∈ (opSo o).cps.toList.take i then (l : Int) else 0
    clear h1 h2
    refine ⟨opSo o, p2, (opSo o).cps.toList.map (insPart f l), rfl, h3.sqT (List.mem_cons_self ..), for_zipS (by rw [List.length_map]; exact Array.length_toList.symm) (fun i σ H => ∃ v3 v4 : Option V, σ = [some (.ref p), some (.int (o : Int)), some (.int (4096 * (o : Int) + 1024 * F i + L i)), v3, v4] ∧ Hd H (tupC p2 ((opSo o).cps.toList.map (insPart f l)) :: tblC tP :: R)) ⟨none, none, by simp only [F, L, List.take_zero, List.not_mem_nil, if_false, or_self]; rw [show (4096 * (o : Int) + 1024 * 0 + 0) = 4096 * (o : Int) by omega]; rfl, h3⟩ (fun i σ H hP => let ⟨_, _, _, h⟩ := hP; h.sqT (List.mem_cons_self ..)) ?_ ?_⟩
    · rintro i c y T0 σ H4 hc hy ⟨v3, v4, rfl, h4⟩ hT
      clear h3
      have hc' : (opSo o).cps.toList[i]? = some c := by simpa using hc
      rw [List.getElem?_map, hc'] at hy
      cases hy
      have hcm := List.mem_of_getElem? hc'
      have nw : New H4 (upd H4 T0 (.tup [.str ⟨#[c]⟩, insPart f l c])) T0 (.tup [.str ⟨#[c]⟩, insPart f l c]) := New.of hT
      have h5 := h4.newT nw
      have tk : ∀ d, d ∈ (opSo o).cps.toList.take (i + 1) ↔ d ∈ (opSo o).cps.toList.take i ∨ d = c := fun d => by
        rw [List.take_add_one, hc']; simp
      refine w_gtup (h5.sqT (List.mem_cons_self ..)) rfl ?_
      refine w_gcons (w_gname (w_gcons (w_gname (w_gnil ?_))))
      have h6 := h5.tail
      clear h4 h5 nw
      walk_at "gs"
      refine w_ite (fun q1 => ?_) (fun q1 => ?_)
      · have hc2 := (one_eq (z := "R") (d := 82) rfl).mp q1
        subst hc2
        have e1 : F i = 0 := if_neg (not_in_take ik.2.2.2.2.1 hc')
        have e2 : F (i + 1) = (f : Int) := if_pos ((tk 82).mpr (.inr rfl))
        have e3 : L (i + 1) = L i := by simp only [L, tk]; simp
        walk_at "gs"
        refine w_kbm (.inr (.inl ⟨rfl, B.regK⟩)) ?_
        walk_at "gs"
        refine ⟨aREG, regL, _, f, rfl, rfl, B.reg _, (reg_idx hi.2.1).1, (reg_idx hi.2.1).2, ?_⟩
        have hf4 := hi.2.1
        walk_at "gs"
        refine ⟨some (.str ⟨#[82]⟩), some (insPart f l 82), ?_, h6⟩
        rw [e1, e2, e3, show (4096 * (o : Int) + 1024 * 0 + L i + 1024 * (f : Int)) = 4096 * (o : Int) + 1024 * (f : Int) + L i by omega]
        rfl
      · have hc2 := fun z => q1 ((one_eq (z := "R") (d := 82) rfl).mpr z)
        have e1 : F (i + 1) = F i := by
          have : (82 = c) = False := eq_false fun z => hc2 z.symm
          simp only [F, tk, this, or_false]
        have hc3 : c = 78 ∨ c = 83 := by
          rcases ik.2.2.1 c hcm with h | h | h
          · exact .inl h
          · exact absurd h hc2
          · exact .inr h
        have e2 : L i = 0 := if_neg (by
          rintro (h | h)
          · rcases hc3 with rfl | rfl
            · exact ik.2.2.2.2.2 (List.mem_of_mem_take h) hcm
            · exact not_in_take ik.2.2.2.2.1 hc' h
          · rcases hc3 with rfl | rfl
            · exact not_in_take ik.2.2.2.2.1 hc' h
            · exact ik.2.2.2.2.2 hcm (List.mem_of_mem_take h))
        have e3 : L (i + 1) = (l : Int) := if_pos (by
          rcases hc3 with rfl | rfl
          · exact .inr ((tk 78).mpr (.inr rfl))
          · exact .inl ((tk 83).mpr (.inr rfl)))
        walk_at "gs"
        refine w_ite (fun q2 => ?_) (fun q2 => ?_)
        · have hc4 := (one_eq (z := "S") (d := 83) rfl).mp q2
          subst hc4
          have hl4 := hi.2.2.2 (ik.2.2.2.1 hcm).1 (ik.2.2.2.1 hcm).2
          walk_at "gs"
          refine w_kbm (.inr (.inl ⟨rfl, B.regK⟩)) ?_
          walk_at "gs"
          refine ⟨aREG, regL, _, l, rfl, rfl, B.reg _, (reg_idx hl4).1, (reg_idx hl4).2, ?_⟩
          walk_at "gs"
          refine ⟨some (.str ⟨#[83]⟩), some (insPart f l 83), ?_, h6⟩
          rw [e1, e2, e3, show (4096 * (o : Int) + 1024 * F i + 0 + (l : Int)) = 4096 * (o : Int) + 1024 * F i + (l : Int) by omega]
          rfl
        · have hc4 := fun z => q2 ((one_eq (z := "S") (d := 83) rfl).mpr z)
          have hc5 : c = 78 := hc3.resolve_right hc4
          subst hc5
          walk_at "gs"
          refine ⟨_, _, rfl, (show insPart f l 78 = V.int (l : Int) from rfl), ?_⟩
          refine ⟨some (.str ⟨#[78]⟩), some (insPart f l 78), ?_, h6⟩
          rw [e1, e2, e3, Int.add_zero]
          rfl
    · rintro σ H4 ⟨v3, v4, rfl, h4⟩
      walk_at "gs"
      have e : (4096 * (o : Int) + 1024 * F ((opSo o).cps.toList.map (insPart f l)).length + L ((opSo o).cps.toList.map (insPart f l)).length) = ((codeO o f l : Nat) : Int) := by
        simp only [F, L, codeO, List.length_map, List.take_length]
        split <;> split <;> omega
      rw [e]
      exact q _ h4.tail
theorem c_codeof {tP : Addr} (T : Txt K mg aREG aOPS) (B : Tabs K aREG aOPS) (d : DefAt K mg "code_of" s_code_of) (c_is_instruction : C8.Cal P w K mg base 6 "is_instruction" (sp_isins K tP) []) (c__number_of : C8.Cal P w K mg base 1 "_number_of" sp_numof []) : C8.Cal P w K mg base 7 "code_of" (sp_codeof K tP) [] :=
  mk d sc_code_of (fun _ _ _ _ _ _ us hl => match us, hl with | [_], _ => rfl) (fun vs H Q E h => by obtain ⟨p, o, f, l, R, rfl, _⟩ := h; rfl) (b_codeof T B c_is_instruction c__number_of)
theorem ck_codeof {tP : Addr} (T : Txt K mg aREG aOPS) (B : Tabs K aREG aOPS) (d : DefAt K mg "code_of" s_code_of) (c_is_instruction : C8.Cal P w K mg base 6 "is_instruction" (sp_isins K tP) []) (c__number_of : C8.Cal P w K mg base 1 "_number_of" sp_numof []) : CalK P w K mg base 7 "code_of" (sp_codeof K tP) 0 ["instruction"] (fun _ zs => zs) := by
  obtain ⟨f, fd, F, hm⟩ := d
  exact mkK F hm sc_code_of (fun {α} l => l) (fun r => r) (fun _ _ _ _ _ _ us hl => match us, hl with | [_], _ => rfl) (fun vs H Q E h => by obtain ⟨p, o, f, l, R, rfl, _⟩ := h; rfl) (b_codeof T B c_is_instruction c__number_of)
end
end K08
set_option Elab.async false
set_option linter.all false
set_option maxRecDepth 100000
set_option maxHeartbeats 4000000
namespace K08
open PySem PySem.Spec PyProof.Rows L2 Wk
local macro_rules | `(tactic| walk_at "u1") => `(tactic| fail "no more")
local macro_rules | `(tactic| walk_at "pos") => `(tactic| first | assumption | omega | decide | (simp only [Int.ofNat_eq_natCast] at *; omega))
local macro_rules | `(tactic| walk_at "sz") => `(tactic| first
  | (simp only [List.length_cons, List.length_nil]; decide)
  | exact Evl.sz_of (by omega)
  | exact Evl.sz_lt (by omega)
  | exact Evl.sz_of (by simp only [List.length_map, List.length_append, List.length_cons, List.length_nil, List.length_replicate]; omega)
  | exact Evl.sz_lt (by simp only [List.length_map, List.length_append, List.length_cons, List.length_nil, List.length_replicate]; omega))
local macro_rules | `(tactic| walk_at "cond") => `(tactic| first
  | exact Or.inr ⟨by decide, by decide⟩
  | (show (0 : Int) < _; first | decide | assumption | omega)
  | exact Or.inl ⟨by omega, by omega⟩
  | exact Or.inr ⟨by omega, by omega⟩
  | exact ⟨by decide, by decide, by decide⟩
  | exact log2_lt (by omega) (by omega)
  | exact ⟨by omega, by omega⟩)
local macro_rules | `(tactic| walk_at "ty") => `(tactic| first
  | exact ty_int | exact ty_bl | exact ty_str | exact ty_non
  | exact ty_L (by assumption) | exact ty_T (by assumption)
  | exact ty_L (SqL.of (by assumption)) | exact ty_T (SqT.of (by assumption)))
local macro_rules | `(tactic| walk_at "kit") => `(tactic| first
  | exact k_ii | exact k_ib | exact k_is | exact k_il | exact k_it
  | exact k_bb | exact k_bi | exact k_bs | exact k_bl | exact k_bt
  | exact k_ss | exact k_sb | exact k_si | exact k_sl | exact k_st
  | exact k_ll | exact k_lb | exact k_li | exact k_ls | exact k_lt
  | exact k_tt | exact k_tb | exact k_ti | exact k_ts | exact k_tl
  | exact k_nn | exact k_ni | exact k_ns | exact k_nl | exact k_nt)
local macro_rules | `(tactic| walk_at "s1") => `(tactic| first
  | with_reducible refine w_seq ?_
  | with_reducible refine w_set ?_
  | with_reducible refine w_op ?_
  | ((with_reducible refine' w_var ?h1 ?_); (case h1 => rfl))
  | with_reducible refine w_c ?_
  | with_reducible refine w_cb ?_
  | with_reducible refine w_cons ?_
  | with_reducible refine w_nil ?_
  | with_reducible refine w_I0 ?_
  | ((with_reducible refine' w_I ?c1 ?_); case c1 => walk_at "cond")
  | with_reducible refine w_ret ?_
  | with_reducible refine w_next ?_
  | with_reducible refine w_ifS ?_
  | with_reducible refine w_test ?_
  | with_reducible refine w_tB ?_
  | with_reducible refine w_k ?_
  | with_reducible refine w_eqI ?_
  | with_reducible refine w_neI ?_
  | with_reducible refine w_eqS ?_
  | with_reducible refine w_neS ?_
  | with_reducible refine w_and ?_
  | with_reducible refine w_or ?_
  | with_reducible refine w_not ?_
  | with_reducible refine w_andV ?_
  | with_reducible refine w_orV ?_
  | with_reducible refine w_notV ?_
  | with_reducible refine w_ifE ?_
  | with_reducible refine w_true ?_
  | with_reducible refine w_false ?_
  | with_reducible refine w_ntrue ?_
  | with_reducible refine w_nfalse ?_
  | with_reducible refine w_call ?_
  | with_reducible refine c_int ?_
  | with_reducible refine c_abs ?_
  | with_reducible refine c_max ?_
  | with_reducible refine c_min ?_
  | with_reducible refine w_drop ?_
  | with_reducible refine w_sfld ?_
  | with_reducible refine w_meth ?_
  | with_reducible refine w_make ?_
  | with_reducible refine w_prop ?_
  | with_reducible refine w_callK ?_
  | with_reducible refine w_callN ?_
  | with_reducible refine w_star ?_
  | with_reducible refine w_gcons ?_
  | with_reducible refine w_gname ?_
  | with_reducible refine w_gnil ?_
  | with_reducible refine w_retN ?_
  | with_reducible refine w_tup ?_
  | with_reducible refine w_lst ?_
  | with_reducible refine w_fld ?_
  | with_reducible refine w_bm ?_
  | with_reducible refine w_bm0 ?_
  | with_reducible refine w_forL ?_
  | with_reducible refine w_forT ?_
  | with_reducible refine w_forS ?_
  | with_reducible refine w_forR ?_
  | with_reducible refine w_lcR ?_
  | with_reducible refine w_lcL ?_
  | with_reducible refine w_lcT ?_
  | with_reducible refine w_isN ?_
  | with_reducible refine w_notN ?_
  | with_reducible refine w_asg ?_
  | with_reducible refine w_gsub ?_
  | ((with_reducible refine' w_aug ?h1 ?_); (case h1 => rfl))
  | with_reducible refine w_augS ?_
  | with_reducible refine w_ipI ?_
  | with_reducible refine w_un ?_
  | with_reducible refine w_U ?_
  | ((with_reducible refine' w_iteF ?f1 ?_); case f1 => (first | (intro h; cases h; done) | decide))
  | ((with_reducible refine' w_iteT ?f1 ?_); case f1 => rfl)
  | ((with_reducible refine' w_iteNF ?f1 ?_); case f1 => rfl)
  | ((with_reducible refine' w_iteNT ?f1 ?_); case f1 => (first | (intro h; cases h; done) | decide))
  | ((with_reducible refine' c_isi ?t1 ?k1 ?_); (case t1 => walk_at "ty"); (case k1 => walk_at "kit"))
  | ((with_reducible refine' w_eq ?e1 ?_); case e1 => rfl)
  | ((with_reducible refine' w_ne ?e1 ?_); case e1 => rfl)
  | walk_at "u1")
local macro_rules | `(tactic| walk_at "s") => `(tactic| repeat walk_at "s1")
local macro_rules | `(tactic| walk_at "mem") => `(tactic| first | with_reducible exact List.mem_cons_self .. | ((with_reducible refine' List.mem_cons_of_mem _ ?q); (case q => walk_at "mem")) | assumption | ((with_reducible refine' List.mem_append_right _ ?q); (case q => walk_at "mem")) | (exact List.mem_append_left _ (by assumption)))
local macro_rules | `(tactic| walk_at "pk") => `(tactic| first | with_reducible exact Pk.here | ((with_reducible refine' Pk.there ?q); (case q => walk_at "pk")) | ((with_reducible refine' Pk.app ?q); (case q => walk_at "pk")))
local macro_rules | `(tactic| walk_at "pkb") => `(tactic| first | with_reducible exact PkB.here | ((with_reducible refine' PkB.there ?q); (case q => walk_at "pkb")) | ((with_reducible refine' PkB.app ?q); (case q => walk_at "pkb")))
local macro_rules | `(tactic| walk_at "spl") => `(tactic| first | with_reducible exact Spl.nil | ((with_reducible refine' Spl.cons ?h ?t); (case h => walk_at "pk"); (case t => walk_at "spl")) | ((with_reducible refine' Spl.blk ?h ?t); (case h => walk_at "pkb"); (case t => walk_at "spl")))
local macro_rules | `(tactic| walk_at "sbx") => `(tactic| first | with_reducible exact Sb.refl | with_reducible exact Sb.nil | with_reducible exact Sb.left | ((with_reducible refine' Sb.cons ?h ?t); (case h => walk_at "pk"); (case t => walk_at "sbx")) | ((with_reducible refine' Sb.blk ?h ?t); (case h => walk_at "pkb"); (case t => walk_at "sbx")) | ((with_reducible refine' Sb.drop ?q); (case q => walk_at "sbx")) | ((with_reducible refine' Sb.right ?q); (case q => walk_at "sbx")))
local macro_rules | `(tactic| walk_at "hd") => `(tactic| first | assumption | exact Hd.sb (by assumption) (by walk_at "sbx"))
local macro_rules | `(tactic| walk_at "sq") => `(tactic| first
  | assumption
  | exact Hd.sqL (by assumption) (by walk_at "mem")
  | exact Hd.sqT (by assumption) (by walk_at "mem")
  | exact Hd.sqF (by assumption) (by walk_at "mem")
  | (refine .inl ?_; walk_at "sq")
  | (refine .inr ?_; walk_at "sq"))
local macro_rules | `(tactic| walk_at "at") => `(tactic| first | rfl | assumption | exact atI_nat (by assumption))
local macro_rules | `(tactic| walk_at "dn1") => `(tactic| first
  | exact Dn.int | exact Dn.str | exact Dn.non | exact Dn.bl | assumption
  | ((refine' Dn.tp ?a1 ?m1 ?l1 ?p1); (case a1 => assumption); (case m1 => walk_at "mem"); (case l1 => (simp only [List.length_cons, List.length_nil]; omega)); (case p1 => walk_at "dns"))
  | ((refine' Dn.lt ?a1 ?m1 ?l1 ?p1); (case a1 => assumption); (case m1 => walk_at "mem"); (case l1 => (simp only [List.length_cons, List.length_nil]; omega)); (case p1 => walk_at "dns")))
local macro_rules | `(tactic| walk_at "dns") => `(tactic| first | exact Paired.nil | exact Dn.ints | ((refine' Paired.cons ?a1 ?b1); (case a1 => walk_at "dn1"); (case b1 => walk_at "dns")))
local macro_rules | `(tactic| walk_at "g1") => `(tactic| first
  | ((with_reducible refine' g_ixI ?h1 ?h2 ?h3 ?_); (case h1 => assumption); (case h2 => walk_at "mem"); (case h3 => omega); intro z hz)
  | ((with_reducible refine' g_ixIT ?h1 ?h2 ?h3 ?_); (case h1 => assumption); (case h2 => walk_at "mem"); (case h3 => omega); intro z hz)
  | ((with_reducible refine' g_setI ?h1 ?h2 ?h3 ?_); (case h1 => assumption); (case h2 => walk_at "pk"); (case h3 => omega); intro H2 hh2)
  | ((with_reducible refine' w_ixL ?h1 ?h2 ?_); (case h1 => walk_at "sq"); (case h2 => walk_at "at"))
  | ((with_reducible refine' w_ixT ?h1 ?h2 ?_); (case h1 => walk_at "sq"); (case h2 => walk_at "at"))
  | ((with_reducible refine' w_ixAny ?h1 ?h2 ?_); (case h1 => walk_at "sq"); (case h2 => walk_at "at"))
  | ((with_reducible refine' c_lenA ?h1 ?_); (case h1 => walk_at "sq"))
  | ((with_reducible refine' c_isi ?t1 ?k1 ?_); (case t1 => first | exact ty_T (by walk_at "sq") | exact ty_L (by walk_at "sq")); (case k1 => walk_at "kit"))
  | ((with_reducible refine' g_lst ?h1 ?h2 ?_); (case h1 => assumption); (case h2 => walk_at "sz"); intro p H2 hh2)
  | ((with_reducible refine' g_tup ?h1 ?h2 ?_); (case h1 => assumption); (case h2 => walk_at "sz"); intro p H2 hh2)
  | ((with_reducible refine' g_dict ?h1 ?_); (case h1 => assumption); intro p H2 hh2)
  | ((with_reducible refine' g_listL ?h1 ?h2 ?_); (case h1 => assumption); (case h2 => walk_at "sq"); intro p H2 hh2)
  | ((with_reducible refine' g_listT ?h1 ?h2 ?_); (case h1 => assumption); (case h2 => walk_at "sq"); intro p H2 hh2)
  | ((with_reducible refine' g_tupL ?h1 ?h2 ?_); (case h1 => assumption); (case h2 => walk_at "sq"); intro p H2 hh2)
  | ((with_reducible refine' g_set ?h1 ?h2 ?h3 ?_); (case h1 => assumption); (case h2 => walk_at "pk"); (case h3 => first | rfl | assumption | exact Evl.ixN_nat (by first | omega | (simp only [List.length_cons, List.length_nil]; omega))); intro H2 hh2)
  | ((with_reducible refine' g_kbm ?h1 ?h2 ?_); (case h1 => assumption); (case h2 => walk_at "mem"))
  | ((with_reducible refine' g_kbm0 ?h1 ?h2 ?_); (case h1 => assumption); (case h2 => walk_at "mem"))
  | ((with_reducible refine' g_app ?h1 ?h2 ?h3 ?_); (case h1 => assumption); (case h2 => walk_at "pk"); (case h3 => walk_at "sz"); intro H2 hh2)
  | ((with_reducible refine' g_kapp ?h1 ?h2 ?h3 ?_); (case h1 => assumption); (case h2 => walk_at "pk"); (case h3 => walk_at "sz"); intro H2 hh2)
  | ((with_reducible refine' g_fld ?h1 ?h2 ?h3 ?h4 ?h5 ?_); (case h1 => assumption); (case h2 => walk_at "mem"); (case h3 => assumption); (case h4 => assumption); (case h5 => rfl))
  | ((with_reducible refine' g_sfld ?h1 ?h2 ?h3 ?h4 ?h5 ?_); (case h1 => assumption); (case h2 => walk_at "pk"); (case h3 => assumption); (case h4 => assumption); (case h5 => decide); intro H2 hh2)
  | ((with_reducible refine' g_meth ?h1 ?h2 ?h3 ?_); (case h1 => assumption); (case h2 => walk_at "mem"); (case h3 => rfl))
  | ((with_reducible refine' g_prop ?h1 ?h2 ?_); (case h1 => assumption); (case h2 => walk_at "mem"))
  | ((with_reducible refine' g_make ?h1 ?_); (case h1 => assumption); intro x H2 hh2)
  | ((with_reducible refine' g_cat ?h1 ?h2 ?h3 ?h4 ?_); (case h1 => assumption); (case h2 => walk_at "mem"); (case h3 => walk_at "mem"); (case h4 => walk_at "sz"); intro p H2 hh2)
  | ((with_reducible refine' g_inT ?h1 ?h2 ?h3 ?h4 ?h5 ?_); (case h1 => assumption); (case h2 => walk_at "mem"); (case h3 => rfl); (case h4 => rfl); (case h5 => rfl)))
local macro_rules | `(tactic| walk_at "gs") => `(tactic| repeat first | walk_at "s1" | walk_at "g1")
local macro_rules | `(tactic| walk_at "ite") => `(tactic| first
  | ((with_reducible refine' w_iteT ?h1 ?_); (case h1 => omega))
  | ((with_reducible refine' w_iteF ?h1 ?_); (case h1 => omega))
  | (with_reducible refine w_ite ?_ ?_ <;> intro hq)
  | ((with_reducible refine' w_iteNT ?h1 ?_); (case h1 => omega))
  | ((with_reducible refine' w_iteNF ?h1 ?_); (case h1 => omega))
  | (with_reducible refine w_iteN ?_ ?_ <;> intro hq))
local macro_rules | `(tactic| walk_at "go") => `(tactic| repeat' first | walk_at "s1" | walk_at "g1" | walk_at "ite")
local macro_rules | `(tactic| walk_at "g1") => `(tactic| first
  | ((with_reducible refine' g_take1 ?h1 ?h2 ?h3 ?h4 ?_); (case h1 => assumption); (case h2 => walk_at "spl"); (case h3 => omega); (case h4 => omega); intro k H2 hk1 hh2)
  | ((with_reducible refine' g_take ?h1 ?h2 ?h4 ?_); (case h1 => assumption); (case h2 => walk_at "spl"); (case h4 => omega); intro k H2 hk1 hh2)
  | ((with_reducible refine' g_betweenN ?h1 ?h2 ?h5 ?h3 ?h4 ?_); (case h1 => assumption); (case h2 => walk_at "spl"); (case h5 => omega); (case h3 => omega); (case h4 => omega); intro k H2 hk1 hk2 hh2)
  | ((with_reducible refine' g_between ?h1 ?h2 ?h3 ?h4 ?_); (case h1 => assumption); (case h2 => walk_at "spl"); (case h3 => omega); (case h4 => omega); intro k H2 hk1 hk2 hh2)
  | ((with_reducible refine' g_size ?h1 ?h2 ?h3 ?h4 ?_); (case h1 => assumption); (case h2 => walk_at "spl"); (case h3 => omega); (case h4 => omega); intro k H2 hk1 hh2)
  | ((with_reducible refine' g_word ?h1 ?h2 ?_); (case h1 => assumption); (case h2 => walk_at "spl"); intro k H2 hk1 hh2))
section
variable {P : Program} {w : World} {K : PySem.W.Frag} {mg : Str → Option Value} {base : Heap} {aREG aOPS : Addr}
def sp_lint : Sp := fun vs H Q _ => ∃ (st c : Addr) (R : List Cell), vs = [.ref st] ∧ Hd H (stoC st c :: scrC c :: R) ∧ ∀ (i : Int) H', Hd H' (stoC st c :: scrC c :: R) → Q (.int i) H'
theorem c_lint (T : Txt K mg aREG aOPS) (d : DefAt K mg "_law_integer" s__law_integer) (c__law_take : C8.Cal P w K mg base 2 "_law_take" sp_take []) (c__law_pick : C8.Cal P w K mg base 3 "_law_pick" (sp_pick K) []) : C8.Cal P w K mg base 4 "_law_integer" sp_lint [] := by
  refine mk d sc__law_integer (fun _ _ _ _ _ _ us hl => match us, hl with | [_], _ => rfl) (fun vs H Q E h => ?_) (fun fa cdv A outer s H vs Q E hr h => ?_)
  · obtain ⟨st, c, R, rfl, _⟩ := h
    rfl
  · obtain ⟨st, c, R, rfl, hh, q⟩ := h
    refine ⟨_, (pss_cons (ps_set (i := 1) sc__law_integer.nd rfl (Or.inl rfl) (pe_lst (pa_cons pe_int (pa_cons pe_int (pa_cons (pe_un un_neg pe_int) (pa_cons pe_int (pa_cons pe_int (pa_cons pe_int (pa_cons pe_int (pa_cons pe_int (pa_cons pe_int (pa_cons pe_int (pa_cons pe_int (pa_cons pe_int (pa_cons pe_int (pa_cons pe_int (pa_cons pe_int (pa_cons pe_int (pa_cons (pe_un un_neg pe_int) pa_nil)))))))))))))))))))
  (pss_cons (ps_if (pt_cmpR op_eq (C8.pe_c c__law_take hr (by first | decide | omega) rfl (pa_cons (pv 0) (pa_cons pe_int pa_nil))) pe_int (nomark _))
    (pss_one (ps_ret (C8.pe_c c__law_pick hr (by first | decide | omega) rfl (pa_cons (pv 0) (pa_cons (pv 1) pa_nil)))))
    pss_nil)
  (pss_one (ps_ret (pe_op op_sub (C8.pe_c c__law_take hr (by first | decide | omega) rfl (pa_cons (pv 0) (pa_cons pe_int pa_nil))) pe_int))))), ?_⟩
    walk_at "go"
    · refine g_pick (by assumption) (by walk_at "spl") (by walk_at "mem") (by simp) (by simp) fun v H4 hv h4 => ?_
      obtain ⟨i, rfl⟩ : ∃ i, v = .int i := by
        simp only [List.mem_cons, List.not_mem_nil, or_false] at hv
        rcases hv with rfl | rfl | rfl | rfl | rfl | rfl | rfl | rfl | rfl | rfl | rfl | rfl | rfl | rfl | rfl | rfl | rfl
        all_goals exact ⟨_, rfl⟩
      exact q i H4 (Hd.sb h4 (by walk_at "sbx"))
    · exact q _ _ (Hd.sb (by assumption) (by walk_at "sbx"))
def sp_ltext : Sp := fun vs H Q _ => ∃ (st c : Addr) (n : Nat) (R : List Cell), vs = [.ref st, .int n] ∧ n ≤ 1000 ∧ Hd H (stoC st c :: scrC c :: R) ∧ ∀ (z : Str) H', z.length ≤ n → Hd H' (stoC st c :: scrC c :: R) → Q (.str z) H'
theorem txt_join {y : Str} {parts : List Str} : Txt.join y parts = Str.join y parts := TL.join_eq y parts
theorem c_ltext (T : Txt K mg aREG aOPS) (d : DefAt K mg "_law_text" s__law_text) (c__law_take : C8.Cal P w K mg base 2 "_law_take" sp_take []) : C8.Cal P w K mg base 3 "_law_text" sp_ltext [] := by
  refine mk d sc__law_text (fun _ _ _ _ _ _ us hl => match us, hl with | [_, _], _ => rfl) (fun vs H Q E h => ?_) (fun fa cdv A outer s H vs Q E hr h => ?_)
  · obtain ⟨st, c, n, R, rfl, _⟩ := h
    rfl
  · obtain ⟨st, c, n, R, rfl, hn, hh, q⟩ := h
    refine ⟨_, (pss_cons (ps_set (i := 2) sc__law_text.nd rfl (Or.inr rfl) pe_str)
  (pss_cons (ps_set (i := 2) sc__law_text.nd rfl (Or.inr rfl) (pe_op op_add_str (pv 2) pe_str))
  (pss_one (ps_ret (pe_join pe_str (pe_lc (own := [("k", 3)]) rfl sc__law_text.nd (pi_range1 rfl T.b_range (pa_cons (pv 1) pa_nil)) (blkOk_by (own := [("k", 3)]) (N := nm__law_text) (sc := defScope s__law_text) (by decide +kernel)) (fun _ _ _ _ _ => (pg_name (i := 3) sc__law_text.nd rfl (Or.inl rfl))) (fun _ _ _ _ _ => pts_nil) (fun _ _ _ _ _ => (pe_ix ix_str (pv 2) (C8.pe_c c__law_take hr (by first | decide | omega) rfl (pa_cons (pv 0) (pa_cons pe_int pa_nil))) (fun _ _ => rfl))))))))), ?_⟩
    walk_at "gs"
    refine ⟨_, _, rfl, rfl, by decide +kernel, ?_⟩
    have hS : ((" !\"#$&'()*+,-./0123456789:;<=>?@ABCDEFGHIJKLMNOPQRSTUVWXYZ[\\]^_`" : Str) ++ ("abcdefghijklmnopqrstuvwxyz{|}~" : Str)).cps.toList.length = 94 := by decide +kernel
    have hS2 : ((" !\"#$&'()*+,-./0123456789:;<=>?@ABCDEFGHIJKLMNOPQRSTUVWXYZ[\\]^_`" : Str) ++ ("abcdefghijklmnopqrstuvwxyz{|}~" : Str)).length ≤ sizeLine := by decide +kernel
    generalize ((" !\"#$&'()*+,-./0123456789:;<=>?@ABCDEFGHIJKLMNOPQRSTUVWXYZ[\\]^_`" : Str) ++ ("abcdefghijklmnopqrstuvwxyz{|}~" : Str)) = S at hS hS2
    walk_at "gs"
    unfold tM1
    walk_at "gs"
    refine ⟨⟨_, rfl⟩, ?_⟩
    walk_at "gs"
    refine g_lcR hh rfl (by omega) (fun i D H => ∃ zs : List Str, zs.length = i ∧ (∀ z ∈ zs, z.length = 1) ∧ Hd H (lstC D (zs.map V.str) :: stoC st c :: scrC c :: R)) (fun D H1 h1 => ⟨[], rfl, fun _ h => absurd h (List.not_mem_nil), h1⟩) ?_ ?_
    · rintro i D H1 hi ⟨zs, el, hz, h1⟩
      clear hh
      walk_at "gs"
      rename_i k H2 hk h2
      have hc := List.getElem?_eq_getElem (show k < S.cps.toList.length by omega)
      refine w_ixS hS2 (atI_nat hc) ?_
      refine g_kapp h2 (by walk_at "pk") (by rw [List.length_map, el]; exact Nat.lt_of_lt_of_le (show i < 1001 by omega) (by decide)) fun H3 h3 => ?_
      refine ⟨zs ++ [⟨#[S.cps.toList[k]]⟩], by simp [el], fun z hz' => ?_, ?_⟩
      · rcases List.mem_append.mp hz' with h | h
        · exact hz z h
        · rw [List.mem_singleton.mp h]; rfl
      · rw [List.map_append]
        exact (show Hd H3 (lstC D (zs.map V.str ++ [V.str ⟨#[S.cps.toList[k]]⟩]) :: stoC st c :: scrC c :: R) from Hd.sb h3 (by walk_at "sbx"))
    · rintro D H1 ⟨zs, el, hz, h1⟩
      clear hh
      walk_at "gs"
      have hsum : ∀ (zs : List Str), (∀ z ∈ zs, z.length = 1) → (zs.map (·.length)).sum = zs.length := fun zs => by
        induction zs with
        | nil => intro _; rfl
        | cons z zs ih =>
          intro h
          rw [List.map_cons, List.sum_cons, h z (List.mem_cons_self ..), ih fun x hx => h x (List.mem_cons_of_mem _ hx), List.length_cons]
          omega
      refine ⟨"", D, zs, rfl, rfl, .inl (Hd.sqL h1 (by walk_at "mem")), ?_, ?_⟩
      · rw [hsum zs hz, show (Str.length "" : Nat) = 0 from rfl]
        omega
      · refine q _ _ ?_ h1.tail
        rw [txt_join]
        have h := StrLaws.join_length_le "" zs
        rw [hsum zs hz, show (Str.length "" : Nat) = 0 from rfl] at h
        omega
/-- plain values, nested n times at most -/
def sp_lplain (K : PySem.W.Frag) (n : Nat) : Sp := fun vs H Q _ => ∃ (st c : Addr) (m : Nat) (R : List Cell), vs = [.ref st, .int m] ∧ m < n ∧ Hd H (stoC st c :: scrC c :: R) ∧
  ∀ (v : V) (d : PyData) (Z : List Cell) H', Zc K Z m v d → Hd H' (stoC st c :: scrC c :: (Z ++ R)) → Q v H'
theorem g_lplain {n m : Nat} {st c : Addr} {H : Hp} {L R : List Cell} {Q : VK} {E : XK} (hh : Hd H L) (s : Spl L [stoC st c, scrC c] R) (hm : m < n) (q : ∀ (v : V) (d : PyData) (Z : List Cell) H', Zc K Z m v d → Hd H' (stoC st c :: scrC c :: (Z ++ R)) → Q v H') : sp_lplain K n [.ref st, .int m] H Q E := ⟨st, c, m, R, rfl, hm, hh.spl s, q⟩
theorem plain_step (n : Nat) (T : Txt K mg aREG aOPS) (d : DefAt K mg "_law_plain" s__law_plain) (c__law_take : C8.Cal P w K mg base 2 "_law_take" sp_take []) (c__law_pick : C8.Cal P w K mg base 3 "_law_pick" (sp_pick K) []) (c__law_integer : C8.Cal P w K mg base 4 "_law_integer" sp_lint []) (c__law_text : C8.Cal P w K mg base 3 "_law_text" sp_ltext [])
    (c__law_plain : C8.Cal P w K mg base (n + 4) "_law_plain" (sp_lplain K n) []) : C8.Cal P w K mg base (n + 5) "_law_plain" (sp_lplain K (n + 1)) [] := by
  refine mk d sc__law_plain (fun _ _ _ _ _ _ us hl => match us, hl with | [_, _], _ => rfl) (fun vs H Q E h => ?_) (fun fa cdv A outer s H vs Q E hr h => ?_)
  · obtain ⟨st, c, m, R, rfl, _⟩ := h
    rfl
  · obtain ⟨st, c, m, R, rfl, hm, hh, q⟩ := h
    refine ⟨_, (pss_cons (ps_set (i := 2) sc__law_plain.nd rfl (Or.inl rfl) (C8.pe_c c__law_take hr (by first | decide | omega) rfl (pa_cons (pv 0) (pa_cons (pe_op op_add pe_int (pe_op op_mul pe_int (pe_callB (Wk.b_min rfl) (by rfl) T.b_min (by decide +kernel) (pa_cons (pv 1) (pa_cons pe_int pa_nil))))) pa_nil))))
  (pss_cons (ps_if (pt_cmpR op_eq (pv 2) pe_int (nomark _))
    (pss_one (ps_ret (C8.pe_c c__law_integer hr (by first | decide | omega) rfl (pa_cons (pv 0) pa_nil))))
    pss_nil)
  (pss_cons (ps_if (pt_cmpR op_eq (pv 2) pe_int (nomark _))
    (pss_one (ps_ret (pe_op op_sub (C8.pe_c c__law_take hr (by first | decide | omega) rfl (pa_cons (pv 0) (pa_cons pe_int pa_nil))) pe_int)))
    pss_nil)
  (pss_cons (ps_if (pt_cmpR op_eq (pv 2) pe_int (nomark _))
    (pss_one (ps_ret (C8.pe_c c__law_text hr (by first | decide | omega) rfl (pa_cons (pv 0) (pa_cons (C8.pe_c c__law_take hr (by first | decide | omega) rfl (pa_cons (pv 0) (pa_cons pe_int pa_nil))) pa_nil)))))
    pss_nil)
  (pss_cons (ps_if (pt_cmpR op_eq (pv 2) pe_int (nomark _))
    (pss_one (ps_ret (pe_cmpR op_eq (C8.pe_c c__law_take hr (by first | decide | omega) rfl (pa_cons (pv 0) (pa_cons pe_int pa_nil))) pe_int (nomark _))))
    pss_nil)
  (pss_cons (ps_if (pt_cmpR op_eq (pv 2) pe_int (nomark _))
    (pss_one (ps_ret pe_non))
    pss_nil)
  (pss_cons (ps_if (pt_cmpR op_eq (pv 2) pe_int (nomark _))
    (pss_one (ps_ret (C8.pe_c c__law_pick hr (by first | decide | omega) rfl (pa_cons (pv 0) (pa_cons (pe_lst (pa_cons pe_str (pa_cons pe_str (pa_cons pe_str (pa_cons pe_str (pa_cons pe_str (pa_cons pe_str (pa_cons pe_str (pa_cons pe_str (pa_cons pe_str pa_nil)))))))))) pa_nil)))))
    pss_nil)
  (pss_cons (ps_setLc (i := 3) (own := [("k", 4)]) rfl sc__law_plain.nd rfl rfl (sw_true rfl rfl rfl (by decide +kernel)) (pi_range1 rfl T.b_range (pa_cons (C8.pe_c c__law_take hr (by first | decide | omega) rfl (pa_cons (pv 0) (pa_cons pe_int pa_nil))) pa_nil)) (blkOk_by (own := [("k", 4)]) (N := nm__law_plain) (sc := defScope s__law_plain) (by decide +kernel)) (fun _ _ _ _ _ => (pg_name (i := 4) sc__law_plain.nd rfl (Or.inl rfl))) (fun _ _ _ _ _ => pts_nil) (fun _ _ _ _ _ => (C8.pe_c c__law_plain hr (by first | decide | omega) rfl (pa_cons (pv 0) (pa_cons (pe_op op_sub (pv 1) pe_int) pa_nil)))))
  (pss_cons (ps_if (pt_cmpR op_eq (pv 2) pe_int (nomark _))
    (pss_one (ps_ret (pv 3)))
    pss_nil)
  (pss_one (ps_ret (pe_callTy Wk.b_tuple (by rfl) T.b_tuple (by decide +kernel) (pa_cons (pv 3) pa_nil))))))))))))), ?_⟩
    have q0 : ∀ v d H', (∀ H, Dn K [] H m v d) → Hd H' (stoC st c :: scrC c :: R) → Q v H' := fun v d H' hs h => q v d [] H' (fun H _ => hs H) h
    walk_at "gs"
    rename_i way H1 hway h1
    clear hh
    refine w_ite (fun e0 => ?_) (fun e0 => ?_)
    · walk_at "gs"
      exact ⟨st, c, R, rfl, h1, fun i H' h => q0 _ _ H' (fun H => Dn.int) h⟩
    walk_at "gs"
    refine w_ite (fun e1 => ?_) (fun e1 => ?_)
    · walk_at "gs"
      rename_i h2
      exact q0 _ _ _ (fun H => Dn.int) h2
    walk_at "gs"
    refine w_ite (fun e2 => ?_) (fun e2 => ?_)
    · walk_at "gs"
      rename_i k H2 hk h2
      exact ⟨st, c, k, R, rfl, by omega, h2, fun z H' _ h => q0 _ _ H' (fun H => Dn.str) h⟩
    walk_at "gs"
    refine w_ite (fun e3 => ?_) (fun e3 => ?_)
    · walk_at "gs"
      rename_i h2
      exact q0 _ _ _ (fun H => Dn.bl) h2
    walk_at "gs"
    refine w_ite (fun e4 => ?_) (fun e4 => ?_)
    · walk_at "gs"
      exact q0 _ .none _ (fun H => Dn.non) h1
    walk_at "gs"
    refine w_ite (fun e5 => ?_) (fun e5 => ?_)
    · walk_at "gs"
      rename_i p H2 h2
      refine g_pick h2 (by walk_at "spl") (by walk_at "mem") (by simp) (by simp) fun v H3 hv h3 => ?_
      obtain ⟨z, rfl⟩ : ∃ z, v = .str z := by
        simp only [List.mem_cons, List.not_mem_nil, or_false] at hv
        rcases hv with rfl | rfl | rfl | rfl | rfl | rfl | rfl | rfl | rfl
        all_goals exact ⟨_, rfl⟩
      exact q0 _ _ H3 (fun H => Dn.str) (Hd.sb h3 (by walk_at "sbx"))
    obtain ⟨m', rfl⟩ : ∃ m', m = m' + 1 := ⟨m - 1, by split at hway <;> omega⟩
    walk_at "gs"
    rename_i k H2 hk h2
    refine g_lcR h2 rfl (by omega) (fun i D H => ∃ (xs : List V) (ds : List PyData) (Z : List Cell), xs.length = i ∧ (∀ H, Hd H Z → Paired (Dn K [] H m') xs ds) ∧ Hd H (lstC D xs :: stoC st c :: scrC c :: (Z ++ R))) (fun D H1 h1 => ⟨[], [], [], rfl, fun _ _ => .nil, h1⟩) ?_ ?_
    · rintro i D H3 hi ⟨xs, ds, Z, el, hz, h3⟩
      walk_at "gs"
      rw [show (((m' + 1 : Nat) : Int) - 1) = (m' : Int) by omega]
      refine g_lplain h3 (by walk_at "spl") (by omega) fun v d Z2 H4 hz2 h4 => ?_
      refine g_kapp h4 (by walk_at "pk") (by rw [el]; exact Nat.lt_of_lt_of_le (show i < 1001 by omega) (by decide)) fun H5 h5 => ?_
      refine ⟨xs ++ [v], ds ++ [d], Z2 ++ Z, by simp [el], fun H hz' => Paired.snoc (hz H (Hd.sb hz' (by walk_at "sbx"))) (hz2 H hz'.left), ?_⟩
      rw [List.append_assoc]
      exact Hd.sb h5 (by walk_at "sbx")
    · rintro D H3 ⟨xs, ds, Z, el, hz, h3⟩
      clear h1 h2
      walk_at "gs"
      refine w_ite (fun e6 => ?_) (fun e6 => ?_)
      · walk_at "gs"
        exact q (.ref D) (.list ds) (lstC D xs :: Z) H3 (fun H hz' => Dn.lt hz' (List.mem_cons_self ..) (by omega) (hz H hz'.tail)) (Hd.sb (A := stoC st c :: scrC c :: lstC D xs :: (Z ++ R)) h3 (by walk_at "sbx"))
      · walk_at "gs"
        rename_i p H4 h4
        exact q (.ref p) (.tuple ds) (tupC p xs :: Z) H4 (fun H hz' => Dn.tp hz' (List.mem_cons_self ..) (by omega) (hz H hz'.tail)) (Hd.sb (A := stoC st c :: scrC c :: tupC p xs :: (Z ++ R)) h4 (by walk_at "sbx"))
theorem c_lplain (T : Txt K mg aREG aOPS) (d : DefAt K mg "_law_plain" s__law_plain) (c__law_take : C8.Cal P w K mg base 2 "_law_take" sp_take []) (c__law_pick : C8.Cal P w K mg base 3 "_law_pick" (sp_pick K) []) (c__law_integer : C8.Cal P w K mg base 4 "_law_integer" sp_lint []) (c__law_text : C8.Cal P w K mg base 3 "_law_text" sp_ltext []) : ∀ n : Nat, C8.Cal P w K mg base (n + 4) "_law_plain" (sp_lplain K n) []
  | 0 => cal_false (ps := ["store", "deep"]) d (fun _ _ _ _ _ _ us hl => match us, hl with | [_, _], _ => rfl) fun vs H Q E ⟨_, _, _, _, _, z, _⟩ => absurd z (Nat.not_lt_zero _)
  | n + 1 => plain_step n T d c__law_take c__law_pick c__law_integer c__law_text (c_lplain T d c__law_take c__law_pick c__law_integer c__law_text n)
end
end K08
set_option Elab.async false
set_option linter.all false
set_option maxRecDepth 100000
set_option maxHeartbeats 4000000
namespace K08
open PySem PySem.Spec PyProof.Rows L2 Wk
local macro_rules | `(tactic| walk_at "u1") => `(tactic| fail "no more")
local macro_rules | `(tactic| walk_at "pos") => `(tactic| first | assumption | omega | decide | (simp only [Int.ofNat_eq_natCast] at *; omega))
local macro_rules | `(tactic| walk_at "sz") => `(tactic| first
  | (simp only [List.length_cons, List.length_nil]; decide)
  | exact Evl.sz_of (by omega)
  | exact Evl.sz_lt (by omega)
  | exact Evl.sz_of (by simp only [List.length_map, List.length_append, List.length_cons, List.length_nil, List.length_replicate]; omega)
  | exact Evl.sz_lt (by simp only [List.length_map, List.length_append, List.length_cons, List.length_nil, List.length_replicate]; omega))
local macro_rules | `(tactic| walk_at "cond") => `(tactic| first
  | exact Or.inr ⟨by decide, by decide⟩
  | (show (0 : Int) < _; first | decide | assumption | omega)
  | exact Or.inl ⟨by omega, by omega⟩
  | exact Or.inr ⟨by omega, by omega⟩
  | exact ⟨by decide, by decide, by decide⟩
  | exact log2_lt (by omega) (by omega)
  | exact ⟨by omega, by omega⟩)
local macro_rules | `(tactic| walk_at "ty") => `(tactic| first
  | exact ty_int | exact ty_bl | exact ty_str | exact ty_non
  | exact ty_L (by assumption) | exact ty_T (by assumption)
  | exact ty_L (SqL.of (by assumption)) | exact ty_T (SqT.of (by assumption)))
local macro_rules | `(tactic| walk_at "kit") => `(tactic| first
  | exact k_ii | exact k_ib | exact k_is | exact k_il | exact k_it
  | exact k_bb | exact k_bi | exact k_bs | exact k_bl | exact k_bt
  | exact k_ss | exact k_sb | exact k_si | exact k_sl | exact k_st
  | exact k_ll | exact k_lb | exact k_li | exact k_ls | exact k_lt
  | exact k_tt | exact k_tb | exact k_ti | exact k_ts | exact k_tl
  | exact k_nn | exact k_ni | exact k_ns | exact k_nl | exact k_nt)
local macro_rules | `(tactic| walk_at "s1") => `(tactic| first
  | with_reducible refine w_seq ?_
  | with_reducible refine w_set ?_
  | with_reducible refine w_op ?_
  | ((with_reducible refine' w_var ?h1 ?_); (case h1 => rfl))
  | with_reducible refine w_c ?_
  | with_reducible refine w_cb ?_
  | with_reducible refine w_cons ?_
  | with_reducible refine w_nil ?_
  | with_reducible refine w_I0 ?_
  | ((with_reducible refine' w_I ?c1 ?_); case c1 => walk_at "cond")
  | with_reducible refine w_ret ?_
  | with_reducible refine w_next ?_
  | with_reducible refine w_ifS ?_
  | with_reducible refine w_test ?_
  | with_reducible refine w_tB ?_
  | with_reducible refine w_k ?_
  | with_reducible refine w_eqI ?_
  | with_reducible refine w_neI ?_
  | with_reducible refine w_eqS ?_
  | with_reducible refine w_neS ?_
  | with_reducible refine w_and ?_
  | with_reducible refine w_or ?_
  | with_reducible refine w_not ?_
  | with_reducible refine w_andV ?_
  | with_reducible refine w_orV ?_
  | with_reducible refine w_notV ?_
  | with_reducible refine w_ifE ?_
  | with_reducible refine w_true ?_
  | with_reducible refine w_false ?_
  | with_reducible refine w_ntrue ?_
  | with_reducible refine w_nfalse ?_
  | with_reducible refine w_call ?_
  | with_reducible refine c_int ?_
  | with_reducible refine c_abs ?_
  | with_reducible refine c_max ?_
  | with_reducible refine c_min ?_
  | with_reducible refine w_drop ?_
  | with_reducible refine w_sfld ?_
  | with_reducible refine w_meth ?_
  | with_reducible refine w_make ?_
  | with_reducible refine w_prop ?_
  | with_reducible refine w_callK ?_
  | with_reducible refine w_callN ?_
  | with_reducible refine w_star ?_
  | with_reducible refine w_gcons ?_
  | with_reducible refine w_gname ?_
  | with_reducible refine w_gnil ?_
  | with_reducible refine w_retN ?_
  | with_reducible refine w_tup ?_
  | with_reducible refine w_lst ?_
  | with_reducible refine w_fld ?_
  | with_reducible refine w_bm ?_
  | with_reducible refine w_bm0 ?_
  | with_reducible refine w_forL ?_
  | with_reducible refine w_forT ?_
  | with_reducible refine w_forS ?_
  | with_reducible refine w_forR ?_
  | with_reducible refine w_lcR ?_
  | with_reducible refine w_lcL ?_
  | with_reducible refine w_lcT ?_
  | with_reducible refine w_isN ?_
  | with_reducible refine w_notN ?_
  | with_reducible refine w_asg ?_
  | with_reducible refine w_gsub ?_
  | ((with_reducible refine' w_aug ?h1 ?_); (case h1 => rfl))
  | with_reducible refine w_augS ?_
  | with_reducible refine w_ipI ?_
  | with_reducible refine w_un ?_
  | with_reducible refine w_U ?_
  | ((with_reducible refine' w_iteF ?f1 ?_); case f1 => (first | (intro h; cases h; done) | decide))
  | ((with_reducible refine' w_iteT ?f1 ?_); case f1 => rfl)
  | ((with_reducible refine' w_iteNF ?f1 ?_); case f1 => rfl)
  | ((with_reducible refine' w_iteNT ?f1 ?_); case f1 => (first | (intro h; cases h; done) | decide))
  | ((with_reducible refine' c_isi ?t1 ?k1 ?_); (case t1 => walk_at "ty"); (case k1 => walk_at "kit"))
  | ((with_reducible refine' w_eq ?e1 ?_); case e1 => rfl)
  | ((with_reducible refine' w_ne ?e1 ?_); case e1 => rfl)
  | walk_at "u1")
local macro_rules | `(tactic| walk_at "s") => `(tactic| repeat walk_at "s1")
local macro_rules | `(tactic| walk_at "mem") => `(tactic| first | with_reducible exact List.mem_cons_self .. | ((with_reducible refine' List.mem_cons_of_mem _ ?q); (case q => walk_at "mem")) | assumption | ((with_reducible refine' List.mem_append_right _ ?q); (case q => walk_at "mem")) | (exact List.mem_append_left _ (by assumption)))
local macro_rules | `(tactic| walk_at "pk") => `(tactic| first | with_reducible exact Pk.here | ((with_reducible refine' Pk.there ?q); (case q => walk_at "pk")) | ((with_reducible refine' Pk.app ?q); (case q => walk_at "pk")))
local macro_rules | `(tactic| walk_at "pkb") => `(tactic| first | with_reducible exact PkB.here | ((with_reducible refine' PkB.there ?q); (case q => walk_at "pkb")) | ((with_reducible refine' PkB.app ?q); (case q => walk_at "pkb")))
local macro_rules | `(tactic| walk_at "spl") => `(tactic| first | with_reducible exact Spl.nil | ((with_reducible refine' Spl.cons ?h ?t); (case h => walk_at "pk"); (case t => walk_at "spl")) | ((with_reducible refine' Spl.blk ?h ?t); (case h => walk_at "pkb"); (case t => walk_at "spl")))
local macro_rules | `(tactic| walk_at "sbx") => `(tactic| first | with_reducible exact Sb.refl | with_reducible exact Sb.nil | with_reducible exact Sb.left | ((with_reducible refine' Sb.cons ?h ?t); (case h => walk_at "pk"); (case t => walk_at "sbx")) | ((with_reducible refine' Sb.blk ?h ?t); (case h => walk_at "pkb"); (case t => walk_at "sbx")) | ((with_reducible refine' Sb.drop ?q); (case q => walk_at "sbx")) | ((with_reducible refine' Sb.right ?q); (case q => walk_at "sbx")))
local macro_rules | `(tactic| walk_at "hd") => `(tactic| first | assumption | exact Hd.sb (by assumption) (by walk_at "sbx"))
local macro_rules | `(tactic| walk_at "sq") => `(tactic| first
  | assumption
  | exact Hd.sqL (by assumption) (by walk_at "mem")
  | exact Hd.sqT (by assumption) (by walk_at "mem")
  | exact Hd.sqF (by assumption) (by walk_at "mem")
  | (refine .inl ?_; walk_at "sq")
  | (refine .inr ?_; walk_at "sq"))
local macro_rules | `(tactic| walk_at "at") => `(tactic| first | rfl | assumption | exact atI_nat (by assumption))
local macro_rules | `(tactic| walk_at "dn1") => `(tactic| first
  | exact Dn.int | exact Dn.str | exact Dn.non | exact Dn.bl | assumption
  | ((refine' Dn.tp ?a1 ?m1 ?l1 ?p1); (case a1 => assumption); (case m1 => walk_at "mem"); (case l1 => (simp only [List.length_cons, List.length_nil]; omega)); (case p1 => walk_at "dns"))
  | ((refine' Dn.lt ?a1 ?m1 ?l1 ?p1); (case a1 => assumption); (case m1 => walk_at "mem"); (case l1 => (simp only [List.length_cons, List.length_nil]; omega)); (case p1 => walk_at "dns")))
local macro_rules | `(tactic| walk_at "dns") => `(tactic| first | exact Paired.nil | exact Dn.ints | ((refine' Paired.cons ?a1 ?b1); (case a1 => walk_at "dn1"); (case b1 => walk_at "dns")))
local macro_rules | `(tactic| walk_at "g1") => `(tactic| first
  | ((with_reducible refine' g_ixI ?h1 ?h2 ?h3 ?_); (case h1 => assumption); (case h2 => walk_at "mem"); (case h3 => omega); intro z hz)
  | ((with_reducible refine' g_ixIT ?h1 ?h2 ?h3 ?_); (case h1 => assumption); (case h2 => walk_at "mem"); (case h3 => omega); intro z hz)
  | ((with_reducible refine' g_setI ?h1 ?h2 ?h3 ?_); (case h1 => assumption); (case h2 => walk_at "pk"); (case h3 => omega); intro H2 hh2)
  | ((with_reducible refine' w_ixL ?h1 ?h2 ?_); (case h1 => walk_at "sq"); (case h2 => walk_at "at"))
  | ((with_reducible refine' w_ixT ?h1 ?h2 ?_); (case h1 => walk_at "sq"); (case h2 => walk_at "at"))
  | ((with_reducible refine' w_ixAny ?h1 ?h2 ?_); (case h1 => walk_at "sq"); (case h2 => walk_at "at"))
  | ((with_reducible refine' c_lenA ?h1 ?_); (case h1 => walk_at "sq"))
  | ((with_reducible refine' c_isi ?t1 ?k1 ?_); (case t1 => first | exact ty_T (by walk_at "sq") | exact ty_L (by walk_at "sq")); (case k1 => walk_at "kit"))
  | ((with_reducible refine' g_lst ?h1 ?h2 ?_); (case h1 => assumption); (case h2 => walk_at "sz"); intro p H2 hh2)
  | ((with_reducible refine' g_tup ?h1 ?h2 ?_); (case h1 => assumption); (case h2 => walk_at "sz"); intro p H2 hh2)
  | ((with_reducible refine' g_dict ?h1 ?_); (case h1 => assumption); intro p H2 hh2)
  | ((with_reducible refine' g_listL ?h1 ?h2 ?_); (case h1 => assumption); (case h2 => walk_at "sq"); intro p H2 hh2)
  | ((with_reducible refine' g_listT ?h1 ?h2 ?_); (case h1 => assumption); (case h2 => walk_at "sq"); intro p H2 hh2)
  | ((with_reducible refine' g_tupL ?h1 ?h2 ?_); (case h1 => assumption); (case h2 => walk_at "sq"); intro p H2 hh2)
  | ((with_reducible refine' g_set ?h1 ?h2 ?h3 ?_); (case h1 => assumption); (case h2 => walk_at "pk"); (case h3 => first | rfl | assumption | exact Evl.ixN_nat (by first | omega | (simp only [List.length_cons, List.length_nil]; omega))); intro H2 hh2)
  | ((with_reducible refine' g_kbm ?h1 ?h2 ?_); (case h1 => assumption); (case h2 => walk_at "mem"))
  | ((with_reducible refine' g_kbm0 ?h1 ?h2 ?_); (case h1 => assumption); (case h2 => walk_at "mem"))
  | ((with_reducible refine' g_app ?h1 ?h2 ?h3 ?_); (case h1 => assumption); (case h2 => walk_at "pk"); (case h3 => walk_at "sz"); intro H2 hh2)
  | ((with_reducible refine' g_kapp ?h1 ?h2 ?h3 ?_); (case h1 => assumption); (case h2 => walk_at "pk"); (case h3 => walk_at "sz"); intro H2 hh2)
  | ((with_reducible refine' g_fld ?h1 ?h2 ?h3 ?h4 ?h5 ?_); (case h1 => assumption); (case h2 => walk_at "mem"); (case h3 => assumption); (case h4 => assumption); (case h5 => rfl))
  | ((with_reducible refine' g_sfld ?h1 ?h2 ?h3 ?h4 ?h5 ?_); (case h1 => assumption); (case h2 => walk_at "pk"); (case h3 => assumption); (case h4 => assumption); (case h5 => decide); intro H2 hh2)
  | ((with_reducible refine' g_meth ?h1 ?h2 ?h3 ?_); (case h1 => assumption); (case h2 => walk_at "mem"); (case h3 => rfl))
  | ((with_reducible refine' g_prop ?h1 ?h2 ?_); (case h1 => assumption); (case h2 => walk_at "mem"))
  | ((with_reducible refine' g_make ?h1 ?_); (case h1 => assumption); intro x H2 hh2)
  | ((with_reducible refine' g_cat ?h1 ?h2 ?h3 ?h4 ?_); (case h1 => assumption); (case h2 => walk_at "mem"); (case h3 => walk_at "mem"); (case h4 => walk_at "sz"); intro p H2 hh2)
  | ((with_reducible refine' g_inT ?h1 ?h2 ?h3 ?h4 ?h5 ?_); (case h1 => assumption); (case h2 => walk_at "mem"); (case h3 => rfl); (case h4 => rfl); (case h5 => rfl)))
local macro_rules | `(tactic| walk_at "gs") => `(tactic| repeat first | walk_at "s1" | walk_at "g1")
local macro_rules | `(tactic| walk_at "ite") => `(tactic| first
  | ((with_reducible refine' w_iteT ?h1 ?_); (case h1 => omega))
  | ((with_reducible refine' w_iteF ?h1 ?_); (case h1 => omega))
  | (with_reducible refine w_ite ?_ ?_ <;> intro hq)
  | ((with_reducible refine' w_iteNT ?h1 ?_); (case h1 => omega))
  | ((with_reducible refine' w_iteNF ?h1 ?_); (case h1 => omega))
  | (with_reducible refine w_iteN ?_ ?_ <;> intro hq))
local macro_rules | `(tactic| walk_at "go") => `(tactic| repeat' first | walk_at "s1" | walk_at "g1" | walk_at "ite")
local macro_rules | `(tactic| walk_at "g1") => `(tactic| first
  | ((with_reducible refine' g_take1 ?h1 ?h2 ?h3 ?h4 ?_); (case h1 => assumption); (case h2 => walk_at "spl"); (case h3 => omega); (case h4 => omega); intro k H2 hk1 hh2)
  | ((with_reducible refine' g_take ?h1 ?h2 ?h4 ?_); (case h1 => assumption); (case h2 => walk_at "spl"); (case h4 => omega); intro k H2 hk1 hh2)
  | ((with_reducible refine' g_betweenN ?h1 ?h2 ?h5 ?h3 ?h4 ?_); (case h1 => assumption); (case h2 => walk_at "spl"); (case h5 => omega); (case h3 => omega); (case h4 => omega); intro k H2 hk1 hk2 hh2)
  | ((with_reducible refine' g_between ?h1 ?h2 ?h3 ?h4 ?_); (case h1 => assumption); (case h2 => walk_at "spl"); (case h3 => omega); (case h4 => omega); intro k H2 hk1 hk2 hh2)
  | ((with_reducible refine' g_size ?h1 ?h2 ?h3 ?h4 ?_); (case h1 => assumption); (case h2 => walk_at "spl"); (case h3 => omega); (case h4 => omega); intro k H2 hk1 hh2)
  | ((with_reducible refine' g_word ?h1 ?h2 ?_); (case h1 => assumption); (case h2 => walk_at "spl"); intro k H2 hk1 hh2))
local macro_rules | `(tactic| walk_at "g1") => `(tactic| first | with_reducible refine w_sl ?_ | with_reducible refine w_part ?_ | with_reducible refine w_noPart ?_ | with_reducible refine w_exI ?_)
section
variable {P : Program} {w : World} {K : PySem.W.Frag} {mg : Str → Option Value} {base : Heap} {aREG aOPS : Addr}
/-! ### what is no instruction -/
def opOkU (z : Str) (v : V) : Bool := if z == "N" then isR v 0 1023 else inTx regL v
def okU (_ : Nat) (_ : V) : Prop := True
section
variable {D U : Nat} {G : Pins} {f g h j : Addr} {fd gd kd jd : FuncData} {v : V} {t : String} {lo hi : Int}
theorem rf_isopU {c : Nat} (T : Txt K mg aREG aOPS) (B : Tabs K aREG aOPS) (M : Mod K mg base) (d1 : FunT K "is_integer" s_is_integer f fd) (m1 : mg "is_integer" = some (.ref f)) (d2 : FunT K "is_in_range" s_is_in_range g gd) (m2 : mg "is_in_range" = some (.ref g)) (d3 : FunT K "is_number" s_is_number h kd) (m3 : mg "is_number" = some (.ref h)) (d : FunT K "_is_operand" s__is_operand j jd) (kw : KW G v t) (hD : D + 3 < recursionLimit) (hU : U + 4 < cLine) : RFU P w base D U j [.str ⟨#[c]⟩, v] G (.bl (opOkU ⟨#[c]⟩ v)) := by
  have hs : ∀ {env : Env} {p : Pos} (c0 : RC (defScope s__is_operand) env), RE P w base (D + 1) env [(("sort" : Str), .str ⟨#[c]⟩), (("operand" : Str), v)] G (.Name "sort" p) (.str ⟨#[c]⟩) := fun c0 => re_name c0 rfl (List.mem_cons_self ..)
  have ho : ∀ {env : Env} {p : Pos} (c0 : RC (defScope s__is_operand) env), RE P w base (D + 1) env [(("sort" : Str), .str ⟨#[c]⟩), (("operand" : Str), v)] G (.Name "operand" p) v := fun c0 => re_name c0 rfl (List.mem_cons_of_mem _ (List.mem_cons_self ..))
  refine rf_ifU (b := ((⟨#[c]⟩ : Str) == "N")) d M sc__is_operand (by decide +kernel) (by decide +kernel) (fun _ _ _ _ _ _ us hl => match us, hl with | [_, _], _ => rfl) rfl (by omega) (fun env c0 => re_eqS (hs c0) re_str) (fun hb env c0 => ?_) (fun hb env c0 => ?_)
  · have F := rf_number (P := P) (w := w) (D := D + 1) T M d1 m1 d2 m2 d3 kw.kv (by omega)
    rw [show opOkU ⟨#[c]⟩ v = isR v 0 1023 by unfold opOkU; rw [hb]; rfl]
    exact (re_call M c0 rfl m3 d3.kp F (ra_cons (ho c0) ra_nil)).u
  · obtain ⟨u, e1, e2⟩ := T.g_REGISTERS
    rw [show opOkU ⟨#[c]⟩ v = inTx regL v by unfold opOkU; rw [hb]; rfl]
    exact re_inSU M B.reg kw (by omega) (ho c0) (re_glob M c0 rfl e1 e2)
end
/-- what may stand where the name stands -/
def NmV (K : PySem.W.Frag) (H : Hp) (v : V) : Prop := (∃ z, v = .str z ∧ PyData.strOk z = true) ∨ (∃ i, v = .int i) ∨ (∃ b, v = .bl b) ∨ v = .non ∨ ∃ a, v = .ref a ∧ SqT K H a []
theorem NmV.upt {H H' : Hp} {v : V} (h : NmV K H v) (u : Upt [] H H') : NmV K H' v := by
  rcases h with h | h | h | h | ⟨a, e, q⟩
  · exact .inl h
  · exact .inr (.inl h)
  · exact .inr (.inr (.inl h))
  · exact .inr (.inr (.inr (.inl h)))
  · exact .inr (.inr (.inr (.inr ⟨a, e, q.upt u⟩)))
theorem shp_str {y : Str} (h : PyData.strOk y = true) : SeqAt.shaped (.str y) = true := by
  show (PyData.strOk y && _) = true
  rw [h]
  rfl
theorem nm_ok {i : Nat} (h : i < 16) : PyData.strOk (opNm i) = true := by
  have k : ∀ o : Fin 16, PyData.strOk (opNm o.1) = true := by decide +kernel
  exact k ⟨i, h⟩
theorem nm_dp {H : Hp} {v : V} (h : NmV K H v) : ∃ d, Dp K H v d ∧ SeqAt.shaped d = true ∧ ∀ z, PyData.eqv (.str z) d = decide (v = .str z) := by
  rcases h with ⟨y, rfl, hy⟩ | ⟨i, rfl⟩ | ⟨b, rfl⟩ | rfl | ⟨a, rfl, q⟩
  · refine ⟨.str y, .str y, shp_str hy, fun z => ?_⟩
    show (z == y) = _
    by_cases e : z = y
    · subst e; simp
    · rw [beq_eq_false_iff_ne.mpr e, decide_eq_false (fun h => e (by cases h; rfl))]
  · exact ⟨.int i, .int i, by rfl, fun z => (decide_eq_false (fun h => by cases h)).symm⟩
  · exact ⟨.bool b, .bl b, by rfl, fun z => (decide_eq_false (fun h => by cases h)).symm⟩
  · exact ⟨.none, .non, by rfl, fun z => (decide_eq_false (fun h => by cases h)).symm⟩
  · exact ⟨.tuple [], .tup q .nil, by rfl, fun z => (decide_eq_false (fun h => by cases h)).symm⟩
/-- what the name's place is: r -/
def NmR (v r : V) : Prop := (r = .non ∧ ∀ o, o < 16 → v ≠ .str (opNm o)) ∨ ∃ o : Nat, o < 16 ∧ v = .str (opNm o) ∧ r = .int o
theorem nm_inj {i o : Nat} (hi : i < 16) (ho : o < 16) (e : opNm i = opNm o) : i = o := by
  rcases Nat.lt_trichotomy i o with h | h | h
  · exact absurd e (nm_ne h ho)
  · exact h
  · exact absurd e.symm (nm_ne h hi)
def sp_numofF (K : PySem.W.Frag) : Sp := fun vs H Q _ => ∃ v r : V, vs = [v] ∧ NmV K H v ∧ NmR v r ∧ ∀ H', Upt [] H H' → Q r H'
theorem c_numofF (T : Txt K mg aREG aOPS) (B : Tabs K aREG aOPS) (d : DefAt K mg "_number_of" s__number_of) : C8.Cal P w K mg base 1 "_number_of" (sp_numofF K) [] := by
  refine mk d sc__number_of (fun _ _ _ _ _ _ us hl => match us, hl with | [_], _ => rfl) (fun vs H Q E h => ?_) (fun f cdv A outer s H vs Q E hr h => ?_)
  · obtain ⟨v, r, rfl, _⟩ := h
    rfl
  · obtain ⟨v, r, rfl, hv, hne, q⟩ := h
    refine ⟨_, (pss_cons (ps_for PassesOwn.never rfl (pi_enumT rfl T.b_enumerate (pa_cons (C8.pe_gc rfl T.g_OPERATIONS) pa_nil)) (pg_tup rfl (pgs_cons (pg_name (i := 1) sc__number_of.nd rfl (Or.inl rfl)) (pgs_cons (pg_name (i := 2) sc__number_of.nd rfl (Or.inl rfl)) pgs_nil)))
    (pss_one (ps_if (pt_cmpR (op_eqD hr.units) (pe_ix ix_tup (pv 2) pe_int (fun _ _ => rfl)) (pv 0) (nomark _))
        (pss_one (ps_ret (pv 1)))
        pss_nil)))
  (pss_one (ps_ret pe_non))), ?_⟩
    obtain ⟨as, hl, hA, hR⟩ := ops_at B
    walk_at "s"
    refine w_forET ?_
    walk_at "s"
    refine ⟨aOPS, as.map V.ref, rfl, hA _, for_enumT (fun i σ H1 => ∃ v1 v2 : Option V, σ = [some v, v1, v2] ∧ (∀ j, j < i → v ≠ .str (opNm j)) ∧ Upt [] H H1) ⟨none, none, rfl, fun _ h => absurd h (Nat.not_lt_zero _), Upt.refl H⟩ (fun i σ H _ => hA _) ?_ ?_⟩
    · rintro i y T0 σ H1 hy ⟨v1, v2, rfl, hj, u1⟩ hT
      rw [List.getElem?_map] at hy
      cases ha : as[i]? with
      | none => rw [ha] at hy; cases hy
      | some a =>
        rw [ha] at hy
        cases hy
        have hi : i < 16 := by have := (List.getElem?_eq_some_iff.mp ha).1; omega
        have nw : New H1 (upd H1 T0 (.tup [.int (i : Nat), .ref a])) T0 (.tup [.int (i : Nat), .ref a]) := New.of hT
        have u2 := u1.trans nw.keep
        refine w_gtup (SqT.of nw.at_) rfl ?_
        refine w_gcons (w_gname (w_gcons (w_gname (w_gnil ?_))))
        walk_at "s"
        refine w_ixT (i := 0) (hR i a ha _) rfl ?_
        walk_at "s"
        obtain ⟨d, hd, hsh, he⟩ := nm_dp (hv.upt u2)
        refine ⟨.str (opNm i), d, .str _, hd, shp_str (nm_ok hi), hsh, ?_⟩
        rw [he]
        refine ⟨_, rfl, ?_⟩
        refine w_ite (fun e => ?_) (fun e => ?_)
        · walk_at "s"
          rcases hne with ⟨_, hne⟩ | ⟨o, ho, e2, rfl⟩
          · exact absurd e (hne i hi)
          · have : i = o := nm_inj hi ho (V.str.inj (e.symm.trans e2))
            subst this
            exact q _ u2
        · walk_at "s"
          refine ⟨_, _, rfl, fun j hj2 => ?_, u2⟩
          rcases Nat.lt_succ_iff_lt_or_eq.mp hj2 with h | h
          · exact hj j h
          · subst h; exact e
    · rintro σ H1 ⟨v1, v2, rfl, hj, u1⟩
      rw [List.length_map, hl] at hj
      walk_at "s"
      rcases hne with ⟨rfl, _⟩ | ⟨o, ho, e2, rfl⟩
      · exact q _ u1
      · exact absurd e2 (hj o ho)
/-- the operands' sorts: r -/
def OpR (v r : V) : Prop := (r = .non ∧ ∀ o, o < 16 → v ≠ .str (opNm o)) ∨ ∃ o : Nat, o < 16 ∧ v = .str (opNm o) ∧ r = .str (opSo o)
def sp_opsofF (K : PySem.W.Frag) : Sp := fun vs H Q _ => ∃ v r : V, vs = [v] ∧ NmV K H v ∧ OpR v r ∧ ∀ H', Upt [] H H' → Q r H'
theorem c_opsofF (T : Txt K mg aREG aOPS) (B : Tabs K aREG aOPS) (d : DefAt K mg "operands_of" s_operands_of) (c__number_of : C8.Cal P w K mg base 1 "_number_of" (sp_numofF K) []) : C8.Cal P w K mg base 2 "operands_of" (sp_opsofF K) [] := by
  refine mk d sc_operands_of (fun _ _ _ _ _ _ us hl => match us, hl with | [_], _ => rfl) (fun vs H Q E h => ?_) (fun f cdv A outer s H vs Q E hr h => ?_)
  · obtain ⟨v, r, rfl, _⟩ := h
    rfl
  · obtain ⟨v, r, rfl, hv, hr2, q⟩ := h
    refine ⟨_, (pss_cons (ps_set (i := 1) sc_operands_of.nd rfl (Or.inl rfl) (C8.pe_c c__number_of hr (by first | decide | omega) rfl (pa_cons (pv 0) pa_nil)))
  (pss_one (ps_ret (pe_ifExp (pt_cmpR op_isN1 (pv 1) pe_non (nomark _)) pe_non (pe_ix ix_tup (pe_ix ix_seq (C8.pe_gc rfl T.g_OPERATIONS) (pv 1) (fun _ _ => rfl)) pe_int (fun _ _ => rfl)))))), ?_⟩
    obtain ⟨as, hl, hA, hR⟩ := ops_at B
    walk_at "s"
    rcases hr2 with ⟨rfl, hne⟩ | ⟨o, ho, rfl, rfl⟩
    · refine ⟨v, .non, rfl, hv, .inl ⟨rfl, hne⟩, fun H1 u1 => ?_⟩
      walk_at "s"
      exact q _ u1
    · refine ⟨.str (opNm o), .int o, rfl, hv, .inr ⟨o, ho, rfl, rfl⟩, fun H1 u1 => ?_⟩
      walk_at "s"
      have ha := List.getElem?_eq_getElem (show o < as.length by omega)
      refine w_ixAny (xs := as.map V.ref) (v := .ref as[o]) (.inr (hA _)) (atI_nat (by rw [List.getElem?_map, ha]; rfl)) ?_
      walk_at "s"
      refine w_ixT (i := 1) (hR o _ ha _) rfl ?_
      walk_at "s"
      exact q _ u1
/-- no instruction, as it stands -/
def BadIn (K : PySem.W.Frag) (H : Hp) (v : V) : Prop :=
  (∃ t, TyX K H v (.type t) ∧ kitB t "tuple" = some false) ∨
  ∃ (a : Addr) (xs : List V), v = .ref a ∧ SqT K H a xs ∧ (xs = [] ∨ ∃ (v0 : V) (rest : List V), xs = v0 :: rest ∧ NmV K H v0 ∧
    ((∀ o, o < 16 → v0 ≠ .str (opNm o)) ∨ ∃ o : Nat, o < 16 ∧ v0 = .str (opNm o) ∧ (rest.length ≠ (opSo o).cps.toList.length ∨
      (rest.length = (opSo o).cps.toList.length ∧ (∀ u ∈ rest, ∃ t, KH K H u t) ∧ ∃ (j c : Nat) (u : V), (opSo o).cps.toList[j]? = some c ∧ rest[j]? = some u ∧ opOkU ⟨#[c]⟩ u = false))))
theorem kh_upt {H H' : Hp} {v : V} {t : String} (h : KH K H v t) (u : Upt [] H H') : KH K H' v t := by
  cases h with
  | non => exact .non
  | bl => exact .bl
  | int => exact .int
  | str => exact .str
  | lst e => exact .lst (e.upt u)
  | tup e => exact .tup (e.upt u)
def sp_isinsF (K : PySem.W.Frag) (tP : Addr) : Sp := fun vs H Q _ => ∃ v : V, vs = [v] ∧ BadIn K H v ∧ GxR.TabG H tP ∧ ∀ H', GxR.TabG H' tP → Upt [tP] H H' → Q (.bl false) H'
theorem c_isinsF {c tP : Addr} (T : Txt K mg aREG aOPS) (B : Tabs K aREG aOPS) (TB : GxR.TabB base mg c tP) (d : DefAtC K mg "is_instruction" s_is_instruction c) (d1 : DefAt K mg "is_integer" s_is_integer) (d2 : DefAt K mg "is_in_range" s_is_in_range) (d3 : DefAt K mg "is_number" s_is_number) (d4 : DefAt K mg "_is_operand" s__is_operand) (c_operands_of : C8.Cal P w K mg base 2 "operands_of" (sp_opsofF K) []) : C8.Cal P w K mg base 6 "is_instruction" (sp_isinsF K tP) [] := by
  obtain ⟨f1, fd1, F1, m1⟩ := d1
  obtain ⟨f2, fd2, F2, m2⟩ := d2
  obtain ⟨f3, fd3, F3, m3⟩ := d3
  obtain ⟨f4, fd4, F4, m4⟩ := d4
  refine mkC d sc_is_instruction (fun _ _ _ _ _ _ us hl => match us, hl with | [_], _ => rfl) (fun vs H Q E h => ?_) (fun fa A outer s H vs Q E hr h => ?_)
  · obtain ⟨v, rfl, _⟩ := h
    rfl
  · obtain ⟨v, rfl, hb, hT, q⟩ := h
    have hD : (A.deeper (envOfC "is_instruction" (defScope s_is_instruction) s.heap.objs.size fa (.ref c))).depth + 1 + 3 < recursionLimit := by have := hr.dp; omega
    have hU : (A.deeper (envOfC "is_instruction" (defScope s_is_instruction) s.heap.objs.size fa (.ref c))).units + 8 + 4 < cLine := by have := hr.un; omega
    refine ⟨_, (pss_cons (ps_if (PW.pt (pw_or (pt_not (pt_val (pe_callB call_isi (by rfl) T.b_isinstance (by decide +kernel) (pa_cons (pv 0) (pa_cons (pe_bltn (v := .ty "tuple") (by rfl) T.b_tuple (by decide +kernel) rfl) pa_nil))))) (pw_or1 (pt_cmpR op_eq (pe_callB Wk.b_len (by rfl) T.b_len (by decide +kernel) (pa_cons (pv 0) pa_nil)) pe_int (nomark _)))))
    (pss_one (ps_ret pe_bl))
    pss_nil)
  (pss_cons (ps_set (i := 1) sc_is_instruction.nd rfl (Or.inl rfl) (C8.pe_c c_operands_of hr (by first | decide | omega) rfl (pa_cons (pe_ix ix_tup (pv 0) pe_int (fun _ _ => rfl)) pa_nil)))
  (pss_cons (ps_if (PW.pt (pw_or (pt_cmpR op_isN1 (pv 1) pe_non (nomark _)) (pw_or1 (pt_cmpR op_ne (pe_callB Wk.b_len (by rfl) T.b_len (by decide +kernel) (pa_cons (pv 0) pa_nil)) (pe_op op_add pe_int (pe_callB Wk.b_lenT (by rfl) T.b_len (by decide +kernel) (pa_cons (pv 1) pa_nil))) (nomark _)))))
    (pss_one (ps_ret pe_bl))
    pss_nil)
  (pss_one (ps_ret (pe_allZU (pb := opOkU) (ok := okU) hr rfl T.b_all rfl T.b_zip TB rfl ⟨rfl, rfl, by decide +kernel, rfl, rfl, rfl, by decide, fun y hy hf => absurd hf (by revert y; decide +kernel)⟩ (pa_cons (pv 1) (pa_cons (pe_slice sl_tup (pv 0) (po_some pe_int) po_none) pa_nil)) (fun M cenv G c v t rc kv okv => ?_) (fun _ => rfl))))))), ?_⟩
    · exact re_callU M rc rfl m4 F4.kp (rf_isopU (f := f1) (g := f2) (h := f3) T B M F1 m1 F2 m2 F3 m3 F4 kv hD hU) (ra_cons (re_name rc rfl (List.mem_cons_self ..)) (ra_cons (re_name rc rfl (List.mem_cons_of_mem _ (List.mem_cons_self ..))) ra_nil))
    · rcases hb with ⟨t, ty, kt⟩ | ⟨a, xs, rfl, ha, hx⟩
      · walk_at "s"
        refine c_isi ty kt ?_
        walk_at "s"
        exact q H hT (Upt.refl H)
      · have ty := ty_T ha
        walk_at "s"
        rcases hx with rfl | ⟨v0, rest, rfl, hnm, hx⟩
        · refine c_lenT ha ?_
          walk_at "s"
          exact q H hT (Upt.refl H)
        · refine c_lenT ha ?_
          rw [List.length_cons]
          walk_at "s"
          refine w_ixT (i := 0) (v := v0) ha (atI_nat (j := 0) rfl) ?_
          walk_at "s"
          rcases hx with hne | ⟨o, ho, rfl, hx⟩
          · refine ⟨v0, .non, rfl, hnm, .inl ⟨rfl, hne⟩, fun H1 u1 => ?_⟩
            have u2 : Upt [tP] H H1 := Upt.mono (fun b h => absurd h (List.not_mem_nil)) u1
            walk_at "s"
            exact q H1 (tabG hT (by simp) u1) u2
          · refine ⟨.str (opNm o), .str (opSo o), rfl, hnm, .inr ⟨o, ho, rfl, rfl⟩, fun H1 u1 => ?_⟩
            have u2 : Upt [tP] H H1 := Upt.mono (fun b h => absurd h (List.not_mem_nil)) u1
            have ik := so_key ho
            have lz : (opSo o).length = (opSo o).cps.toList.length := by simp [Str.length]
            walk_at "s"
            refine c_lenT (ha.upt u1) ?_
            walk_at "s"
            refine c_lenS (Nat.le_trans ik.1 (by decide)) ?_
            rw [List.length_cons]
            walk_at "s"
            rcases hx with hlen | ⟨hlen, hk, j, c0, u, hc, hu, hbad⟩
            · refine nisT (by omega) ?_
              walk_at "s"
              exact q H1 (tabG hT (by simp) u1) u2
            · refine nisF (by omega) ?_
              walk_at "s"
              unfold tAllZ
              walk_at "gs"
              refine ⟨a, .str (opNm o) :: rest, rfl, ha.upt u1, (by rw [List.length_cons]; unfold HT.sIx; simp), fun p2 hp2 => ?_⟩
              have nw : New H1 (upd H1 p2 (.tup (cutV (.str (opNm o) :: rest) (some 1) none))) p2 (.tup (cutV (.str (opNm o) :: rest) (some 1) none)) := New.of hp2
              rw [show cutV (.str (opNm o) :: rest) (some (1 : Int)) none = rest from (show cutV (.str (opNm o) :: rest) (some ((1 : Nat) : Int)) none = rest by rw [cut_lo]; rfl)] at nw ⊢
              have u3 := u1.trans nw.keep
              have hT3 := tabG hT (S := []) (by simp) u3
              walk_at "s"
              refine ⟨opSo o, p2, rest, rfl, SqT.of nw.at_, fun v hv => let ⟨t, h⟩ := hk v hv; ⟨t, kh_upt h u3⟩, fun _ _ _ _ _ => trivial, hT3, fun H3 hT4 => ?_⟩
              have e : allZ opOkU (opSo o) rest = false := by
                unfold allZ
                rw [List.all_eq_false]
                have hj := (List.getElem?_eq_some_iff.mp hc).1
                refine ⟨j, List.mem_range.mpr ?_, ?_⟩
                · rw [hlen, Array.length_toList, Nat.min_self, ← Array.length_toList]
                  exact hj
                · rw [trZ_some (c := c0) (v := u) (by simpa using hc) hu, hbad]
                  exact Bool.false_ne_true
              rw [e]
              exact q H3 hT4.1 fun b o n e => (hT4.2 b fun z => n (List.mem_singleton.mpr z)).trans (u3 b o (by simp) e)
end
end K08
set_option Elab.async false
set_option linter.all false
set_option maxRecDepth 100000
set_option maxHeartbeats 4000000
namespace K08
open PySem PySem.Spec PyProof.Rows L2 Wk
local macro_rules | `(tactic| walk_at "u1") => `(tactic| fail "no more")
local macro_rules | `(tactic| walk_at "pos") => `(tactic| first | assumption | omega | decide | (simp only [Int.ofNat_eq_natCast] at *; omega))
local macro_rules | `(tactic| walk_at "sz") => `(tactic| first
  | (simp only [List.length_cons, List.length_nil]; decide)
  | exact Evl.sz_of (by omega)
  | exact Evl.sz_lt (by omega)
  | exact Evl.sz_of (by simp only [List.length_map, List.length_append, List.length_cons, List.length_nil, List.length_replicate]; omega)
  | exact Evl.sz_lt (by simp only [List.length_map, List.length_append, List.length_cons, List.length_nil, List.length_replicate]; omega))
local macro_rules | `(tactic| walk_at "cond") => `(tactic| first
  | exact Or.inr ⟨by decide, by decide⟩
  | (show (0 : Int) < _; first | decide | assumption | omega)
  | exact Or.inl ⟨by omega, by omega⟩
  | exact Or.inr ⟨by omega, by omega⟩
  | exact ⟨by decide, by decide, by decide⟩
  | exact log2_lt (by omega) (by omega)
  | exact ⟨by omega, by omega⟩)
local macro_rules | `(tactic| walk_at "ty") => `(tactic| first
  | exact ty_int | exact ty_bl | exact ty_str | exact ty_non
  | exact ty_L (by assumption) | exact ty_T (by assumption)
  | exact ty_L (SqL.of (by assumption)) | exact ty_T (SqT.of (by assumption)))
local macro_rules | `(tactic| walk_at "kit") => `(tactic| first
  | exact k_ii | exact k_ib | exact k_is | exact k_il | exact k_it
  | exact k_bb | exact k_bi | exact k_bs | exact k_bl | exact k_bt
  | exact k_ss | exact k_sb | exact k_si | exact k_sl | exact k_st
  | exact k_ll | exact k_lb | exact k_li | exact k_ls | exact k_lt
  | exact k_tt | exact k_tb | exact k_ti | exact k_ts | exact k_tl
  | exact k_nn | exact k_ni | exact k_ns | exact k_nl | exact k_nt)
local macro_rules | `(tactic| walk_at "s1") => `(tactic| first
  | with_reducible refine w_seq ?_
  | with_reducible refine w_set ?_
  | with_reducible refine w_op ?_
  | ((with_reducible refine' w_var ?h1 ?_); (case h1 => rfl))
  | with_reducible refine w_c ?_
  | with_reducible refine w_cb ?_
  | with_reducible refine w_cons ?_
  | with_reducible refine w_nil ?_
  | with_reducible refine w_I0 ?_
  | ((with_reducible refine' w_I ?c1 ?_); case c1 => walk_at "cond")
  | with_reducible refine w_ret ?_
  | with_reducible refine w_next ?_
  | with_reducible refine w_ifS ?_
  | with_reducible refine w_test ?_
  | with_reducible refine w_tB ?_
  | with_reducible refine w_k ?_
  | with_reducible refine w_eqI ?_
  | with_reducible refine w_neI ?_
  | with_reducible refine w_eqS ?_
  | with_reducible refine w_neS ?_
  | with_reducible refine w_and ?_
  | with_reducible refine w_or ?_
  | with_reducible refine w_not ?_
  | with_reducible refine w_andV ?_
  | with_reducible refine w_orV ?_
  | with_reducible refine w_notV ?_
  | with_reducible refine w_ifE ?_
  | with_reducible refine w_true ?_
  | with_reducible refine w_false ?_
  | with_reducible refine w_ntrue ?_
  | with_reducible refine w_nfalse ?_
  | with_reducible refine w_call ?_
  | with_reducible refine c_int ?_
  | with_reducible refine c_abs ?_
  | with_reducible refine c_max ?_
  | with_reducible refine c_min ?_
  | with_reducible refine w_drop ?_
  | with_reducible refine w_sfld ?_
  | with_reducible refine w_meth ?_
  | with_reducible refine w_make ?_
  | with_reducible refine w_prop ?_
  | with_reducible refine w_callK ?_
  | with_reducible refine w_callN ?_
  | with_reducible refine w_star ?_
  | with_reducible refine w_gcons ?_
  | with_reducible refine w_gname ?_
  | with_reducible refine w_gnil ?_
  | with_reducible refine w_retN ?_
  | with_reducible refine w_tup ?_
  | with_reducible refine w_lst ?_
  | with_reducible refine w_fld ?_
  | with_reducible refine w_bm ?_
  | with_reducible refine w_bm0 ?_
  | with_reducible refine w_forL ?_
  | with_reducible refine w_forT ?_
  | with_reducible refine w_forS ?_
  | with_reducible refine w_forR ?_
  | with_reducible refine w_lcR ?_
  | with_reducible refine w_lcL ?_
  | with_reducible refine w_lcT ?_
  | with_reducible refine w_isN ?_
  | with_reducible refine w_notN ?_
  | with_reducible refine w_asg ?_
  | with_reducible refine w_gsub ?_
  | ((with_reducible refine' w_aug ?h1 ?_); (case h1 => rfl))
  | with_reducible refine w_augS ?_
  | with_reducible refine w_ipI ?_
  | with_reducible refine w_un ?_
  | with_reducible refine w_U ?_
  | ((with_reducible refine' w_iteF ?f1 ?_); case f1 => (first | (intro h; cases h; done) | decide))
  | ((with_reducible refine' w_iteT ?f1 ?_); case f1 => rfl)
  | ((with_reducible refine' w_iteNF ?f1 ?_); case f1 => rfl)
  | ((with_reducible refine' w_iteNT ?f1 ?_); case f1 => (first | (intro h; cases h; done) | decide))
  | ((with_reducible refine' c_isi ?t1 ?k1 ?_); (case t1 => walk_at "ty"); (case k1 => walk_at "kit"))
  | ((with_reducible refine' w_eq ?e1 ?_); case e1 => rfl)
  | ((with_reducible refine' w_ne ?e1 ?_); case e1 => rfl)
  | walk_at "u1")
local macro_rules | `(tactic| walk_at "s") => `(tactic| repeat walk_at "s1")
local macro_rules | `(tactic| walk_at "mem") => `(tactic| first | with_reducible exact List.mem_cons_self .. | ((with_reducible refine' List.mem_cons_of_mem _ ?q); (case q => walk_at "mem")) | assumption | ((with_reducible refine' List.mem_append_right _ ?q); (case q => walk_at "mem")) | (exact List.mem_append_left _ (by assumption)))
local macro_rules | `(tactic| walk_at "pk") => `(tactic| first | with_reducible exact Pk.here | ((with_reducible refine' Pk.there ?q); (case q => walk_at "pk")) | ((with_reducible refine' Pk.app ?q); (case q => walk_at "pk")))
local macro_rules | `(tactic| walk_at "pkb") => `(tactic| first | with_reducible exact PkB.here | ((with_reducible refine' PkB.there ?q); (case q => walk_at "pkb")) | ((with_reducible refine' PkB.app ?q); (case q => walk_at "pkb")))
local macro_rules | `(tactic| walk_at "spl") => `(tactic| first | with_reducible exact Spl.nil | ((with_reducible refine' Spl.cons ?h ?t); (case h => walk_at "pk"); (case t => walk_at "spl")) | ((with_reducible refine' Spl.blk ?h ?t); (case h => walk_at "pkb"); (case t => walk_at "spl")))
local macro_rules | `(tactic| walk_at "sbx") => `(tactic| first | with_reducible exact Sb.refl | with_reducible exact Sb.nil | with_reducible exact Sb.left | ((with_reducible refine' Sb.cons ?h ?t); (case h => walk_at "pk"); (case t => walk_at "sbx")) | ((with_reducible refine' Sb.blk ?h ?t); (case h => walk_at "pkb"); (case t => walk_at "sbx")) | ((with_reducible refine' Sb.drop ?q); (case q => walk_at "sbx")) | ((with_reducible refine' Sb.right ?q); (case q => walk_at "sbx")))
local macro_rules | `(tactic| walk_at "hd") => `(tactic| first | assumption | exact Hd.sb (by assumption) (by walk_at "sbx"))
local macro_rules | `(tactic| walk_at "sq") => `(tactic| first
  | assumption
  | exact Hd.sqL (by assumption) (by walk_at "mem")
  | exact Hd.sqT (by assumption) (by walk_at "mem")
  | exact Hd.sqF (by assumption) (by walk_at "mem")
  | (refine .inl ?_; walk_at "sq")
  | (refine .inr ?_; walk_at "sq"))
local macro_rules | `(tactic| walk_at "at") => `(tactic| first | rfl | assumption | exact atI_nat (by assumption))
local macro_rules | `(tactic| walk_at "dn1") => `(tactic| first
  | exact Dn.int | exact Dn.str | exact Dn.non | exact Dn.bl | assumption
  | ((refine' Dn.tp ?a1 ?m1 ?l1 ?p1); (case a1 => assumption); (case m1 => walk_at "mem"); (case l1 => (simp only [List.length_cons, List.length_nil]; omega)); (case p1 => walk_at "dns"))
  | ((refine' Dn.lt ?a1 ?m1 ?l1 ?p1); (case a1 => assumption); (case m1 => walk_at "mem"); (case l1 => (simp only [List.length_cons, List.length_nil]; omega)); (case p1 => walk_at "dns")))
local macro_rules | `(tactic| walk_at "dns") => `(tactic| first | exact Paired.nil | exact Dn.ints | ((refine' Paired.cons ?a1 ?b1); (case a1 => walk_at "dn1"); (case b1 => walk_at "dns")))
local macro_rules | `(tactic| walk_at "g1") => `(tactic| first
  | ((with_reducible refine' g_ixI ?h1 ?h2 ?h3 ?_); (case h1 => assumption); (case h2 => walk_at "mem"); (case h3 => omega); intro z hz)
  | ((with_reducible refine' g_ixIT ?h1 ?h2 ?h3 ?_); (case h1 => assumption); (case h2 => walk_at "mem"); (case h3 => omega); intro z hz)
  | ((with_reducible refine' g_setI ?h1 ?h2 ?h3 ?_); (case h1 => assumption); (case h2 => walk_at "pk"); (case h3 => omega); intro H2 hh2)
  | ((with_reducible refine' w_ixL ?h1 ?h2 ?_); (case h1 => walk_at "sq"); (case h2 => walk_at "at"))
  | ((with_reducible refine' w_ixT ?h1 ?h2 ?_); (case h1 => walk_at "sq"); (case h2 => walk_at "at"))
  | ((with_reducible refine' w_ixAny ?h1 ?h2 ?_); (case h1 => walk_at "sq"); (case h2 => walk_at "at"))
  | ((with_reducible refine' c_lenA ?h1 ?_); (case h1 => walk_at "sq"))
  | ((with_reducible refine' c_isi ?t1 ?k1 ?_); (case t1 => first | exact ty_T (by walk_at "sq") | exact ty_L (by walk_at "sq")); (case k1 => walk_at "kit"))
  | ((with_reducible refine' g_lst ?h1 ?h2 ?_); (case h1 => assumption); (case h2 => walk_at "sz"); intro p H2 hh2)
  | ((with_reducible refine' g_tup ?h1 ?h2 ?_); (case h1 => assumption); (case h2 => walk_at "sz"); intro p H2 hh2)
  | ((with_reducible refine' g_dict ?h1 ?_); (case h1 => assumption); intro p H2 hh2)
  | ((with_reducible refine' g_listL ?h1 ?h2 ?_); (case h1 => assumption); (case h2 => walk_at "sq"); intro p H2 hh2)
  | ((with_reducible refine' g_listT ?h1 ?h2 ?_); (case h1 => assumption); (case h2 => walk_at "sq"); intro p H2 hh2)
  | ((with_reducible refine' g_tupL ?h1 ?h2 ?_); (case h1 => assumption); (case h2 => walk_at "sq"); intro p H2 hh2)
  | ((with_reducible refine' g_set ?h1 ?h2 ?h3 ?_); (case h1 => assumption); (case h2 => walk_at "pk"); (case h3 => first | rfl | assumption | exact Evl.ixN_nat (by first | omega | (simp only [List.length_cons, List.length_nil]; omega))); intro H2 hh2)
  | ((with_reducible refine' g_kbm ?h1 ?h2 ?_); (case h1 => assumption); (case h2 => walk_at "mem"))
  | ((with_reducible refine' g_kbm0 ?h1 ?h2 ?_); (case h1 => assumption); (case h2 => walk_at "mem"))
  | ((with_reducible refine' g_app ?h1 ?h2 ?h3 ?_); (case h1 => assumption); (case h2 => walk_at "pk"); (case h3 => walk_at "sz"); intro H2 hh2)
  | ((with_reducible refine' g_kapp ?h1 ?h2 ?h3 ?_); (case h1 => assumption); (case h2 => walk_at "pk"); (case h3 => walk_at "sz"); intro H2 hh2)
  | ((with_reducible refine' g_fld ?h1 ?h2 ?h3 ?h4 ?h5 ?_); (case h1 => assumption); (case h2 => walk_at "mem"); (case h3 => assumption); (case h4 => assumption); (case h5 => rfl))
  | ((with_reducible refine' g_sfld ?h1 ?h2 ?h3 ?h4 ?h5 ?_); (case h1 => assumption); (case h2 => walk_at "pk"); (case h3 => assumption); (case h4 => assumption); (case h5 => decide); intro H2 hh2)
  | ((with_reducible refine' g_meth ?h1 ?h2 ?h3 ?_); (case h1 => assumption); (case h2 => walk_at "mem"); (case h3 => rfl))
  | ((with_reducible refine' g_prop ?h1 ?h2 ?_); (case h1 => assumption); (case h2 => walk_at "mem"))
  | ((with_reducible refine' g_make ?h1 ?_); (case h1 => assumption); intro x H2 hh2)
  | ((with_reducible refine' g_cat ?h1 ?h2 ?h3 ?h4 ?_); (case h1 => assumption); (case h2 => walk_at "mem"); (case h3 => walk_at "mem"); (case h4 => walk_at "sz"); intro p H2 hh2)
  | ((with_reducible refine' g_inT ?h1 ?h2 ?h3 ?h4 ?h5 ?_); (case h1 => assumption); (case h2 => walk_at "mem"); (case h3 => rfl); (case h4 => rfl); (case h5 => rfl)))
local macro_rules | `(tactic| walk_at "gs") => `(tactic| repeat first | walk_at "s1" | walk_at "g1")
local macro_rules | `(tactic| walk_at "ite") => `(tactic| first
  | ((with_reducible refine' w_iteT ?h1 ?_); (case h1 => omega))
  | ((with_reducible refine' w_iteF ?h1 ?_); (case h1 => omega))
  | (with_reducible refine w_ite ?_ ?_ <;> intro hq)
  | ((with_reducible refine' w_iteNT ?h1 ?_); (case h1 => omega))
  | ((with_reducible refine' w_iteNF ?h1 ?_); (case h1 => omega))
  | (with_reducible refine w_iteN ?_ ?_ <;> intro hq))
local macro_rules | `(tactic| walk_at "go") => `(tactic| repeat' first | walk_at "s1" | walk_at "g1" | walk_at "ite")
local macro_rules | `(tactic| walk_at "g1") => `(tactic| first
  | ((with_reducible refine' g_take1 ?h1 ?h2 ?h3 ?h4 ?_); (case h1 => assumption); (case h2 => walk_at "spl"); (case h3 => omega); (case h4 => omega); intro k H2 hk1 hh2)
  | ((with_reducible refine' g_take ?h1 ?h2 ?h4 ?_); (case h1 => assumption); (case h2 => walk_at "spl"); (case h4 => omega); intro k H2 hk1 hh2)
  | ((with_reducible refine' g_betweenN ?h1 ?h2 ?h5 ?h3 ?h4 ?_); (case h1 => assumption); (case h2 => walk_at "spl"); (case h5 => omega); (case h3 => omega); (case h4 => omega); intro k H2 hk1 hk2 hh2)
  | ((with_reducible refine' g_between ?h1 ?h2 ?h3 ?h4 ?_); (case h1 => assumption); (case h2 => walk_at "spl"); (case h3 => omega); (case h4 => omega); intro k H2 hk1 hk2 hh2)
  | ((with_reducible refine' g_size ?h1 ?h2 ?h3 ?h4 ?_); (case h1 => assumption); (case h2 => walk_at "spl"); (case h3 => omega); (case h4 => omega); intro k H2 hk1 hh2)
  | ((with_reducible refine' g_word ?h1 ?h2 ?_); (case h1 => assumption); (case h2 => walk_at "spl"); intro k H2 hk1 hh2))
local macro_rules | `(tactic| walk_at "g1") => `(tactic| first | with_reducible refine w_sl ?_ | with_reducible refine w_part ?_ | with_reducible refine w_noPart ?_ | with_reducible refine w_exI ?_)
section
variable {P : Program} {w : World} {K : PySem.W.Frag} {mg : Str → Option Value} {base : Heap} {aREG aOPS : Addr}
/-- BadArgument(x): a new dict, no more -/
theorem w_mkBadV {C : Addr} {z : Str} {i : Nat} {σ : L2.St} {H1 : Hp} {Q : XK} (hv : σ[i]? = some (some (.str z))) (hz : z.length ≤ 1000) (q : ∀ d H', New H1 H' d (.xd [("name", .str z)]) → Q (.ref C) (some d) H') : tMkO C (sp_badI C) [] (tCons (tVar i) tNil) σ H1 Q := by
  refine w_cons (w_var hv (w_nil ⟨by simp only [List.length_cons, List.length_nil]; omega, fun a ha => ⟨a, z, rfl, hz, upd_same, fun dx n ne => ⟨rfl, dx, [("name", .str z)], upd_same, ?_, ?_, ?_⟩⟩⟩))
  · rw [upd_ne ne, upd_same]
  · rw [upd_ne ne] at n
    exact n
  · rw [made_heap ha ne]
    rw [upd_ne ne] at n
    exact q dx _ (New.of n)
theorem new_tup' {H H' : Hp} {L : List Cell} {t : Addr} {xs : List V} (h : Hd H L) (u : Upt [] H H') (n : H t = none) (e : H' t = some (.tup xs)) : Hd H' (tupC t xs :: L) := by
  have h' := h.upt0 u
  refine ⟨List.nodup_cons.mpr ⟨fun z => ?_, h'.nd⟩, fun c hc => ?_⟩
  · obtain ⟨c, hc, ec⟩ := List.mem_map.mp z
    obtain ⟨o, ho, _⟩ := h.at_ c hc
    rw [ec, show (tupC t xs).1 = t from rfl, n] at ho
    cases ho
  · rcases List.mem_cons.mp hc with rfl | hc
    · exact ⟨_, e, rfl⟩
    · exact h'.at_ c hc
theorem dn_kh {H : Hp} {v : V} {d : PyData} : ∀ {n : Nat}, Dn K [] H n v d → ∃ t, KH K H v t
  | 0, h => by cases h <;> exact ⟨_, by constructor⟩
  | n + 1, h => by
    rcases h with h | ⟨a, xs, ds, e1, e2, ha, hq, hl, p⟩ | ⟨a, xs, ds, e1, e2, ha, hq, hl, p⟩
    · cases h <;> exact ⟨_, by constructor⟩
    · subst e1; exact ⟨_, .lst hq⟩
    · subst e1; exact ⟨_, .tup hq⟩
section
variable {H : Hp} {L : List Cell} {Q : VK} {E : XK}
theorem g_copyZ {k : Nat} {v : V} {d : PyData} (hh : Hd H L) (h1 : Dn K [] H k v d) (q : ∀ v' Z H', Hd H' (Z ++ L) → Zc K Z k v' d → Q v' H') : sp_copy K (k + 1) [v] H Q E :=
  u_copy h1 fun v' H' u hd => by
    obtain ⟨Z, hz, hs, zz⟩ := (hd (L.map Prod.fst) (fun a ha => by
      obtain ⟨c, hc, rfl⟩ := List.mem_map.mp ha
      obtain ⟨o, ho, _⟩ := hh.at_ c hc
      exact ⟨o, ho⟩)).chunk
    exact q v' Z H' (Hd.join hz (hh.upt0 u) hs) zz
end
def isWD : PyData → Bool
  | .int i => decide ((0 : Int) ≤ i ∧ i ≤ 65535)
  | _ => false
theorem isWD_eq {S : List Addr} {H : Hp} {v : V} {d : PyData} : ∀ {n : Nat}, Dn K S H n v d → isW v = isWD d
  | 0, h => by cases h <;> rfl
  | n + 1, h => by
    rcases h with h | ⟨a, xs, ds, e1, e2, _⟩ | ⟨a, xs, ds, e1, e2, _⟩
    · cases h <;> rfl
    · subst e1 e2; rfl
    · subst e1 e2; rfl
/-! ### data that are no instruction -/
def nmD : PyData → Bool
  | .str z => PyData.strOk z
  | .int _ | .bool _ | .none | .tuple [] => true
  | _ => false
def numD : PyData → Bool
  | .int i => decide ((0 : Int) ≤ i ∧ i ≤ 1023)
  | _ => false
def strD : PyData → Bool
  | .str a => regL.any fun y => y == a
  | _ => false
def opOkD (c : Nat) (d : PyData) : Bool := if c = 78 then numD d else strD d
def BadDI : PyData → Prop
  | .tuple [] => True
  | .tuple (d0 :: rest) => nmD d0 = true ∧ ((∀ o, o < 16 → d0 ≠ .str (opNm o)) ∨ ∃ o : Nat, o < 16 ∧ d0 = .str (opNm o) ∧ (rest.length ≠ (opSo o).cps.toList.length ∨ ∃ (j c : Nat) (d : PyData), (opSo o).cps.toList[j]? = some c ∧ rest[j]? = some d ∧ opOkD c d = false))
  | _ => True
theorem opOk_eq {S : List Addr} {H : Hp} {v : V} {d : PyData} {c : Nat} : ∀ {n : Nat}, Dn K S H n v d → opOkU ⟨#[c]⟩ v = opOkD c d := by
  intro n h
  have hN : ((⟨#[c]⟩ : Str) == "N") = decide (c = 78) := by
    by_cases e : c = 78
    · subst e; decide +kernel
    · rw [decide_eq_false e, beq_eq_false_iff_ne]
      exact fun z => e ((one_eq (z := "N") (d := 78) rfl).mp z)
  have key : isR v 0 1023 = numD d ∧ inTx regL v = strD d := by
    cases n with
    | zero => cases h <;> exact ⟨rfl, rfl⟩
    | succ n =>
      rcases h with h | ⟨a, xs, ds, e1, e2, _⟩ | ⟨a, xs, ds, e1, e2, _⟩
      · cases h <;> exact ⟨rfl, rfl⟩
      · subst e1 e2; exact ⟨rfl, rfl⟩
      · subst e1 e2; exact ⟨rfl, rfl⟩
  unfold opOkU opOkD
  rw [hN]
  by_cases e : c = 78
  · rw [decide_eq_true e, if_pos rfl, if_pos e]; exact key.1
  · rw [decide_eq_false e, if_neg (by simp), if_neg e]; exact key.2
theorem paired_at2 {α β : Type} {F : α → β → Prop} : ∀ {xs : List α} {ys : List β} {i : Nat} {y : β}, Paired F xs ys → ys[i]? = some y → ∃ x, xs[i]? = some x ∧ F x y
  | _, _, _, _, .nil, e => by simp at e
  | _, _, 0, _, .cons r _, e => by simp at e; subst e; exact ⟨_, rfl, r⟩
  | _, _, i + 1, y, .cons _ t, e => by
    rw [List.getElem?_cons_succ] at e ⊢
    exact paired_at2 t e
theorem paired_kh {H : Hp} {n : Nat} : ∀ {xs : List V} {ds : List PyData}, Paired (Dn K [] H n) xs ds → ∀ v ∈ xs, ∃ t, KH K H v t
  | _, _, .nil, v, h => absurd h (List.not_mem_nil)
  | _, _, .cons r t, v, h => by
    rcases List.mem_cons.mp h with z | z
    · exact z ▸ dn_kh r
    · exact paired_kh t v z
theorem nm_of {H : Hp} {v : V} {d : PyData} : ∀ {n : Nat}, Dn K [] H n v d → nmD d = true → NmV K H v
  | 0, h, e => by
    cases h with
    | non => exact .inr (.inr (.inr (.inl rfl)))
    | bl b => exact .inr (.inr (.inl ⟨b, rfl⟩))
    | int i => exact .inr (.inl ⟨i, rfl⟩)
    | str z => exact .inl ⟨z, rfl, e⟩
  | n + 1, h, e => by
    rcases h with h | ⟨a, xs, ds, e1, e2, _⟩ | ⟨a, xs, ds, e1, e2, _, hq, _, p⟩
    · exact nm_of (n := 0) h e
    · subst e2; cases e
    · subst e1 e2
      cases p with
      | nil => exact .inr (.inr (.inr (.inr ⟨a, rfl, hq⟩)))
      | cons _ _ => cases e
theorem str_dn {S : List Addr} {H : Hp} {n : Nat} {v : V} {z : Str} (h : Dn K S H n v (.str z)) : v = .str z := by
  cases n with
  | zero => cases h; rfl
  | succ n =>
    rcases h with h | ⟨_, _, _, _, e2, _⟩ | ⟨_, _, _, _, e2, _⟩
    · cases h; rfl
    · cases e2
    · cases e2
theorem ne_str {S : List Addr} {H : Hp} {n : Nat} {v : V} {d : PyData} {z : Str} (h : Dn K S H n v d) (e : d ≠ .str z) : v ≠ .str z := fun hv => by
  subst hv
  cases n with
  | zero => cases h; exact e rfl
  | succ n =>
    rcases h with h | ⟨_, _, _, e1, _⟩ | ⟨_, _, _, e1, _⟩
    · cases h; exact e rfl
    · cases e1
    · cases e1
theorem badIn_of {H : Hp} {v : V} {d : PyData} {n : Nat} (h : Dn K [] H n v d) (b : BadDI d) : BadIn K H v := by
  have sc : ∀ {v : V} {d : PyData}, Sc v d → BadIn K H v := fun h => by
    cases h with
    | non => exact .inl ⟨_, ty_non, by decide +kernel⟩
    | bl b => exact .inl ⟨_, ty_bl, by decide +kernel⟩
    | int i => exact .inl ⟨_, ty_int, by decide +kernel⟩
    | str z => exact .inl ⟨_, ty_str, by decide +kernel⟩
  cases n with
  | zero => exact sc h
  | succ n =>
    rcases h with h | ⟨a, xs, ds, e1, e2, ha, hq, hl, p⟩ | ⟨a, xs, ds, e1, e2, ha, hq, hl, p⟩
    · exact sc h
    · subst e1
      exact .inl ⟨_, ty_L hq, by decide +kernel⟩
    · subst e1 e2
      refine .inr ⟨a, xs, rfl, hq, ?_⟩
      cases p with
      | nil => exact .inl rfl
      | @cons v0 d0 rest ds r t =>
        obtain ⟨hnm, b⟩ := b
        refine .inr ⟨v0, rest, rfl, nm_of r hnm, ?_⟩
        rcases b with b | ⟨o, ho, rfl, b⟩
        · exact .inl fun o ho => ne_str r (b o ho)
        · refine .inr ⟨o, ho, str_dn r, ?_⟩
          rcases b with b | ⟨j, c, d, hc, hd, hb⟩
          · exact .inl (by rw [t.length]; exact b)
          · by_cases hl2 : rest.length = (opSo o).cps.toList.length
            · obtain ⟨u, hu, ru⟩ := paired_at2 t hd
              exact .inr ⟨hl2, paired_kh t, j, c, u, hc, hu, by rw [opOk_eq ru]; exact hb⟩
            · exact .inl hl2
section
variable {C W fI : Addr} {fdI : FuncData}
def sp_codeX (K : PySem.W.Frag) (C tP : Addr) : Sp := fun vs H Q E => ∃ v : V, vs = [v] ∧ BadIn K H v ∧ GxR.TabG H tP ∧ ∀ H1 H' d, GxR.TabG H1 tP → Upt [tP] H H1 → New H1 H' d (.xd [("name", .str "instruction")]) → E (.ref C) (some d) H'
theorem x_codeof {tP : Addr} (T : Txt K mg aREG aOPS) (R : ErrC K mg C W fI) (dI : DefM K "__init__" "BadArgument.__init__" s_BadArgument____init__ [] fI fdI) (d : DefAt K mg "code_of" s_code_of)
    (c_is_instruction : C8.Cal P w K mg base 6 "is_instruction" (sp_isinsF K tP) []) (c__number_of : C8.Cal P w K mg base 1 "_number_of" sp_numof []) : CalN P w K mg base 7 "code_of" (sp_codeX K C tP) := by
  obtain ⟨f, fd, F, hm⟩ := d
  have bI : Binds K fdI ["self", "name"] [] := FunD.bindsN dI fun _ _ _ _ _ _ us hl => match us, hl with | [_, _], _ => rfl
  refine ⟨f, fd, ["instruction"], FunD.ok F sc_code_of (fun vs H Q E h => ?_) (fun cdv A outer s H vs Q E hr h => ?_), hm, F.kp, FunD.bindsN F fun _ _ _ _ _ _ us hl => match us, hl with | [_], _ => rfl⟩
  · obtain ⟨v, rfl, _⟩ := h
    rfl
  · obtain ⟨v, rfl, hb, hT, q⟩ := h
    have F_init := f_badI (P := P) (w := w) (base := base) (CX := L2N.CX P w) R dI
    have tk := L2N.takes_of (X := cxOf (L2N.CX P w) P w K mg base nm_code_of "code_of" (defScope s_code_of) f cdv A outer s H E) (E := E) rfl rfl rfl rfl
    refine ⟨_, (pss_cons (ps_if (pt_not (pt_val (C8.pe_c c_is_instruction hr (by first | decide | omega) rfl (pa_cons (pv 0) pa_nil))))
    (pss_one (L2N.ps_raise rfl tk (pmk_oexN R.o R.init R.fn F_init (hr.mono (by omega)) bI .nil passN rfl R.g_C (pa_cons pe_str pa_nil))))
    pss_nil)
  (pss_cons (ps_set (i := 1) sc_code_of.nd rfl (Or.inl rfl) (C8.pe_c c__number_of hr (by first | decide | omega) rfl (pa_cons (pe_ix ix_tup (pv 0) pe_int (fun _ _ => rfl)) pa_nil)))
  (pss_cons (ps_set (i := 2) sc_code_of.nd rfl (Or.inl rfl) (pe_op op_mul pe_int (pv 1)))
  (pss_cons (ps_for (L2.passes_of rfl) rfl (pi_zipS rfl T.b_zip (pa_cons (pe_ix ix_seq (pe_ix ix_seq (C8.pe_gc rfl T.g_OPERATIONS) (pv 1) (fun _ _ => rfl)) pe_int (fun _ _ => rfl)) (pa_cons (pe_slice sl_tup (pv 0) (po_some pe_int) po_none) pa_nil))) (pg_tup rfl (pgs_cons (pg_name (i := 3) sc_code_of.nd rfl (Or.inl rfl)) (pgs_cons (pg_name (i := 4) sc_code_of.nd rfl (Or.inl rfl)) pgs_nil)))
    (pss_one (ps_if (pt_cmpR op_eq (pv 3) pe_str (nomark _))
        (pss_one (ps_aug (i := 2) sc_code_of.nd rfl (Or.inl rfl) (pe_op op_mul pe_int (pe_bm PySem.F.plainAttrs_tuple PySem.F.slot_tuple_index PySem.F.type_tuple_index mt_tup_index (C8.pe_gc rfl T.g_REGISTERS) (pa_cons (pv 4) pa_nil))) ip_add))
        (pss_one (ps_if (pt_cmpR op_eq (pv 3) pe_str (nomark _))
            (pss_one (ps_aug (i := 2) sc_code_of.nd rfl (Or.inl rfl) (pe_bm PySem.F.plainAttrs_tuple PySem.F.slot_tuple_index PySem.F.type_tuple_index mt_tup_index (C8.pe_gc rfl T.g_REGISTERS) (pa_cons (pv 4) pa_nil)) ip_add))
            (pss_one (ps_aug (i := 2) sc_code_of.nd rfl (Or.inl rfl) (pv 4) ip_add)))))))
  (pss_one (ps_ret (pv 2))))))), ?_⟩
    walk_at "s"
    refine ⟨v, rfl, hb, hT, fun H1 hT1 u1 => ?_⟩
    walk_at "s"
    exact w_mkBad (by decide +kernel) fun d H' n => q H1 H' d hT1 u1 n
end
section
variable {CE W fI fE tP : Addr} {fdE : FuncData}
def sp_laskedG (K : PySem.W.Frag) (tP : Addr) : Sp := fun vs H Q _ => ∃ (p : Addr) (o f l : Nat) (R : List Cell), vs = [.ref p] ∧ InsR o f l ∧ (∀ H', Hd H' R → SqT K H' p (insO o f l)) ∧ Hd H (tblC tP :: R) ∧ ∀ u H', Hd H' (tupC u [.non, .int (codeO o f l : Nat)] :: tblC tP :: R) → Q (.ref u) H'
def sp_laskedX (K : PySem.W.Frag) (tP : Addr) : Sp := fun vs H Q _ => ∃ (v : V) (d : PyData) (n : Nat) (R : List Cell), vs = [v] ∧ (∀ H', Hd H' R → Dn K [] H' n v d) ∧ BadDI d ∧ Hd H (tblC tP :: R) ∧ ∀ t1 t2 H', Hd H' (tupC t1 [.ref t2, .non] :: tupC t2 [.str "BadArgument", .str "instruction"] :: tblC tP :: R) → Q (.ref t1) H'
def sp_lasked (K : PySem.W.Frag) (tP : Addr) : Sp := fun vs H Q E => sp_laskedG K tP vs H Q E ∨ sp_laskedX K tP vs H Q E
theorem c_lasked (T : Txt K mg aREG aOPS) (R : ErrC K mg CE W fI) (d : DefAt K mg "_law_asked" s__law_asked) (c_code_of : C8.Cal P w K mg base 7 "code_of" (sp_codeof K tP) []) (cx_codeof : CalN P w K mg base 7 "code_of" (sp_codeX K CE tP))
    (F_err : FnE P w K mg base C8.CX0 1 fE fdE ["e"] (sp_err CE)) (F_errM : mg "_law_error" = some (.ref fE)) (F_errK : PySem.W.keepIn K (.ref fE) = true) (F_errB : Binds K fdE ["e"] []) : C8.Cal P w K mg base 8 "_law_asked" (sp_lasked K tP) [] := by
  refine mk d sc__law_asked (fun _ _ _ _ _ _ us hl => match us, hl with | [_], _ => rfl) (fun vs H Q E h => ?_) (fun f cdv A outer s H vs Q E hr h => ?_)
  · rcases h with ⟨p, o, f, l, R, rfl, _⟩ | ⟨v, d, n, R, rfl, _⟩ <;> rfl
  · rcases h with ⟨p, o, f, l, R0, rfl, hi, hp, hh, q⟩ | ⟨v, dd0, n, R0, rfl, hd, hb, hh, q⟩
    · refine ⟨_, (pss_one (L2N.ps_try_as rfl rfl sc__law_asked.nd (i := 1) rfl rfl ⟨rfl, by decide, .inl R.g_W⟩ takes0N (fun W pn xe tk pw => (pss_one (ps_ret (pe_tup (pa_cons pe_non (pa_cons (C8.pe_c c_code_of hr (by first | decide | omega) rfl (pa_cons (pv 0) pa_nil)) pa_nil)))))) (fun a oe cls d pn hz hf => pss_one (ps_ret (pe_tup (pa_cons (pe_callE (E := fun _ => C8.E0) (imp_err hz hf) F_err (rH hr) (hot_err hz hf) (List.mem_cons_self ..) rfl F_errM F_errK F_errB (fun _ _ _ _ _ _ _ h => h.elim) (pa_cons (pv 1) pa_nil)) (pa_cons pe_non pa_nil))))))), ?_⟩
      walk_at "gs"
      refine g_codeof hh (by walk_at "spl") hi hp fun H1 h1 => ?_
      walk_at "gs"
      rename_i u H2 h2
      exact q u H2 h2
    · refine ⟨_, (pss_one (L2N.ps_try_as rfl rfl sc__law_asked.nd (i := 1) rfl rfl ⟨rfl, by decide, .inl R.g_W⟩ takes0N (fun W pn xe tk pw => (pss_one (ps_ret (pe_tup (pa_cons pe_non (pa_cons (pe_cN cx_codeof hr (by first | decide | omega) tk rfl (pa_cons (pv 0) pa_nil)) pa_nil)))))) (fun a oe cls d pn hz hf => pss_one (ps_ret (pe_tup (pa_cons (pe_callE (E := fun _ => C8.E0) (imp_err hz hf) F_err (rH hr) (hot_err hz hf) (List.mem_cons_self ..) rfl F_errM F_errK F_errB (fun _ _ _ _ _ _ _ h => h.elim) (pa_cons (pv 1) pa_nil)) (pa_cons pe_non pa_nil))))))), ?_⟩
      walk_at "gs"
      unfold tCallS
      walk_at "gs"
      refine ⟨v, rfl, badIn_of (hd _ hh.tail) hb, hh.tbl (List.mem_cons_self ..), fun H1 H' dd hT1 U1 nd => ⟨true, R.exW, fun _ ea hea => ?_, fun z => nomatch z⟩⟩
      have h1 := (tab_put hh hT1 U1).upt0 nd.keep
      walk_at "gs"
      refine ⟨dd, "instruction", rfl, rfl, rfl, nd.at_, fun t2 H2 u ht e' => ?_⟩
      have h2 := new_tup' h1 u ht e'
      walk_at "gs"
      rename_i p H3 h3
      exact q p t2 H3 h3
end
end
end K08
set_option Elab.async false
set_option linter.all false
set_option maxRecDepth 100000
set_option maxHeartbeats 4000000
namespace K08
open PySem PySem.Spec PyProof.Rows L2 Wk
local macro_rules | `(tactic| walk_at "u1") => `(tactic| fail "no more")
local macro_rules | `(tactic| walk_at "pos") => `(tactic| first | assumption | omega | decide | (simp only [Int.ofNat_eq_natCast] at *; omega))
local macro_rules | `(tactic| walk_at "sz") => `(tactic| first
  | (simp only [List.length_cons, List.length_nil]; decide)
  | exact Evl.sz_of (by omega)
  | exact Evl.sz_lt (by omega)
  | exact Evl.sz_of (by simp only [List.length_map, List.length_append, List.length_cons, List.length_nil, List.length_replicate]; omega)
  | exact Evl.sz_lt (by simp only [List.length_map, List.length_append, List.length_cons, List.length_nil, List.length_replicate]; omega))
local macro_rules | `(tactic| walk_at "cond") => `(tactic| first
  | exact Or.inr ⟨by decide, by decide⟩
  | (show (0 : Int) < _; first | decide | assumption | omega)
  | exact Or.inl ⟨by omega, by omega⟩
  | exact Or.inr ⟨by omega, by omega⟩
  | exact ⟨by decide, by decide, by decide⟩
  | exact log2_lt (by omega) (by omega)
  | exact ⟨by omega, by omega⟩)
local macro_rules | `(tactic| walk_at "ty") => `(tactic| first
  | exact ty_int | exact ty_bl | exact ty_str | exact ty_non
  | exact ty_L (by assumption) | exact ty_T (by assumption)
  | exact ty_L (SqL.of (by assumption)) | exact ty_T (SqT.of (by assumption)))
local macro_rules | `(tactic| walk_at "kit") => `(tactic| first
  | exact k_ii | exact k_ib | exact k_is | exact k_il | exact k_it
  | exact k_bb | exact k_bi | exact k_bs | exact k_bl | exact k_bt
  | exact k_ss | exact k_sb | exact k_si | exact k_sl | exact k_st
  | exact k_ll | exact k_lb | exact k_li | exact k_ls | exact k_lt
  | exact k_tt | exact k_tb | exact k_ti | exact k_ts | exact k_tl
  | exact k_nn | exact k_ni | exact k_ns | exact k_nl | exact k_nt)
local macro_rules | `(tactic| walk_at "s1") => `(tactic| first
  | with_reducible refine w_seq ?_
  | with_reducible refine w_set ?_
  | with_reducible refine w_op ?_
  | ((with_reducible refine' w_var ?h1 ?_); (case h1 => rfl))
  | with_reducible refine w_c ?_
  | with_reducible refine w_cb ?_
  | with_reducible refine w_cons ?_
  | with_reducible refine w_nil ?_
  | with_reducible refine w_I0 ?_
  | ((with_reducible refine' w_I ?c1 ?_); case c1 => walk_at "cond")
  | with_reducible refine w_ret ?_
  | with_reducible refine w_next ?_
  | with_reducible refine w_ifS ?_
  | with_reducible refine w_test ?_
  | with_reducible refine w_tB ?_
  | with_reducible refine w_k ?_
  | with_reducible refine w_eqI ?_
  | with_reducible refine w_neI ?_
  | with_reducible refine w_eqS ?_
  | with_reducible refine w_neS ?_
  | with_reducible refine w_and ?_
  | with_reducible refine w_or ?_
  | with_reducible refine w_not ?_
  | with_reducible refine w_andV ?_
  | with_reducible refine w_orV ?_
  | with_reducible refine w_notV ?_
  | with_reducible refine w_ifE ?_
  | with_reducible refine w_true ?_
  | with_reducible refine w_false ?_
  | with_reducible refine w_ntrue ?_
  | with_reducible refine w_nfalse ?_
  | with_reducible refine w_call ?_
  | with_reducible refine c_int ?_
  | with_reducible refine c_abs ?_
  | with_reducible refine c_max ?_
  | with_reducible refine c_min ?_
  | with_reducible refine w_drop ?_
  | with_reducible refine w_sfld ?_
  | with_reducible refine w_meth ?_
  | with_reducible refine w_make ?_
  | with_reducible refine w_prop ?_
  | with_reducible refine w_callK ?_
  | with_reducible refine w_callN ?_
  | with_reducible refine w_star ?_
  | with_reducible refine w_gcons ?_
  | with_reducible refine w_gname ?_
  | with_reducible refine w_gnil ?_
  | with_reducible refine w_retN ?_
  | with_reducible refine w_tup ?_
  | with_reducible refine w_lst ?_
  | with_reducible refine w_fld ?_
  | with_reducible refine w_bm ?_
  | with_reducible refine w_bm0 ?_
  | with_reducible refine w_forL ?_
  | with_reducible refine w_forT ?_
  | with_reducible refine w_forS ?_
  | with_reducible refine w_forR ?_
  | with_reducible refine w_lcR ?_
  | with_reducible refine w_lcL ?_
  | with_reducible refine w_lcT ?_
  | with_reducible refine w_isN ?_
  | with_reducible refine w_notN ?_
  | with_reducible refine w_asg ?_
  | with_reducible refine w_gsub ?_
  | ((with_reducible refine' w_aug ?h1 ?_); (case h1 => rfl))
  | with_reducible refine w_augS ?_
  | with_reducible refine w_ipI ?_
  | with_reducible refine w_un ?_
  | with_reducible refine w_U ?_
  | ((with_reducible refine' w_iteF ?f1 ?_); case f1 => (first | (intro h; cases h; done) | decide))
  | ((with_reducible refine' w_iteT ?f1 ?_); case f1 => rfl)
  | ((with_reducible refine' w_iteNF ?f1 ?_); case f1 => rfl)
  | ((with_reducible refine' w_iteNT ?f1 ?_); case f1 => (first | (intro h; cases h; done) | decide))
  | ((with_reducible refine' c_isi ?t1 ?k1 ?_); (case t1 => walk_at "ty"); (case k1 => walk_at "kit"))
  | ((with_reducible refine' w_eq ?e1 ?_); case e1 => rfl)
  | ((with_reducible refine' w_ne ?e1 ?_); case e1 => rfl)
  | walk_at "u1")
local macro_rules | `(tactic| walk_at "s") => `(tactic| repeat walk_at "s1")
local macro_rules | `(tactic| walk_at "mem") => `(tactic| first | with_reducible exact List.mem_cons_self .. | ((with_reducible refine' List.mem_cons_of_mem _ ?q); (case q => walk_at "mem")) | assumption | ((with_reducible refine' List.mem_append_right _ ?q); (case q => walk_at "mem")) | (exact List.mem_append_left _ (by assumption)))
local macro_rules | `(tactic| walk_at "pk") => `(tactic| first | with_reducible exact Pk.here | ((with_reducible refine' Pk.there ?q); (case q => walk_at "pk")) | ((with_reducible refine' Pk.app ?q); (case q => walk_at "pk")))
local macro_rules | `(tactic| walk_at "pkb") => `(tactic| first | with_reducible exact PkB.here | ((with_reducible refine' PkB.there ?q); (case q => walk_at "pkb")) | ((with_reducible refine' PkB.app ?q); (case q => walk_at "pkb")))
local macro_rules | `(tactic| walk_at "spl") => `(tactic| first | with_reducible exact Spl.nil | ((with_reducible refine' Spl.cons ?h ?t); (case h => walk_at "pk"); (case t => walk_at "spl")) | ((with_reducible refine' Spl.blk ?h ?t); (case h => walk_at "pkb"); (case t => walk_at "spl")))
local macro_rules | `(tactic| walk_at "sbx") => `(tactic| first | with_reducible exact Sb.refl | with_reducible exact Sb.nil | with_reducible exact Sb.left | ((with_reducible refine' Sb.cons ?h ?t); (case h => walk_at "pk"); (case t => walk_at "sbx")) | ((with_reducible refine' Sb.blk ?h ?t); (case h => walk_at "pkb"); (case t => walk_at "sbx")) | ((with_reducible refine' Sb.drop ?q); (case q => walk_at "sbx")) | ((with_reducible refine' Sb.right ?q); (case q => walk_at "sbx")))
local macro_rules | `(tactic| walk_at "hd") => `(tactic| first | assumption | exact Hd.sb (by assumption) (by walk_at "sbx"))
local macro_rules | `(tactic| walk_at "sq") => `(tactic| first
  | assumption
  | exact Hd.sqL (by assumption) (by walk_at "mem")
  | exact Hd.sqT (by assumption) (by walk_at "mem")
  | exact Hd.sqF (by assumption) (by walk_at "mem")
  | (refine .inl ?_; walk_at "sq")
  | (refine .inr ?_; walk_at "sq"))
local macro_rules | `(tactic| walk_at "at") => `(tactic| first | rfl | assumption | exact atI_nat (by assumption))
local macro_rules | `(tactic| walk_at "dn1") => `(tactic| first
  | exact Dn.int | exact Dn.str | exact Dn.non | exact Dn.bl | assumption
  | ((refine' Dn.tp ?a1 ?m1 ?l1 ?p1); (case a1 => assumption); (case m1 => walk_at "mem"); (case l1 => (simp only [List.length_cons, List.length_nil]; omega)); (case p1 => walk_at "dns"))
  | ((refine' Dn.lt ?a1 ?m1 ?l1 ?p1); (case a1 => assumption); (case m1 => walk_at "mem"); (case l1 => (simp only [List.length_cons, List.length_nil]; omega)); (case p1 => walk_at "dns")))
local macro_rules | `(tactic| walk_at "dns") => `(tactic| first | exact Paired.nil | exact Dn.ints | ((refine' Paired.cons ?a1 ?b1); (case a1 => walk_at "dn1"); (case b1 => walk_at "dns")))
local macro_rules | `(tactic| walk_at "g1") => `(tactic| first
  | ((with_reducible refine' g_ixI ?h1 ?h2 ?h3 ?_); (case h1 => assumption); (case h2 => walk_at "mem"); (case h3 => omega); intro z hz)
  | ((with_reducible refine' g_ixIT ?h1 ?h2 ?h3 ?_); (case h1 => assumption); (case h2 => walk_at "mem"); (case h3 => omega); intro z hz)
  | ((with_reducible refine' g_setI ?h1 ?h2 ?h3 ?_); (case h1 => assumption); (case h2 => walk_at "pk"); (case h3 => omega); intro H2 hh2)
  | ((with_reducible refine' w_ixL ?h1 ?h2 ?_); (case h1 => walk_at "sq"); (case h2 => walk_at "at"))
  | ((with_reducible refine' w_ixT ?h1 ?h2 ?_); (case h1 => walk_at "sq"); (case h2 => walk_at "at"))
  | ((with_reducible refine' w_ixAny ?h1 ?h2 ?_); (case h1 => walk_at "sq"); (case h2 => walk_at "at"))
  | ((with_reducible refine' c_lenA ?h1 ?_); (case h1 => walk_at "sq"))
  | ((with_reducible refine' c_isi ?t1 ?k1 ?_); (case t1 => first | exact ty_T (by walk_at "sq") | exact ty_L (by walk_at "sq")); (case k1 => walk_at "kit"))
  | ((with_reducible refine' g_lst ?h1 ?h2 ?_); (case h1 => assumption); (case h2 => walk_at "sz"); intro p H2 hh2)
  | ((with_reducible refine' g_tup ?h1 ?h2 ?_); (case h1 => assumption); (case h2 => walk_at "sz"); intro p H2 hh2)
  | ((with_reducible refine' g_dict ?h1 ?_); (case h1 => assumption); intro p H2 hh2)
  | ((with_reducible refine' g_listL ?h1 ?h2 ?_); (case h1 => assumption); (case h2 => walk_at "sq"); intro p H2 hh2)
  | ((with_reducible refine' g_listT ?h1 ?h2 ?_); (case h1 => assumption); (case h2 => walk_at "sq"); intro p H2 hh2)
  | ((with_reducible refine' g_tupL ?h1 ?h2 ?_); (case h1 => assumption); (case h2 => walk_at "sq"); intro p H2 hh2)
  | ((with_reducible refine' g_set ?h1 ?h2 ?h3 ?_); (case h1 => assumption); (case h2 => walk_at "pk"); (case h3 => first | rfl | assumption | exact Evl.ixN_nat (by first | omega | (simp only [List.length_cons, List.length_nil]; omega))); intro H2 hh2)
  | ((with_reducible refine' g_kbm ?h1 ?h2 ?_); (case h1 => assumption); (case h2 => walk_at "mem"))
  | ((with_reducible refine' g_kbm0 ?h1 ?h2 ?_); (case h1 => assumption); (case h2 => walk_at "mem"))
  | ((with_reducible refine' g_app ?h1 ?h2 ?h3 ?_); (case h1 => assumption); (case h2 => walk_at "pk"); (case h3 => walk_at "sz"); intro H2 hh2)
  | ((with_reducible refine' g_kapp ?h1 ?h2 ?h3 ?_); (case h1 => assumption); (case h2 => walk_at "pk"); (case h3 => walk_at "sz"); intro H2 hh2)
  | ((with_reducible refine' g_fld ?h1 ?h2 ?h3 ?h4 ?h5 ?_); (case h1 => assumption); (case h2 => walk_at "mem"); (case h3 => assumption); (case h4 => assumption); (case h5 => rfl))
  | ((with_reducible refine' g_sfld ?h1 ?h2 ?h3 ?h4 ?h5 ?_); (case h1 => assumption); (case h2 => walk_at "pk"); (case h3 => assumption); (case h4 => assumption); (case h5 => decide); intro H2 hh2)
  | ((with_reducible refine' g_meth ?h1 ?h2 ?h3 ?_); (case h1 => assumption); (case h2 => walk_at "mem"); (case h3 => rfl))
  | ((with_reducible refine' g_prop ?h1 ?h2 ?_); (case h1 => assumption); (case h2 => walk_at "mem"))
  | ((with_reducible refine' g_make ?h1 ?_); (case h1 => assumption); intro x H2 hh2)
  | ((with_reducible refine' g_cat ?h1 ?h2 ?h3 ?h4 ?_); (case h1 => assumption); (case h2 => walk_at "mem"); (case h3 => walk_at "mem"); (case h4 => walk_at "sz"); intro p H2 hh2)
  | ((with_reducible refine' g_inT ?h1 ?h2 ?h3 ?h4 ?h5 ?_); (case h1 => assumption); (case h2 => walk_at "mem"); (case h3 => rfl); (case h4 => rfl); (case h5 => rfl)))
local macro_rules | `(tactic| walk_at "gs") => `(tactic| repeat first | walk_at "s1" | walk_at "g1")
local macro_rules | `(tactic| walk_at "ite") => `(tactic| first
  | ((with_reducible refine' w_iteT ?h1 ?_); (case h1 => omega))
  | ((with_reducible refine' w_iteF ?h1 ?_); (case h1 => omega))
  | (with_reducible refine w_ite ?_ ?_ <;> intro hq)
  | ((with_reducible refine' w_iteNT ?h1 ?_); (case h1 => omega))
  | ((with_reducible refine' w_iteNF ?h1 ?_); (case h1 => omega))
  | (with_reducible refine w_iteN ?_ ?_ <;> intro hq))
local macro_rules | `(tactic| walk_at "go") => `(tactic| repeat' first | walk_at "s1" | walk_at "g1" | walk_at "ite")
local macro_rules | `(tactic| walk_at "g1") => `(tactic| first
  | ((with_reducible refine' g_take1 ?h1 ?h2 ?h3 ?h4 ?_); (case h1 => assumption); (case h2 => walk_at "spl"); (case h3 => omega); (case h4 => omega); intro k H2 hk1 hh2)
  | ((with_reducible refine' g_take ?h1 ?h2 ?h4 ?_); (case h1 => assumption); (case h2 => walk_at "spl"); (case h4 => omega); intro k H2 hk1 hh2)
  | ((with_reducible refine' g_betweenN ?h1 ?h2 ?h5 ?h3 ?h4 ?_); (case h1 => assumption); (case h2 => walk_at "spl"); (case h5 => omega); (case h3 => omega); (case h4 => omega); intro k H2 hk1 hk2 hh2)
  | ((with_reducible refine' g_between ?h1 ?h2 ?h3 ?h4 ?_); (case h1 => assumption); (case h2 => walk_at "spl"); (case h3 => omega); (case h4 => omega); intro k H2 hk1 hk2 hh2)
  | ((with_reducible refine' g_size ?h1 ?h2 ?h3 ?h4 ?_); (case h1 => assumption); (case h2 => walk_at "spl"); (case h3 => omega); (case h4 => omega); intro k H2 hk1 hh2)
  | ((with_reducible refine' g_word ?h1 ?h2 ?_); (case h1 => assumption); (case h2 => walk_at "spl"); intro k H2 hk1 hh2))
section
variable {P : Program} {w : World} {K : PySem.W.Frag} {mg : Str → Option Value} {base : Heap} {aREG aOPS : Addr}
local macro_rules | `(tactic| walk_at "g1") => `(tactic| first | ((with_reducible refine' g_letter ?h1 ?_); (case h1 => omega)) | with_reducible refine u_nil ?_ | with_reducible refine u_cons ?_ | ((with_reducible refine' sgnT ?h1 ?_); (case h1 => decide +kernel)) | ((with_reducible refine' sgnF ?h1 ?_); (case h1 => decide +kernel)))
def sp_ldrawn (K : PySem.W.Frag) : Sp := fun vs H Q _ => ∃ (st c a : Addr) (o : Nat) (Z R : List Cell), vs = [.ref st, .ref a] ∧ o < 16 ∧ (∀ H', Hd H' Z → SqT K H' a [.str (opNm o), .str (opSo o)]) ∧ Hd H (stoC st c :: scrC c :: (Z ++ R)) ∧ ∀ (p : Addr) (f l : Nat) (H' : Hp), InsR o f l → Hd H' (tupC p (insO o f l) :: stoC st c :: scrC c :: (Z ++ R)) → Q (.ref p) H'
theorem c_ldrawn (T : Txt K mg aREG aOPS) (d : DefAt K mg "_law_drawn" s__law_drawn) (c__law_take : C8.Cal P w K mg base 2 "_law_take" sp_take []) (c__law_between : C8.Cal P w K mg base 3 "_law_between" sp_between []) : C8.Cal P w K mg base 4 "_law_drawn" (sp_ldrawn K) [] := by
  refine mk d sc__law_drawn (fun _ _ _ _ _ _ us hl => match us, hl with | [_, _], _ => rfl) (fun vs H Q E h => ?_) (fun fa cdv A outer s H vs Q E hr h => ?_)
  · obtain ⟨st, c, a, o, Z, R, rfl, _⟩ := h
    rfl
  · obtain ⟨st, c, a, o, Z, R, rfl, hlt, hrow, hh, q⟩ := h
    refine ⟨_, (pss_cons (ps_set (i := 2) sc__law_drawn.nd rfl (Or.inl rfl) pe_str)
  (pss_cons (ps_set (i := 3) sc__law_drawn.nd rfl (Or.inl rfl) (pe_lst (pa_cons (pe_ix ix_tup (pv 1) pe_int (fun _ _ => rfl)) pa_nil)))
  (pss_cons (ps_for PassesOwn.never rfl (pi_str (pe_ix ix_tup (pv 1) pe_int (fun _ _ => rfl))) (pg_name (i := 4) sc__law_drawn.nd rfl (Or.inl rfl))
    (pss_one (ps_if (pt_cmpR op_eq (pv 4) pe_str (nomark _))
        (pss_one (ps_expr (pe_bm PySem.F.plainAttrs_list PySem.F.slot_list_append PySem.F.type_list_append mt_append (pv 3) (pa_cons (C8.pe_c c__law_between hr (by first | decide | omega) rfl (pa_cons (pv 0) (pa_cons pe_int (pa_cons pe_int pa_nil)))) pa_nil))))
        (pss_one (ps_expr (pe_bm PySem.F.plainAttrs_list PySem.F.slot_list_append PySem.F.type_list_append mt_append (pv 3) (pa_cons (pe_ix ix_str (pv 2) (C8.pe_c c__law_take hr (by first | decide | omega) rfl (pa_cons (pv 0) (pa_cons pe_int pa_nil))) (fun _ _ => rfl)) pa_nil)))))))
  (pss_one (ps_ret (pe_callTy Wk.b_tuple (by rfl) T.b_tuple (by decide +kernel) (pa_cons (pv 3) pa_nil))))))), ?_⟩
    walk_at "gs"
    refine w_ixT (i := 0) (hrow _ (Hd.sb hh (by walk_at "sbx"))) rfl ?_
    walk_at "gs"
    rename_i ps H3 h3
    refine w_ixT (i := 1) (hrow _ (Hd.sb h3 (by walk_at "sbx"))) rfl ?_
    walk_at "gs"
    refine w_unr ?_
    have hs : (opSo o = "" ∧ o = 0) ∨ (opSo o = "RN" ∧ (o = 1 ∨ o = 12 ∨ o = 14)) ∨ (opSo o = "RS" ∧ 2 ≤ o ∧ o ≤ 10) ∨ (opSo o = "N" ∧ (o = 11 ∨ o = 13)) ∨ (opSo o = "R" ∧ o = 15) := by
      have k : ∀ o : Fin 16, (opSo o.1 = "" ∧ o.1 = 0) ∨ (opSo o.1 = "RN" ∧ (o.1 = 1 ∨ o.1 = 12 ∨ o.1 = 14)) ∨ (opSo o.1 = "RS" ∧ 2 ≤ o.1 ∧ o.1 ≤ 10) ∨ (opSo o.1 = "N" ∧ (o.1 = 11 ∨ o.1 = 13)) ∨ (opSo o.1 = "R" ∧ o.1 = 15) := by decide +kernel
      exact k ⟨o, hlt⟩
    have fin : ∀ {p xs H' L0} (f l : Nat), Hd H' (tupC p xs :: L0) → insO o f l = xs → f < 4 → l ≤ 1023 → (2 ≤ o → o ≤ 10 → l < 4) → Sb (stoC st c :: scrC c :: (Z ++ R)) L0 → Q (.ref p) H' := fun {p xs H' L0} f l h e h1 h2 h3 s => q p f l H' ⟨hlt, h1, h2, h3⟩ (e ▸ h.sb (.cons .here s))
    rcases hs with ⟨e, ho⟩ | ⟨e, ho⟩ | ⟨e, ho⟩ | ⟨e, ho⟩ | ⟨e, ho⟩
    all_goals
      rw [e]
    · show unrS _ _ _ [] _ _
      walk_at "gs"
      rename_i h
      exact fin 0 0 h (by subst ho; rfl) (by omega) (by omega) (by omega) (by walk_at "sbx")
    · show unrS _ _ _ [82, 78] _ _
      walk_at "gs"
      rename_i f _ hf _ _ _ l _ _ hl _ _ _ _ _ h
      exact fin f l h (by rcases ho with rfl | rfl | rfl <;> rfl) (by omega) (by omega) (by omega) (by walk_at "sbx")
    · show unrS _ _ _ [82, 83] _ _
      walk_at "gs"
      rename_i f _ hf _ _ _ l _ hl _ _ _ _ _ h
      exact fin f l h (by
        obtain ⟨h1, h2⟩ := ho
        match o, h1, h2 with
        | 2, _, _ | 3, _, _ | 4, _, _ | 5, _, _ | 6, _, _ | 7, _, _ | 8, _, _ | 9, _, _ | 10, _, _ => rfl) (by omega) (by omega) (by omega) (by walk_at "sbx")
    · show unrS _ _ _ [78] _ _
      walk_at "gs"
      rename_i l _ _ hl _ _ _ _ _ h
      exact fin 0 l h (by rcases ho with rfl | rfl <;> rfl) (by omega) (by omega) (by omega) (by walk_at "sbx")
    · show unrS _ _ _ [82] _ _
      walk_at "gs"
      rename_i f _ hf _ _ _ _ _ h
      exact fin f 0 h (by subst ho; rfl) (by omega) (by omega) (by omega) (by walk_at "sbx")
end
end K08
set_option Elab.async false
set_option linter.all false
set_option maxRecDepth 100000
set_option maxHeartbeats 4000000
namespace K08
open PySem PySem.Spec PyProof.Rows L2 Wk
local macro_rules | `(tactic| walk_at "u1") => `(tactic| fail "no more")
local macro_rules | `(tactic| walk_at "pos") => `(tactic| first | assumption | omega | decide | (simp only [Int.ofNat_eq_natCast] at *; omega))
local macro_rules | `(tactic| walk_at "sz") => `(tactic| first
  | (simp only [List.length_cons, List.length_nil]; decide)
  | exact Evl.sz_of (by omega)
  | exact Evl.sz_lt (by omega)
  | exact Evl.sz_of (by simp only [List.length_map, List.length_append, List.length_cons, List.length_nil, List.length_replicate]; omega)
  | exact Evl.sz_lt (by simp only [List.length_map, List.length_append, List.length_cons, List.length_nil, List.length_replicate]; omega))
local macro_rules | `(tactic| walk_at "cond") => `(tactic| first
  | exact Or.inr ⟨by decide, by decide⟩
  | (show (0 : Int) < _; first | decide | assumption | omega)
  | exact Or.inl ⟨by omega, by omega⟩
  | exact Or.inr ⟨by omega, by omega⟩
  | exact ⟨by decide, by decide, by decide⟩
  | exact log2_lt (by omega) (by omega)
  | exact ⟨by omega, by omega⟩)
local macro_rules | `(tactic| walk_at "ty") => `(tactic| first
  | exact ty_int | exact ty_bl | exact ty_str | exact ty_non
  | exact ty_L (by assumption) | exact ty_T (by assumption)
  | exact ty_L (SqL.of (by assumption)) | exact ty_T (SqT.of (by assumption)))
local macro_rules | `(tactic| walk_at "kit") => `(tactic| first
  | exact k_ii | exact k_ib | exact k_is | exact k_il | exact k_it
  | exact k_bb | exact k_bi | exact k_bs | exact k_bl | exact k_bt
  | exact k_ss | exact k_sb | exact k_si | exact k_sl | exact k_st
  | exact k_ll | exact k_lb | exact k_li | exact k_ls | exact k_lt
  | exact k_tt | exact k_tb | exact k_ti | exact k_ts | exact k_tl
  | exact k_nn | exact k_ni | exact k_ns | exact k_nl | exact k_nt)
local macro_rules | `(tactic| walk_at "s1") => `(tactic| first
  | with_reducible refine w_seq ?_
  | with_reducible refine w_set ?_
  | with_reducible refine w_op ?_
  | ((with_reducible refine' w_var ?h1 ?_); (case h1 => rfl))
  | with_reducible refine w_c ?_
  | with_reducible refine w_cb ?_
  | with_reducible refine w_cons ?_
  | with_reducible refine w_nil ?_
  | with_reducible refine w_I0 ?_
  | ((with_reducible refine' w_I ?c1 ?_); case c1 => walk_at "cond")
  | with_reducible refine w_ret ?_
  | with_reducible refine w_next ?_
  | with_reducible refine w_ifS ?_
  | with_reducible refine w_test ?_
  | with_reducible refine w_tB ?_
  | with_reducible refine w_k ?_
  | with_reducible refine w_eqI ?_
  | with_reducible refine w_neI ?_
  | with_reducible refine w_eqS ?_
  | with_reducible refine w_neS ?_
  | with_reducible refine w_and ?_
  | with_reducible refine w_or ?_
  | with_reducible refine w_not ?_
  | with_reducible refine w_andV ?_
  | with_reducible refine w_orV ?_
  | with_reducible refine w_notV ?_
  | with_reducible refine w_ifE ?_
  | with_reducible refine w_true ?_
  | with_reducible refine w_false ?_
  | with_reducible refine w_ntrue ?_
  | with_reducible refine w_nfalse ?_
  | with_reducible refine w_call ?_
  | with_reducible refine c_int ?_
  | with_reducible refine c_abs ?_
  | with_reducible refine c_max ?_
  | with_reducible refine c_min ?_
  | with_reducible refine w_drop ?_
  | with_reducible refine w_sfld ?_
  | with_reducible refine w_meth ?_
  | with_reducible refine w_make ?_
  | with_reducible refine w_prop ?_
  | with_reducible refine w_callK ?_
  | with_reducible refine w_callN ?_
  | with_reducible refine w_star ?_
  | with_reducible refine w_gcons ?_
  | with_reducible refine w_gname ?_
  | with_reducible refine w_gnil ?_
  | with_reducible refine w_retN ?_
  | with_reducible refine w_tup ?_
  | with_reducible refine w_lst ?_
  | with_reducible refine w_fld ?_
  | with_reducible refine w_bm ?_
  | with_reducible refine w_bm0 ?_
  | with_reducible refine w_forL ?_
  | with_reducible refine w_forT ?_
  | with_reducible refine w_forS ?_
  | with_reducible refine w_forR ?_
  | with_reducible refine w_lcR ?_
  | with_reducible refine w_lcL ?_
  | with_reducible refine w_lcT ?_
  | with_reducible refine w_isN ?_
  | with_reducible refine w_notN ?_
  | with_reducible refine w_asg ?_
  | with_reducible refine w_gsub ?_
  | ((with_reducible refine' w_aug ?h1 ?_); (case h1 => rfl))
  | with_reducible refine w_augS ?_
  | with_reducible refine w_ipI ?_
  | with_reducible refine w_un ?_
  | with_reducible refine w_U ?_
  | ((with_reducible refine' w_iteF ?f1 ?_); case f1 => (first | (intro h; cases h; done) | decide))
  | ((with_reducible refine' w_iteT ?f1 ?_); case f1 => rfl)
  | ((with_reducible refine' w_iteNF ?f1 ?_); case f1 => rfl)
  | ((with_reducible refine' w_iteNT ?f1 ?_); case f1 => (first | (intro h; cases h; done) | decide))
  | ((with_reducible refine' c_isi ?t1 ?k1 ?_); (case t1 => walk_at "ty"); (case k1 => walk_at "kit"))
  | ((with_reducible refine' w_eq ?e1 ?_); case e1 => rfl)
  | ((with_reducible refine' w_ne ?e1 ?_); case e1 => rfl)
  | walk_at "u1")
local macro_rules | `(tactic| walk_at "s") => `(tactic| repeat walk_at "s1")
local macro_rules | `(tactic| walk_at "mem") => `(tactic| first | with_reducible exact List.mem_cons_self .. | ((with_reducible refine' List.mem_cons_of_mem _ ?q); (case q => walk_at "mem")) | assumption | ((with_reducible refine' List.mem_append_right _ ?q); (case q => walk_at "mem")) | (exact List.mem_append_left _ (by assumption)))
local macro_rules | `(tactic| walk_at "pk") => `(tactic| first | with_reducible exact Pk.here | ((with_reducible refine' Pk.there ?q); (case q => walk_at "pk")) | ((with_reducible refine' Pk.app ?q); (case q => walk_at "pk")))
local macro_rules | `(tactic| walk_at "pkb") => `(tactic| first | with_reducible exact PkB.here | ((with_reducible refine' PkB.there ?q); (case q => walk_at "pkb")) | ((with_reducible refine' PkB.app ?q); (case q => walk_at "pkb")))
local macro_rules | `(tactic| walk_at "spl") => `(tactic| first | with_reducible exact Spl.nil | ((with_reducible refine' Spl.cons ?h ?t); (case h => walk_at "pk"); (case t => walk_at "spl")) | ((with_reducible refine' Spl.blk ?h ?t); (case h => walk_at "pkb"); (case t => walk_at "spl")))
local macro_rules | `(tactic| walk_at "sbx") => `(tactic| first | with_reducible exact Sb.refl | with_reducible exact Sb.nil | with_reducible exact Sb.left | ((with_reducible refine' Sb.cons ?h ?t); (case h => walk_at "pk"); (case t => walk_at "sbx")) | ((with_reducible refine' Sb.blk ?h ?t); (case h => walk_at "pkb"); (case t => walk_at "sbx")) | ((with_reducible refine' Sb.drop ?q); (case q => walk_at "sbx")) | ((with_reducible refine' Sb.right ?q); (case q => walk_at "sbx")))
local macro_rules | `(tactic| walk_at "hd") => `(tactic| first | assumption | exact Hd.sb (by assumption) (by walk_at "sbx"))
local macro_rules | `(tactic| walk_at "sq") => `(tactic| first
  | assumption
  | exact Hd.sqL (by assumption) (by walk_at "mem")
  | exact Hd.sqT (by assumption) (by walk_at "mem")
  | exact Hd.sqF (by assumption) (by walk_at "mem")
  | (refine .inl ?_; walk_at "sq")
  | (refine .inr ?_; walk_at "sq"))
local macro_rules | `(tactic| walk_at "at") => `(tactic| first | rfl | assumption | exact atI_nat (by assumption))
local macro_rules | `(tactic| walk_at "dn1") => `(tactic| first
  | exact Dn.int | exact Dn.str | exact Dn.non | exact Dn.bl | assumption
  | ((refine' Dn.tp ?a1 ?m1 ?l1 ?p1); (case a1 => assumption); (case m1 => walk_at "mem"); (case l1 => (simp only [List.length_cons, List.length_nil]; omega)); (case p1 => walk_at "dns"))
  | ((refine' Dn.lt ?a1 ?m1 ?l1 ?p1); (case a1 => assumption); (case m1 => walk_at "mem"); (case l1 => (simp only [List.length_cons, List.length_nil]; omega)); (case p1 => walk_at "dns")))
local macro_rules | `(tactic| walk_at "dns") => `(tactic| first | exact Paired.nil | exact Dn.ints | ((refine' Paired.cons ?a1 ?b1); (case a1 => walk_at "dn1"); (case b1 => walk_at "dns")))
local macro_rules | `(tactic| walk_at "g1") => `(tactic| first
  | ((with_reducible refine' g_ixI ?h1 ?h2 ?h3 ?_); (case h1 => assumption); (case h2 => walk_at "mem"); (case h3 => omega); intro z hz)
  | ((with_reducible refine' g_ixIT ?h1 ?h2 ?h3 ?_); (case h1 => assumption); (case h2 => walk_at "mem"); (case h3 => omega); intro z hz)
  | ((with_reducible refine' g_setI ?h1 ?h2 ?h3 ?_); (case h1 => assumption); (case h2 => walk_at "pk"); (case h3 => omega); intro H2 hh2)
  | ((with_reducible refine' w_ixL ?h1 ?h2 ?_); (case h1 => walk_at "sq"); (case h2 => walk_at "at"))
  | ((with_reducible refine' w_ixT ?h1 ?h2 ?_); (case h1 => walk_at "sq"); (case h2 => walk_at "at"))
  | ((with_reducible refine' w_ixAny ?h1 ?h2 ?_); (case h1 => walk_at "sq"); (case h2 => walk_at "at"))
  | ((with_reducible refine' c_lenA ?h1 ?_); (case h1 => walk_at "sq"))
  | ((with_reducible refine' c_isi ?t1 ?k1 ?_); (case t1 => first | exact ty_T (by walk_at "sq") | exact ty_L (by walk_at "sq")); (case k1 => walk_at "kit"))
  | ((with_reducible refine' g_lst ?h1 ?h2 ?_); (case h1 => assumption); (case h2 => walk_at "sz"); intro p H2 hh2)
  | ((with_reducible refine' g_tup ?h1 ?h2 ?_); (case h1 => assumption); (case h2 => walk_at "sz"); intro p H2 hh2)
  | ((with_reducible refine' g_dict ?h1 ?_); (case h1 => assumption); intro p H2 hh2)
  | ((with_reducible refine' g_listL ?h1 ?h2 ?_); (case h1 => assumption); (case h2 => walk_at "sq"); intro p H2 hh2)
  | ((with_reducible refine' g_listT ?h1 ?h2 ?_); (case h1 => assumption); (case h2 => walk_at "sq"); intro p H2 hh2)
  | ((with_reducible refine' g_tupL ?h1 ?h2 ?_); (case h1 => assumption); (case h2 => walk_at "sq"); intro p H2 hh2)
  | ((with_reducible refine' g_set ?h1 ?h2 ?h3 ?_); (case h1 => assumption); (case h2 => walk_at "pk"); (case h3 => first | rfl | assumption | exact Evl.ixN_nat (by first | omega | (simp only [List.length_cons, List.length_nil]; omega))); intro H2 hh2)
  | ((with_reducible refine' g_kbm ?h1 ?h2 ?_); (case h1 => assumption); (case h2 => walk_at "mem"))
  | ((with_reducible refine' g_kbm0 ?h1 ?h2 ?_); (case h1 => assumption); (case h2 => walk_at "mem"))
  | ((with_reducible refine' g_app ?h1 ?h2 ?h3 ?_); (case h1 => assumption); (case h2 => walk_at "pk"); (case h3 => walk_at "sz"); intro H2 hh2)
  | ((with_reducible refine' g_kapp ?h1 ?h2 ?h3 ?_); (case h1 => assumption); (case h2 => walk_at "pk"); (case h3 => walk_at "sz"); intro H2 hh2)
  | ((with_reducible refine' g_fld ?h1 ?h2 ?h3 ?h4 ?h5 ?_); (case h1 => assumption); (case h2 => walk_at "mem"); (case h3 => assumption); (case h4 => assumption); (case h5 => rfl))
  | ((with_reducible refine' g_sfld ?h1 ?h2 ?h3 ?h4 ?h5 ?_); (case h1 => assumption); (case h2 => walk_at "pk"); (case h3 => assumption); (case h4 => assumption); (case h5 => decide); intro H2 hh2)
  | ((with_reducible refine' g_meth ?h1 ?h2 ?h3 ?_); (case h1 => assumption); (case h2 => walk_at "mem"); (case h3 => rfl))
  | ((with_reducible refine' g_prop ?h1 ?h2 ?_); (case h1 => assumption); (case h2 => walk_at "mem"))
  | ((with_reducible refine' g_make ?h1 ?_); (case h1 => assumption); intro x H2 hh2)
  | ((with_reducible refine' g_cat ?h1 ?h2 ?h3 ?h4 ?_); (case h1 => assumption); (case h2 => walk_at "mem"); (case h3 => walk_at "mem"); (case h4 => walk_at "sz"); intro p H2 hh2)
  | ((with_reducible refine' g_inT ?h1 ?h2 ?h3 ?h4 ?h5 ?_); (case h1 => assumption); (case h2 => walk_at "mem"); (case h3 => rfl); (case h4 => rfl); (case h5 => rfl)))
local macro_rules | `(tactic| walk_at "gs") => `(tactic| repeat first | walk_at "s1" | walk_at "g1")
local macro_rules | `(tactic| walk_at "ite") => `(tactic| first
  | ((with_reducible refine' w_iteT ?h1 ?_); (case h1 => omega))
  | ((with_reducible refine' w_iteF ?h1 ?_); (case h1 => omega))
  | (with_reducible refine w_ite ?_ ?_ <;> intro hq)
  | ((with_reducible refine' w_iteNT ?h1 ?_); (case h1 => omega))
  | ((with_reducible refine' w_iteNF ?h1 ?_); (case h1 => omega))
  | (with_reducible refine w_iteN ?_ ?_ <;> intro hq))
local macro_rules | `(tactic| walk_at "go") => `(tactic| repeat' first | walk_at "s1" | walk_at "g1" | walk_at "ite")
local macro_rules | `(tactic| walk_at "g1") => `(tactic| first
  | ((with_reducible refine' g_take1 ?h1 ?h2 ?h3 ?h4 ?_); (case h1 => assumption); (case h2 => walk_at "spl"); (case h3 => omega); (case h4 => omega); intro k H2 hk1 hh2)
  | ((with_reducible refine' g_take ?h1 ?h2 ?h4 ?_); (case h1 => assumption); (case h2 => walk_at "spl"); (case h4 => omega); intro k H2 hk1 hh2)
  | ((with_reducible refine' g_betweenN ?h1 ?h2 ?h5 ?h3 ?h4 ?_); (case h1 => assumption); (case h2 => walk_at "spl"); (case h5 => omega); (case h3 => omega); (case h4 => omega); intro k H2 hk1 hk2 hh2)
  | ((with_reducible refine' g_between ?h1 ?h2 ?h3 ?h4 ?_); (case h1 => assumption); (case h2 => walk_at "spl"); (case h3 => omega); (case h4 => omega); intro k H2 hk1 hk2 hh2)
  | ((with_reducible refine' g_size ?h1 ?h2 ?h3 ?h4 ?_); (case h1 => assumption); (case h2 => walk_at "spl"); (case h3 => omega); (case h4 => omega); intro k H2 hk1 hh2)
  | ((with_reducible refine' g_word ?h1 ?h2 ?_); (case h1 => assumption); (case h2 => walk_at "spl"); intro k H2 hk1 hh2))
local macro_rules | `(tactic| walk_at "g1") => `(tactic| first | with_reducible refine w_sl ?_ | with_reducible refine w_part ?_ | with_reducible refine w_noPart ?_ | with_reducible refine w_exI ?_)
section
variable {P : Program} {w : World} {K : PySem.W.Frag} {mg : Str → Option Value} {base : Heap} {aREG aOPS : Addr}
def toD : V → PyData
  | .str z => .str z
  | .int i => .int i
  | _ => .none
theorem toD_dn {H : Hp} : ∀ {xs : List V}, (∀ v ∈ xs, (∃ z, v = .str z) ∨ ∃ i, v = .int i) → Paired (Dn K [] H 0) xs (xs.map toD)
  | [], _ => .nil
  | v :: xs, h => by
    refine .cons ?_ (toD_dn fun x hx => h x (List.mem_cons_of_mem _ hx))
    rcases h v (List.mem_cons_self ..) with ⟨z, rfl⟩ | ⟨i, rfl⟩
    · exact Dn.str
    · exact Dn.int
theorem ins_sc {o f l : Nat} (h : o < 16) : ∀ v ∈ insO o f l, (∃ z, v = .str z) ∨ ∃ i, v = .int i := by
  intro v hv
  rw [insO_parts h] at hv
  rcases List.mem_cons.mp hv with rfl | hv
  · exact .inl ⟨_, rfl⟩
  · obtain ⟨c, hc, rfl⟩ := List.mem_map.mp hv
    rcases (so_key h).2.2.1 c hc with rfl | rfl | rfl
    · exact .inr ⟨_, rfl⟩
    · exact .inl ⟨_, rfl⟩
    · exact .inl ⟨_, rfl⟩
theorem ins_len {o f l : Nat} (h : o < 16) : (insO o f l).length ≤ 3 := by
  rw [insO_parts h, List.length_cons, List.length_map]
  have := (so_key h).2.1
  omega
section
variable {H : Hp} {L : List Cell} {Q : VK} {a b : Addr} {xs ys : List V}
theorem g_catT {K : PySem.W.Frag} (hh : Hd H L) (ha : SqT K H a xs) (hb : SqT K H b ys) (h1 : xs ≠ []) (h2 : ys ≠ []) (hz : xs.length + ys.length ≤ sizeLine) (q : ∀ p H2, Hd H2 (tupC p (xs ++ ys) :: L) → Q (.ref p) H2) : rCatT K (.ref a) (.ref b) H Q :=
  ⟨a, b, xs, ys, rfl, rfl, ha, hb, h1, hz, fun e => absurd e h2, fun _ p hp => q p _ (hh.newT (New.of hp))⟩
end
theorem toD_len {xs : List V} : (xs.map toD).length = xs.length := List.length_map ..
/-- an operation's name ahead, and so many parts -/
theorem bad_len {o : Nat} {ds : List PyData} (ho : o < 16) (h : ds.length ≠ (opSo o).cps.toList.length) : BadDI (.tuple (.str (opNm o) :: ds)) := ⟨nm_ok ho, .inr ⟨o, ho, rfl, .inl h⟩⟩
theorem bad_part {o j c : Nat} {ds : List PyData} {d : PyData} (ho : o < 16) (hc : (opSo o).cps.toList[j]? = some c) (hd : ds[j]? = some d) (h : opOkD c d = false) : BadDI (.tuple (.str (opNm o) :: ds)) := ⟨nm_ok ho, .inr ⟨o, ho, rfl, .inr ⟨j, c, d, hc, hd, h⟩⟩⟩
theorem wrong_num {H : Hp} {n : Nat} {v : V} {d : PyData} (h : Dn K [] H n v d) (e : isR v 0 1023 = false) : opOkD 78 d = false := by
  rw [← opOk_eq h]
  unfold opOkU
  rw [show ((⟨#[78]⟩ : Str) == "N") = true by decide +kernel, if_pos rfl]
  exact e
theorem c_intT {p : Prop} [Decidable p] {H : Hp} {Q : VK} (hp : p) (q : Q (.int 1) H) : CB rInt1 [.bl (decide p)] H Q := c_intB (by rw [decide_eq_true hp]; exact q)
theorem c_intF {p : Prop} [Decidable p] {H : Hp} {Q : VK} (hp : ¬ p) (q : Q (.int 0) H) : CB rInt1 [.bl (decide p)] H Q := c_intB (by rw [decide_eq_false hp]; exact q)
theorem ne_nm {z : Str} (h : ∀ o : Fin 16, z ≠ opNm o.1) : ∀ o, o < 16 → PyData.str z ≠ .str (opNm o) := fun o ho e => h ⟨o, ho⟩ (by cases e; rfl)
theorem str_len {z : Str} (h : z.length ≠ 1) : strD (.str z) = false := by
  show (regL.any fun y => y == z) = false
  rw [List.any_eq_false]
  intro y hy e
  have : y = z := by simpa using e
  subst this
  have k : ∀ y ∈ regL, y.length = 1 := by decide +kernel
  exact h (k y hy)
theorem cut_end {xs : List V} : cutV xs none (some (-1)) = xs.take (xs.length - 1) := by
  unfold cutV
  rw [show HT.sIx xs.length 0 none = 0 from rfl, List.drop_zero, Nat.sub_zero]
  have e : HT.sIx xs.length xs.length (some (-1)) = xs.length - 1 := by
    unfold HT.sIx
    simp
    omega
  rw [e]
theorem shape_R {o : Nat} (ho : o < 16) (h : 82 ∈ (opSo o).cps.toList) : (opSo o).cps.toList[0]? = some 82 ∧ (opSo o = "RS" → (opSo o).cps.toList[1]? = some 83) := by
  have k : ∀ o : Fin 16, 82 ∈ (opSo o.1).cps.toList → (opSo o.1).cps.toList[0]? = some 82 ∧ (opSo o.1 = "RS" → (opSo o.1).cps.toList[1]? = some 83) := by decide +kernel
  exact k ⟨o, ho⟩ h
theorem paired_set {α β : Type} {F : α → β → Prop} {x : α} {y : β} : ∀ {xs : List α} {ys : List β} {k : Nat}, Paired F xs ys → F x y → Paired F (xs.set k x) (ys.set k y)
  | _, _, _, .nil, _ => .nil
  | _, _, 0, .cons r t, h => .cons h t
  | _, _, _ + 1, .cons r t, h => .cons r (paired_set t h)
def sp_noins (K : PySem.W.Frag) : Sp := fun vs H Q _ => ∃ (st c : Addr) (R : List Cell), vs = [.ref st] ∧ Hd H (stoC st c :: scrC c :: R) ∧ ∀ (v : V) (d : PyData) (Z : List Cell) H', BadDI d → Zc K Z 3 v d → Hd H' (stoC st c :: scrC c :: (Z ++ R)) → Q v H'
theorem c_noins (T : Txt K mg aREG aOPS) (d : DefAt K mg "_law_no_instruction" s__law_no_instruction) (c__law_take : C8.Cal P w K mg base 2 "_law_take" sp_take []) (c__law_pick : C8.Cal P w K mg base 3 "_law_pick" (sp_pick K) []) (c__law_text : C8.Cal P w K mg base 3 "_law_text" sp_ltext []) (c__law_instruction : C8.Cal P w K mg base 4 "_law_instruction" sp_linstr [])
    (c__law_wrong_integer : C8.Cal P w K mg base 4 "_law_wrong_integer" (sp_wrongD K) []) (c__law_operations : C8.Cal P w K mg base 1 "_law_operations" (sp_opsL K) []) (c__law_drawn : C8.Cal P w K mg base 4 "_law_drawn" (sp_ldrawn K) []) (c__law_plain : C8.Cal P w K mg base 7 "_law_plain" (sp_lplain K 3) []) : C8.Cal P w K mg base 8 "_law_no_instruction" (sp_noins K) [] := by
  refine mk d sc__law_no_instruction (fun _ _ _ _ _ _ us hl => match us, hl with | [_], _ => rfl) (fun vs H Q E h => ?_) (fun fa cdv A outer s H vs Q E hr h => ?_)
  · obtain ⟨st, c, R, rfl, _⟩ := h
    rfl
  · obtain ⟨st, c, R, rfl, hh, q⟩ := h
    refine ⟨_, (pss_cons (ps_set (i := 1) sc__law_no_instruction.nd rfl (Or.inl rfl) (C8.pe_c c__law_text hr (by first | decide | omega) rfl (pa_cons (pv 0) (pa_cons (C8.pe_c c__law_take hr (by first | decide | omega) rfl (pa_cons (pv 0) (pa_cons pe_int pa_nil))) pa_nil))))
  (C8.pss_cut (ps_if (pt_cmpR op_eq (pe_callB Wk.b_lenT (by rfl) T.b_len (by decide +kernel) (pa_cons (pv 1) pa_nil)) pe_int (nomark _))
    (pss_one (ps_set (i := 1) sc__law_no_instruction.nd rfl (Or.inl rfl) (pe_op op_add_str (pv 1) (pv 1))))
    pss_nil)
  (pss_cons (ps_set (i := 2) sc__law_no_instruction.nd rfl (Or.inl rfl) (pe_lst (pa_cons pe_str (pa_cons pe_str (pa_cons pe_str (pa_cons pe_str (pa_cons pe_int (pa_cons pe_int (pa_cons pe_non (pa_cons pe_bl (pa_cons pe_str (pa_cons (pe_tup (pa_cons pe_str pa_nil)) (pa_cons (pv 1) (pa_cons (pv 1) pa_nil))))))))))))))
  (pss_cons (ps_set (i := 3) sc__law_no_instruction.nd rfl (Or.inl rfl) (pe_lst (pa_cons pe_non (pa_cons pe_bl (pa_cons pe_bl (pa_cons pe_int (pa_cons pe_int (pa_cons pe_int (pa_cons (pe_un un_neg pe_int) (pa_cons pe_str (pa_cons pe_str (pa_cons (pe_tup pa_nil) (pa_cons (pe_tup (pa_cons pe_non pa_nil)) (pa_cons (pe_tup (pa_cons (pe_tup pa_nil) pa_nil)) (pa_cons (pe_tup (pa_cons pe_str pa_nil)) (pa_cons (pe_lst pa_nil) (pa_cons (pe_lst (pa_cons (pe_tup (pa_cons pe_str pa_nil)) pa_nil)) pa_nil)))))))))))))))))
  (pss_cons (ps_set (i := 4) sc__law_no_instruction.nd rfl (Or.inl rfl) (C8.pe_c c__law_instruction hr (by first | decide | omega) rfl (pa_cons (pv 0) (pa_cons pe_int pa_nil))))
  (pss_cons (ps_set (i := 5) sc__law_no_instruction.nd rfl (Or.inl rfl) (C8.pe_c c__law_take hr (by first | decide | omega) rfl (pa_cons (pv 0) (pa_cons pe_int pa_nil))))
  (pss_cons (ps_if (pt_cmpR op_eq (pv 5) pe_int (nomark _))
    (pss_one (ps_ret (pe_callTy Wk.b_list (by rfl) T.b_list (by decide +kernel) (pa_cons (pv 4) pa_nil))))
    pss_nil)
  (pss_cons (ps_if (pt_cmpR op_eq (pv 5) pe_int (nomark _))
    (pss_one (ps_ret (pe_op op_catT (pv 4) (pe_tup (pa_cons (C8.pe_c c__law_pick hr (by first | decide | omega) rfl (pa_cons (pv 0) (pa_cons (pe_lst (pa_cons pe_int (pa_cons pe_str (pa_cons pe_non pa_nil)))) pa_nil))) pa_nil)))))
    pss_nil)
  (pss_cons (ps_if (pt_cmpR op_eq (pv 5) pe_int (nomark _))
    (pss_one (ps_ret (pe_slice sl_tup (pv 4) po_none (po_some (pe_un un_neg pe_int)))))
    pss_nil)
  (pss_cons (ps_if (pt_cmpR op_eq (pv 5) pe_int (nomark _))
    (pss_one (ps_ret (pe_op op_catT (pe_tup (pa_cons (C8.pe_c c__law_pick hr (by first | decide | omega) rfl (pa_cons (pv 0) (pa_cons (pe_lst (pa_cons pe_str (pa_cons pe_str (pa_cons pe_str (pa_cons pe_str (pa_cons pe_str (pa_cons pe_int (pa_cons pe_non (pa_cons pe_str pa_nil))))))))) pa_nil))) pa_nil)) (pe_slice sl_tup (pv 4) (po_some pe_int) po_none))))
    pss_nil)
  (pss_cons (ps_if (pt_cmpR op_eq (pv 5) pe_int (nomark _))
    (pss_one (ps_ret (pe_tup (pa_cons (C8.pe_c c__law_pick hr (by first | decide | omega) rfl (pa_cons (pv 0) (pa_cons (pe_lst (pa_cons pe_str (pa_cons pe_str (pa_cons pe_str pa_nil)))) pa_nil))) (pa_cons pe_str (pa_cons (C8.pe_c c__law_wrong_integer hr (by first | decide | omega) rfl (pa_cons (pv 0) (pa_cons pe_int (pa_cons pe_int pa_nil)))) pa_nil))))))
    pss_nil)
  (pss_cons (ps_if (pt_cmpR op_eq (pv 5) pe_int (nomark _))
    (pss_one (ps_ret (pe_tup (pa_cons (C8.pe_c c__law_pick hr (by first | decide | omega) rfl (pa_cons (pv 0) (pa_cons (pe_lst (pa_cons pe_str (pa_cons pe_str pa_nil))) pa_nil))) (pa_cons (C8.pe_c c__law_wrong_integer hr (by first | decide | omega) rfl (pa_cons (pv 0) (pa_cons pe_int (pa_cons pe_int pa_nil)))) pa_nil)))))
    pss_nil)
  (pss_cons (ps_if (pt_cmpR op_lt (pv 5) pe_int (nomark _))
    (pss_cons (ps_set (i := 6) sc__law_no_instruction.nd rfl (Or.inl rfl) (C8.pe_c c__law_pick hr (by first | decide | omega) rfl (pa_cons (pv 0) (pa_cons (pe_lc (own := [("row", 9)]) rfl sc__law_no_instruction.nd (pi_list (Wk.pe_c0 c__law_operations hr (by first | decide | omega) rfl)) (blkOk_by (own := [("row", 9)]) (N := nm__law_no_instruction) (sc := defScope s__law_no_instruction) (by decide +kernel)) (fun _ _ _ _ _ => (pg_name (i := 9) sc__law_no_instruction.nd rfl (Or.inl rfl))) (fun _ _ _ _ _ => (pts_one (pt_cmpR op_inS pe_str (pe_ix (show IxR _ (rIxT K) from ix_tup) (pv 9) pe_int (fun _ _ => rfl)) (by rfl)))) (fun _ _ _ _ _ => (pv 9))) pa_nil))))
      (pss_cons (ps_set (i := 7) sc__law_no_instruction.nd rfl (Or.inl rfl) (pe_callTy Wk.b_list (by rfl) T.b_list (by decide +kernel) (pa_cons (C8.pe_c c__law_drawn hr (by first | decide | omega) rfl (pa_cons (pv 0) (pa_cons (pv 6) pa_nil))) pa_nil)))
      (pss_cons (ps_asg (C8.pe_c c__law_pick hr (by first | decide | omega) rfl (pa_cons (pv 0) (pa_cons (pv 2) pa_nil))) (pg_sub (pv 7) (pe_op op_add pe_int (C8.pe_c c__law_take hr (by first | decide | omega) rfl (pa_cons (pv 0) (pa_cons (pe_op op_add pe_int (pe_callTy Wk.b_int (by rfl) T.b_int (by decide +kernel) (pa_cons (pe_cmpR op_eq (pe_ix ix_tup (pv 6) pe_int (fun _ _ => rfl)) pe_str (nomark _)) pa_nil))) pa_nil)))) set_list))
      (pss_one (ps_ret (pe_callTy Wk.b_tuple (by rfl) T.b_tuple (by decide +kernel) (pa_cons (pv 7) pa_nil)))))))
    pss_nil)
  (pss_cons (ps_if (pt_cmpR op_eq (pv 5) pe_int (nomark _))
    (pss_one (ps_ret (pe_ix ix_tup (pv 4) pe_int (fun _ _ => rfl))))
    pss_nil)
  (pss_cons (ps_if (pt_cmpR op_eq (pv 5) pe_int (nomark _))
    (pss_one (ps_ret (C8.pe_c c__law_pick hr (by first | decide | omega) rfl (pa_cons (pv 0) (pa_cons (pv 3) pa_nil)))))
    pss_nil)
  (pss_cons (ps_set (i := 8) sc__law_no_instruction.nd rfl (Or.inl rfl) (C8.pe_c c__law_plain hr (by first | decide | omega) rfl (pa_cons (pv 0) (pa_cons pe_int pa_nil))))
  (pss_cons (ps_if (PW.pt (pw_and (pt_val (pe_callB call_isi (by rfl) T.b_isinstance (by decide +kernel) (pa_cons (pv 8) (pa_cons (pe_bltn (v := .ty "tuple") (by rfl) T.b_tuple (by decide +kernel) rfl) pa_nil)))) (pw_and1 (pt_cmpR op_gt (pe_callB Wk.b_len (by rfl) T.b_len (by decide +kernel) (pa_cons (pv 8) pa_nil)) pe_int (nomark _)))))
    (pss_one (ps_ret (pe_lst (pa_cons (pv 8) pa_nil))))
    pss_nil)
  (pss_one (ps_ret (pv 8)))))))))))))))))))), ?_⟩
    walk_at "gs"
    rename_i k0 H1 hk0 h1
    refine ⟨st, c, k0, R, rfl, by omega, h1, fun z H2 hz h2 => ?_⟩
    clear hh h1
    have hzl : z.length ≤ sizeLine := Nat.le_trans (show z.length ≤ 4 by omega) (by decide)
    walk_at "gs"
    refine w_cut (fun σ H => ∃ z : Str, z.length ≠ 1 ∧ σ = [some (.ref st), some (.str z), none, none, none, none, none, none, none, none] ∧ Hd H (stoC st c :: scrC c :: R)) ?_ ?_
    · walk_at "gs"
      refine c_lenS hzl ?_
      walk_at "gs"
      refine w_ite (fun e => ?_) (fun e => ?_)
      · walk_at "gs"
        refine ⟨z, z, rfl, rfl, Nat.le_trans (show z.length + z.length ≤ 8 by omega) (by decide), ?_⟩
        exact ⟨z ++ z, by rw [Str.length_append]; omega, rfl, h2⟩
      · walk_at "gs"
        exact ⟨z, by omega, rfl, h2⟩
    · rintro σ H3 ⟨z, hz1, rfl, h3⟩
      clear h2
      walk_at "gs"
      rename_i pa _ _ pr _ _ t0 _ _ t1 _ _ t2 _ _ t3 _ _ t4 _ _ l1 _ _ t5 _ _ l2 _ _ lo H4 h4
      refine g_linstr (t := 1023) h4 (by walk_at "spl") (by omega) fun p o f l H5 hi h5 => ?_
      have ho := hi.1
      have ei := insO_parts (f := f) (l := l) ho
      have ik := so_key ho
      have hsc := ins_sc (f := f) (l := l) ho
      rw [ei] at h5 hsc
      have hpl : ((opSo o).cps.toList.map (insPart f l)).length = (opSo o).cps.toList.length := List.length_map ..
      generalize (opSo o).cps.toList.map (insPart f l) = ps at h5 hsc hpl ei
      have hps : ∀ H : Hp, Paired (Dn K [] H 0) ps (ps.map toD) := fun H => toD_dn fun v hv => hsc v (List.mem_cons_of_mem _ hv)
      have hl3 : ps.length ≤ 2 := by rw [hpl]; exact ik.2.1
      clear h3 h4
      walk_at "gs"
      rename_i way H6 hway h6
      clear h5
      refine w_ite (fun e => ?_) (fun e0 => ?_)
      · walk_at "gs"
        rename_i lr H7 h7
        exact q (.ref lr) (.list (.str (opNm o) :: ps.map toD)) [lstC lr (.str (opNm o) :: ps)] H7 trivial (fun H hz => Dn.up (n := 1) (by decide) (Dn.lt (n := 0) hz (List.mem_cons_self ..) (by rw [List.length_cons]; omega) (.cons Dn.str (hps H)))) (Hd.sb (A := stoC st c :: scrC c :: lstC lr (.str (opNm o) :: ps) :: R) h7 (by walk_at "sbx"))
      walk_at "gs"
      refine w_ite (fun e => ?_) (fun e1 => ?_)
      · walk_at "gs"
        rename_i p1 H7 h7
        refine g_pick h7 (by walk_at "spl") (by walk_at "mem") (by simp) (by simp) fun v H8 hv h8 => ?_
        walk_at "gs"
        rename_i p2 H9 h9
        refine g_catT h9 (h9.sqT (by walk_at "mem")) (h9.sqT (by walk_at "mem")) (by simp) (by simp) (by rw [List.length_cons, List.length_singleton]; exact Nat.le_trans (show ps.length + 1 + 1 ≤ 4 by omega) (by decide)) fun p3 H10 h10 => ?_
        obtain ⟨dv, hdv⟩ : ∃ dv, ∀ H : Hp, Dn K [] H 0 v dv := by
          simp only [List.mem_cons, List.not_mem_nil, or_false] at hv
          rcases hv with rfl | rfl | rfl
          · exact ⟨_, fun H => Dn.int⟩
          · exact ⟨_, fun H => Dn.str⟩
          · exact ⟨_, fun H => Dn.non⟩
        refine q (.ref p3) (.tuple (.str (opNm o) :: (ps.map toD ++ [dv]))) [tupC p3 (.str (opNm o) :: (ps ++ [v]))] H10 (bad_len ho (by rw [List.length_append, toD_len, List.length_singleton, hpl]; omega)) (fun H hz => Dn.up (n := 1) (by decide) (Dn.tp (n := 0) hz (List.mem_cons_self ..) (by rw [List.length_cons, List.length_append, List.length_singleton]; omega) (.cons Dn.str (Paired.snoc (hps H) (hdv H))))) ?_
        exact Hd.sb (A := stoC st c :: scrC c :: tupC p3 (V.str (opNm o) :: (ps ++ [v])) :: R) (Hd.cast (c' := tupC p3 (V.str (opNm o) :: (ps ++ [v]))) h10 rfl) (by walk_at "sbx")
      walk_at "gs"
      refine w_ite (fun e => ?_) (fun e2 => ?_)
      · walk_at "gs"
        refine g_slT (ys := (V.str (opNm o) :: ps).take ps.length) h6 (h6.sqT (by walk_at "mem")) (by rw [List.length_cons]; unfold HT.sIx; simp; omega) (by rw [cut_end, List.length_cons, Nat.add_sub_cancel]) fun p1 H7 h7 => ?_
        cases ps with
        | nil => exact q (.ref p1) (.tuple []) [tupC p1 []] H7 trivial (fun H hz => Dn.tp (n := 2) hz (List.mem_cons_self ..) (by simp) .nil) (Hd.sb (A := stoC st c :: scrC c :: tupC p1 [] :: R) (Hd.cast (c' := tupC p1 []) h7 rfl) (by walk_at "sbx"))
        | cons u ps =>
          have hp2 : ∀ H : Hp, Paired (Dn K [] H 0) ((u :: ps).take ps.length) (((u :: ps).take ps.length).map toD) := fun H => toD_dn fun v hv => hsc v (List.mem_cons_of_mem _ (List.mem_of_mem_take hv))
          refine q (.ref p1) (.tuple (.str (opNm o) :: ((u :: ps).take ps.length).map toD)) [tupC p1 (.str (opNm o) :: (u :: ps).take ps.length)] H7 (bad_len ho ?_) (fun H hz => Dn.up (n := 1) (by decide) (Dn.tp (n := 0) hz (List.mem_cons_self ..) ?_ (.cons Dn.str (hp2 H)))) (Hd.sb (A := stoC st c :: scrC c :: tupC p1 (V.str (opNm o) :: (u :: ps).take ps.length) :: R) (Hd.cast (c' := tupC p1 (V.str (opNm o) :: (u :: ps).take ps.length)) h7 rfl) (by walk_at "sbx"))
          · rw [toD_len, List.length_take, ← hpl, List.length_cons]; omega
          · rw [List.length_cons, List.length_take]; omega
      walk_at "gs"
      refine w_ite (fun e => ?_) (fun e3 => ?_)
      · walk_at "gs"
        rename_i pn H7 h7
        refine g_pick h7 (by walk_at "spl") (by walk_at "mem") (by simp) (by simp) fun v H8 hv h8 => ?_
        walk_at "gs"
        rename_i p2 H9 h9
        refine g_slT (ys := ps) h9 (h9.sqT (by walk_at "mem")) (by rw [List.length_cons]; unfold HT.sIx; simp) (show cutV (V.str (opNm o) :: ps) (some ((1 : Nat) : Int)) none = ps by rw [cut_lo]; rfl) fun p3 H10 h10 => ?_
        obtain ⟨dv, hdv, hnm, hne⟩ : ∃ dv, (∀ H : Hp, Dn K [] H 0 v dv) ∧ nmD dv = true ∧ ∀ o, o < 16 → dv ≠ .str (opNm o) := by
          simp only [List.mem_cons, List.not_mem_nil, or_false] at hv
          rcases hv with rfl | rfl | rfl | rfl | rfl | rfl | rfl | rfl
          · exact ⟨_, fun H => Dn.str, by decide +kernel, ne_nm (by decide +kernel)⟩
          · exact ⟨_, fun H => Dn.str, by decide +kernel, ne_nm (by decide +kernel)⟩
          · exact ⟨_, fun H => Dn.str, by decide +kernel, ne_nm (by decide +kernel)⟩
          · exact ⟨_, fun H => Dn.str, by decide +kernel, ne_nm (by decide +kernel)⟩
          · exact ⟨_, fun H => Dn.str, by decide +kernel, ne_nm (by decide +kernel)⟩
          · exact ⟨_, fun H => Dn.int, rfl, fun _ _ e => by cases e⟩
          · exact ⟨.none, fun H => Dn.non, rfl, fun _ _ e => by cases e⟩
          · exact ⟨_, fun H => Dn.str, by decide +kernel, ne_nm (by decide +kernel)⟩
        have hbad : BadDI (.tuple (dv :: ps.map toD)) := ⟨hnm, .inl hne⟩
        refine ⟨p2, p3, [v], ps, rfl, rfl, h10.sqT (by walk_at "mem"), h10.sqT (by walk_at "mem"), by simp, Nat.le_trans (show 1 + ps.length ≤ 3 by omega) (by decide), fun e => ?_, fun e p4 hp4 => ?_⟩
        · subst e
          exact q (.ref p2) (.tuple [dv]) [tupC p2 [v]] H10 hbad (fun H hz => Dn.up (n := 1) (by decide) (Dn.tp (n := 0) hz (List.mem_cons_self ..) (by simp) (.cons (hdv H) .nil))) (Hd.sb (A := stoC st c :: scrC c :: tupC p2 [v] :: R) h10 (by walk_at "sbx"))
        · have h11 := h10.newT (New.of hp4 : New H10 (upd H10 p4 (.tup ([v] ++ ps))) p4 (.tup ([v] ++ ps)))
          exact q (.ref p4) (.tuple (dv :: ps.map toD)) [tupC p4 (v :: ps)] _ hbad (fun H hz => Dn.up (n := 1) (by decide) (Dn.tp (n := 0) hz (List.mem_cons_self ..) (by rw [List.length_cons]; omega) (.cons (hdv H) (hps H)))) (Hd.sb (A := stoC st c :: scrC c :: tupC p4 (v :: ps) :: R) (Hd.cast (c' := tupC p4 (v :: ps)) h11 rfl) (by walk_at "sbx"))
      walk_at "gs"
      refine w_ite (fun e => ?_) (fun e4 => ?_)
      · walk_at "gs"
        rename_i pn H7 h7
        refine g_pick h7 (by walk_at "spl") (by walk_at "mem") (by simp) (by simp) fun v H8 hv h8 => ?_
        clear h6 h7
        walk_at "gs"
        refine g_wrongD h8 (by walk_at "spl") (by omega) (by omega) (by omega) fun u Zu H9 hu h9 => ?_
        obtain ⟨hu1, du, hzu⟩ := hu
        walk_at "gs"
        rename_i p3 H10 h10
        have hdu : opOkD 78 du = false := wrong_num (hzu _ (Hd.sb h10 (by walk_at "sbx"))) hu1
        obtain ⟨o4, ho4, rfl, hc4⟩ : ∃ o4, o4 < 16 ∧ v = .str (opNm o4) ∧ (opSo o4).cps.toList[1]? = some 78 := by
          simp only [List.mem_cons, List.not_mem_nil, or_false] at hv
          rcases hv with rfl | rfl | rfl
          · exact ⟨1, by decide, rfl, by decide +kernel⟩
          · exact ⟨12, by decide, rfl, by decide +kernel⟩
          · exact ⟨14, by decide, rfl, by decide +kernel⟩
        exact q (.ref p3) (.tuple (.str (opNm o4) :: [.str "b", du])) (tupC p3 [.str (opNm o4), .str "b", u] :: Zu) H10 (bad_part ho4 hc4 rfl hdu) (fun H hz => Dn.up (n := 2) (by decide) (Dn.tp (n := 1) hz (List.mem_cons_self ..) (by simp) (.cons Dn.str (.cons Dn.str (.cons (hzu _ hz.tail) .nil))))) (Hd.sb (A := stoC st c :: scrC c :: tupC p3 [.str (opNm o4), .str "b", u] :: (Zu ++ R)) h10 (by walk_at "sbx"))
      walk_at "gs"
      refine w_ite (fun e => ?_) (fun e5 => ?_)
      · walk_at "gs"
        rename_i pn H7 h7
        refine g_pick h7 (by walk_at "spl") (by walk_at "mem") (by simp) (by simp) fun v H8 hv h8 => ?_
        clear h6 h7
        walk_at "gs"
        refine g_wrongD h8 (by walk_at "spl") (by omega) (by omega) (by omega) fun u Zu H9 hu h9 => ?_
        obtain ⟨hu1, du, hzu⟩ := hu
        walk_at "gs"
        rename_i p3 H10 h10
        have hdu : opOkD 78 du = false := wrong_num (hzu _ (Hd.sb h10 (by walk_at "sbx"))) hu1
        obtain ⟨o4, ho4, rfl, hc4⟩ : ∃ o4, o4 < 16 ∧ v = .str (opNm o4) ∧ (opSo o4).cps.toList[0]? = some 78 := by
          simp only [List.mem_cons, List.not_mem_nil, or_false] at hv
          rcases hv with rfl | rfl
          · exact ⟨11, by decide, rfl, by decide +kernel⟩
          · exact ⟨13, by decide, rfl, by decide +kernel⟩
        exact q (.ref p3) (.tuple (.str (opNm o4) :: [du])) (tupC p3 [.str (opNm o4), u] :: Zu) H10 (bad_part ho4 hc4 rfl hdu) (fun H hz => Dn.up (n := 2) (by decide) (Dn.tp (n := 1) hz (List.mem_cons_self ..) (by simp) (.cons Dn.str (.cons (hzu _ hz.tail) .nil)))) (Hd.sb (A := stoC st c :: scrC c :: tupC p3 [.str (opNm o4), u] :: (Zu ++ R)) h10 (by walk_at "sbx"))
      walk_at "gs"
      refine w_ite (fun e => ?_) (fun e6 => ?_)
      · have h7 : Hd H6 (stoC st c :: scrC c :: (lstC pr [.str "e", .str "A", .str "ab", .str "", .int 0, .int 1, .non, .bl true, .str "word", .ref pa, .str z, .str z] :: tupC pa [.str "a"] :: R)) := Hd.sb h6 (by walk_at "sbx")
        clear h6
        walk_at "gs"
        refine g_ops h7 fun pO as ZO H8 hl16 hZ h8 => ?_
        refine g_lcLF h8 (Hd.sqL h8 (by walk_at "mem")) (fun i D H => ∃ os : List Nat, (∀ o ∈ os, o < 16 ∧ 82 ∈ (opSo o).cps.toList) ∧ (1 < i → 0 < os.length) ∧ os.length ≤ i ∧ Hd H (lstC D (os.map fun o => V.ref (as.getD o 0)) :: lstC pO (as.map V.ref) :: (ZO ++ (stoC st c :: scrC c :: (lstC pr [.str "e", .str "A", .str "ab", .str "", .int 0, .int 1, .non, .bl true, .str "word", .ref pa, .str z, .str z] :: tupC pa [.str "a"] :: R))))) (fun D H1 h1 => ⟨[], fun _ h => absurd h (List.not_mem_nil), fun h => absurd h (by omega), Nat.le_refl _, h1⟩) (fun i D H _ h => by obtain ⟨_, _, _, _, h⟩ := h; exact Hd.sqL h (by walk_at "mem")) ?_ ?_
        · rintro i x D H9 hx ⟨os, hos, hne, hle, h9⟩
          clear h7 h8
          rw [List.getElem?_map] at hx
          cases ha : as[i]? with
          | none => rw [ha] at hx; cases hx
          | some a =>
            rw [ha] at hx
            cases hx
            have hi16 : i < 16 := by have := (List.getElem?_eq_some_iff.mp ha).1; omega
            have hop : opsL[i]? = some (opNm i, opSo i) := by
              have k : ∀ o : Fin 16, opsL[o.1]? = some (opNm o.1, opSo o.1) := by decide +kernel
              exact k ⟨i, hi16⟩
            have hrow : ∀ {H}, Hd H ZO → SqT K H a [.str (opNm i), .str (opSo i)] := fun hz => hZ i a _ ha hop _ hz
            walk_at "gs"
            refine w_ixT (i := 1) (hrow (Hd.sb h9 (by walk_at "sbx"))) rfl ?_
            refine w_inS 82 rfl ?_
            refine ⟨_, rfl, ?_⟩
            refine w_ite (fun e => ?_) (fun e => ?_)
            · walk_at "gs"
              rename_i H10 h10
              refine ⟨os ++ [i], fun o h => ?_, fun _ => by rw [List.length_append, List.length_singleton]; omega, by rw [List.length_append, List.length_singleton]; omega, ?_⟩
              · rcases List.mem_append.mp h with h | h
                · exact hos o h
                · rw [List.mem_singleton.mp h]; exact ⟨hi16, e⟩
              · rw [List.map_append]
                have eg : as.getD i 0 = a := by rw [List.getD_eq_getElem?_getD, ha]; rfl
                rw [show [i].map (fun o => V.ref (as.getD o 0)) = [V.ref a] by rw [List.map_cons, eg]; rfl]
                exact h10
            · refine ⟨os, hos, fun h => ?_, by omega, h9⟩
              rcases Nat.lt_or_ge 1 i with h2 | h2
              · exact hne h2
              · obtain rfl : i = 1 := by omega
                exact absurd (by decide +kernel) e
        · rintro D H9 ⟨os, hos, hne, hle, h9⟩
          clear h7 h8
          rw [List.length_map, hl16] at hne hle
          walk_at "gs"
          refine g_pick h9 (by walk_at "spl") (by walk_at "mem") (by rw [List.length_map]; exact hne (by decide)) (by rw [List.length_map]; omega) fun v H10 hv h10 => ?_
          obtain ⟨o6, ho6m, rfl⟩ := List.mem_map.mp hv
          obtain ⟨ho6, hR6⟩ := hos o6 ho6m
          have ha6 : as[o6]? = some (as.getD o6 0) := by rw [List.getD_eq_getElem?_getD, List.getElem?_eq_getElem (show o6 < as.length by omega)]; rfl
          have hop6 : opsL[o6]? = some (opNm o6, opSo o6) := by
            have k : ∀ o : Fin 16, opsL[o.1]? = some (opNm o.1, opSo o.1) := by decide +kernel
            exact k ⟨o6, ho6⟩
          generalize as.getD o6 0 = a6 at ha6 h10
          have hrow : ∀ H, Hd H ZO → SqT K H a6 [.str (opNm o6), .str (opSo o6)] := fun H hz => hZ o6 a6 _ ha6 hop6 _ hz
          clear h9
          walk_at "gs"
          refine ⟨st, c, a6, o6, ZO, lstC pr [.str "e", .str "A", .str "ab", .str "", .int 0, .int 1, .non, .bl true, .str "word", .ref pa, .str z, .str z] :: tupC pa [.str "a"] :: R, rfl, ho6, hrow, Hd.sb h10 (by walk_at "sbx"), fun p6 f6 l6 H11 hi6 h11 => ?_⟩
          clear h10
          have ei6 := insO_parts (f := f6) (l := l6) ho6
          have ik6 := so_key ho6
          have hsc6 := ins_sc (f := f6) (l := l6) ho6
          rw [ei6] at h11 hsc6
          have hpl6 : ((opSo o6).cps.toList.map (insPart f6 l6)).length = (opSo o6).cps.toList.length := List.length_map ..
          generalize (opSo o6).cps.toList.map (insPart f6 l6) = ps6 at h11 hsc6 hpl6 ei6
          have hps6 : ∀ H : Hp, Paired (Dn K [] H 0) ps6 (ps6.map toD) := fun H => toD_dn fun v hv => hsc6 v (List.mem_cons_of_mem _ hv)
          have hl6 : ps6.length ≤ 2 := by rw [hpl6]; exact ik6.2.1
          have hshR := shape_R ho6 hR6
          walk_at "gs"
          rename_i pl H12 h12
          refine g_pick h12 (by walk_at "spl") (by walk_at "mem") (by simp) (by simp) fun v H13 hv h13 => ?_
          obtain ⟨dv, hdv, hsd⟩ : ∃ dv, (∀ H : Hp, Hd H [tupC pa [.str "a"]] → Dn K [] H 1 v dv) ∧ strD dv = false := by
            simp only [List.mem_cons, List.not_mem_nil, or_false] at hv
            rcases hv with rfl | rfl | rfl | rfl | rfl | rfl | rfl | rfl | rfl | rfl | rfl | rfl
            · exact ⟨.str "e", fun H _ => Dn.str, by decide +kernel⟩
            · exact ⟨.str "A", fun H _ => Dn.str, by decide +kernel⟩
            · exact ⟨.str "ab", fun H _ => Dn.str, by decide +kernel⟩
            · exact ⟨.str "", fun H _ => Dn.str, by decide +kernel⟩
            · exact ⟨.int 0, fun H _ => Dn.int, rfl⟩
            · exact ⟨.int 1, fun H _ => Dn.int, rfl⟩
            · exact ⟨.none, fun H _ => Dn.non, rfl⟩
            · exact ⟨.bool true, fun H _ => Dn.bl, rfl⟩
            · exact ⟨.str "word", fun H _ => Dn.str, by decide +kernel⟩
            · exact ⟨.tuple [.str "a"], fun H hz => Dn.tp (n := 0) hz (List.mem_cons_self ..) (by simp) (.cons Dn.str .nil), rfl⟩
            · exact ⟨.str z, fun H _ => Dn.str, str_len hz1⟩
            · exact ⟨.str z, fun H _ => Dn.str, str_len hz1⟩
          clear h11 h12
          walk_at "gs"
          refine w_ixT (i := 1) (hrow _ (Hd.sb h13 (by walk_at "sbx"))) rfl ?_
          walk_at "gs"
          by_cases hRS : opSo o6 = "RS"
          · refine c_intT hRS ?_
            walk_at "gs"
            rename_i k H14 hk h14
            rw [show (1 + (k : Int)) = ((k + 1 : Nat) : Int) by omega]
            obtain ⟨cc, hck, hcc⟩ : ∃ cc, (opSo o6).cps.toList[k]? = some cc ∧ cc ≠ 78 := by
              have h2 : k = 0 ∨ k = 1 := by omega
              rcases h2 with rfl | rfl
              · exact ⟨82, hshR.1, by decide⟩
              · exact ⟨83, hshR.2 hRS, by decide⟩
            have hkl : k < ps6.length := by rw [hpl6]; exact (List.getElem?_eq_some_iff.mp hck).1
            refine g_set (n := k + 1) h14 (by walk_at "pk") (Evl.ixN_nat (by rw [List.length_cons]; omega)) fun H15 h15 => ?_
            clear h13 h14
            walk_at "gs"
            rename_i pt H16 h16
            exact q (.ref pt) (.tuple (.str (opNm o6) :: (ps6.map toD).set k dv)) [tupC pt (.str (opNm o6) :: ps6.set k v), tupC pa [.str "a"]] H16 (bad_part ho6 hck (List.getElem?_set_self (by rw [toD_len]; exact hkl)) (by unfold opOkD; rw [if_neg hcc]; exact hsd)) (fun H hz => Dn.up (n := 2) (by decide) (Dn.tp (n := 1) hz (List.mem_cons_self ..) (by rw [List.length_cons, List.length_set]; omega) (.cons Dn.str (paired_set (Paired.mapP (hps6 H) fun x y q => Dn.up (by decide) q) (hdv H hz.tail))))) (Hd.sb (A := stoC st c :: scrC c :: tupC pt (V.str (opNm o6) :: ps6.set k v) :: tupC pa [.str "a"] :: R) (Hd.cast (c' := tupC pt (V.str (opNm o6) :: ps6.set k v)) h16 rfl) (by walk_at "sbx"))
          · refine c_intF hRS ?_
            walk_at "gs"
            rename_i k H14 hk h14
            rw [show (1 + (k : Int)) = ((k + 1 : Nat) : Int) by omega]
            have hck : (opSo o6).cps.toList[k]? = some 82 := by
              obtain rfl : k = 0 := by omega
              exact hshR.1
            have hkl : k < ps6.length := by rw [hpl6]; exact (List.getElem?_eq_some_iff.mp hck).1
            refine g_set (n := k + 1) h14 (by walk_at "pk") (Evl.ixN_nat (by rw [List.length_cons]; omega)) fun H15 h15 => ?_
            clear h13 h14
            walk_at "gs"
            rename_i pt H16 h16
            exact q (.ref pt) (.tuple (.str (opNm o6) :: (ps6.map toD).set k dv)) [tupC pt (.str (opNm o6) :: ps6.set k v), tupC pa [.str "a"]] H16 (bad_part ho6 hck (List.getElem?_set_self (by rw [toD_len]; exact hkl)) (by unfold opOkD; rw [if_neg (by decide)]; exact hsd)) (fun H hz => Dn.up (n := 2) (by decide) (Dn.tp (n := 1) hz (List.mem_cons_self ..) (by rw [List.length_cons, List.length_set]; omega) (.cons Dn.str (paired_set (Paired.mapP (hps6 H) fun x y q => Dn.up (by decide) q) (hdv H hz.tail))))) (Hd.sb (A := stoC st c :: scrC c :: tupC pt (V.str (opNm o6) :: ps6.set k v) :: tupC pa [.str "a"] :: R) (Hd.cast (c' := tupC pt (V.str (opNm o6) :: ps6.set k v)) h16 rfl) (by walk_at "sbx"))
      walk_at "gs"
      refine w_ite (fun e => ?_) (fun e8 => ?_)
      · walk_at "gs"
        refine w_ixT (i := 0) (v := .str (opNm o)) (h6.sqT (by walk_at "mem")) (atI_nat (j := 0) rfl) ?_
        exact q _ (.str (opNm o)) [] H6 trivial (fun H hz => Dn.str) (Hd.sb (A := stoC st c :: scrC c :: R) h6 (by walk_at "sbx"))
      walk_at "gs"
      refine w_ite (fun e => ?_) (fun e9 => ?_)
      · walk_at "gs"
        refine g_pick h6 (by walk_at "spl") (by walk_at "mem") (by simp) (by simp) fun v H7 hv h7 => ?_
        have q0 : ∀ d, BadDI d → (∀ H, Dn K [] H 3 v d) → Q v H7 := fun d hb hd => q v d [] H7 hb (fun H _ => hd H) (Hd.sb (A := stoC st c :: scrC c :: R) h7 (by walk_at "sbx"))
        simp only [List.mem_cons, List.not_mem_nil, or_false] at hv
        rcases hv with rfl | rfl | rfl | rfl | rfl | rfl | rfl | rfl | rfl | rfl | rfl | rfl | rfl | rfl | rfl
        · exact q0 .none trivial fun H => Dn.non
        · exact q0 (.bool true) trivial fun H => Dn.bl
        · exact q0 (.bool false) trivial fun H => Dn.bl
        · exact q0 (.int 0) trivial fun H => Dn.int
        · exact q0 (.int 1) trivial fun H => Dn.int
        · exact q0 (.int 65535) trivial fun H => Dn.int
        · exact q0 (.int (-1)) trivial fun H => Dn.int
        · exact q0 (.str "") trivial fun H => Dn.str
        · exact q0 (.str "set") trivial fun H => Dn.str
        · exact q (.ref t0) (.tuple []) [tupC t0 []] H7 trivial (fun H hz => Dn.tp (n := 2) hz (List.mem_cons_self ..) (by simp) .nil) (Hd.sb (A := stoC st c :: scrC c :: tupC t0 [] :: R) h7 (by walk_at "sbx"))
        · exact q (.ref t1) (.tuple [.none]) [tupC t1 [.non]] H7 ⟨rfl, .inl fun _ _ e => by cases e⟩ (fun H hz => Dn.tp (n := 2) hz (List.mem_cons_self ..) (by simp) (.cons Dn.non .nil)) (Hd.sb (A := stoC st c :: scrC c :: tupC t1 [.non] :: R) h7 (by walk_at "sbx"))
        · exact q (.ref t3) (.tuple [.tuple []]) [tupC t3 [.ref t2], tupC t2 []] H7 ⟨rfl, .inl fun _ _ e => by cases e⟩ (fun H hz => Dn.tp (n := 2) hz (List.mem_cons_self ..) (by simp) (.cons (Dn.tp (n := 1) hz (List.mem_cons_of_mem _ (List.mem_cons_self ..)) (by simp) .nil) .nil)) (Hd.sb (A := stoC st c :: scrC c :: tupC t3 [.ref t2] :: tupC t2 [] :: R) h7 (by walk_at "sbx"))
        · exact q (.ref t4) (.tuple (.str (opNm 1) :: [])) [tupC t4 [.str "set"]] H7 (bad_len (by decide) (by decide +kernel)) (fun H hz => Dn.tp (n := 2) hz (List.mem_cons_self ..) (by simp) (.cons Dn.str .nil)) (Hd.sb (A := stoC st c :: scrC c :: tupC t4 [.str "set"] :: R) h7 (by walk_at "sbx"))
        · exact q (.ref l1) (.list []) [lstC l1 []] H7 trivial (fun H hz => Dn.lt (n := 2) hz (List.mem_cons_self ..) (by simp) .nil) (Hd.sb (A := stoC st c :: scrC c :: lstC l1 [] :: R) h7 (by walk_at "sbx"))
        · exact q (.ref l2) (.list [.tuple [.str "halt"]]) [lstC l2 [.ref t5], tupC t5 [.str "halt"]] H7 trivial (fun H hz => Dn.lt (n := 2) hz (List.mem_cons_self ..) (by simp) (.cons (Dn.tp (n := 1) hz (List.mem_cons_of_mem _ (List.mem_cons_self ..)) (by simp) (.cons Dn.str .nil)) .nil)) (Hd.sb (A := stoC st c :: scrC c :: lstC l2 [.ref t5] :: tupC t5 [.str "halt"] :: R) h7 (by walk_at "sbx"))
      walk_at "gs"
      refine g_lplain (m := 2) h6 (by walk_at "spl") (by decide) fun v dv Zv H7 hzv h7 => ?_
      have h8 : Hd H7 (stoC st c :: scrC c :: (Zv ++ R)) := Hd.sb h7 (by walk_at "sbx")
      clear h6 h7
      have hdn := hzv _ (Hd.sb h8 (by walk_at "sbx"))
      have fin : BadDI dv → Q v H7 := fun hb => q v dv Zv H7 hb (hzv.up (by decide)) h8
      walk_at "gs"
      rcases hdn with hs | ⟨a, xs, ds, e1, e2, hna, hq, hlx, pp⟩ | ⟨a, xs, ds, e1, e2, hna, hq, hlx, pp⟩
      · obtain ⟨t, ty, kt, hb⟩ : ∃ t, TyX K H7 v (.type t) ∧ kitB t "tuple" = some false ∧ BadDI dv := by
          cases hs with
          | non => exact ⟨_, ty_non, by decide +kernel, trivial⟩
          | bl b => exact ⟨_, ty_bl, by decide +kernel, trivial⟩
          | int i => exact ⟨_, ty_int, by decide +kernel, trivial⟩
          | str z => exact ⟨_, ty_str, by decide +kernel, trivial⟩
        refine c_isi ty kt ?_
        walk_at "gs"
        exact fin hb
      · subst e1 e2
        refine c_isi (ty_L hq) (by decide +kernel : kitB "list" "tuple" = some false) ?_
        walk_at "gs"
        exact fin trivial
      · subst e1 e2
        refine c_isi (ty_T hq) (by decide +kernel : kitB "tuple" "tuple" = some true) ?_
        walk_at "gs"
        refine w_ite (fun e => ?_) (fun e => ?_)
        · walk_at "gs"
          rename_i p1 H8 h9
          exact q (.ref p1) (.list [.tuple ds]) (lstC p1 [.ref a] :: Zv) H8 trivial (fun H hz => Dn.lt (n := 2) hz (List.mem_cons_self ..) (by simp) (.cons (hzv _ hz.tail) .nil)) (Hd.sb (A := stoC st c :: scrC c :: lstC p1 [.ref a] :: (Zv ++ R)) h9 (by walk_at "sbx"))
        · walk_at "gs"
          obtain rfl : xs = [] := List.eq_nil_of_length_eq_zero (by omega)
          cases pp
          exact fin trivial
end
end K08
set_option Elab.async false
set_option linter.all false
set_option maxRecDepth 100000
set_option maxHeartbeats 4000000
namespace K08
open PySem PySem.Spec PyProof.Rows L2 Wk
local macro_rules | `(tactic| walk_at "u1") => `(tactic| fail "no more")
local macro_rules | `(tactic| walk_at "pos") => `(tactic| first | assumption | omega | decide | (simp only [Int.ofNat_eq_natCast] at *; omega))
local macro_rules | `(tactic| walk_at "sz") => `(tactic| first
  | (simp only [List.length_cons, List.length_nil]; decide)
  | exact Evl.sz_of (by omega)
  | exact Evl.sz_lt (by omega)
  | exact Evl.sz_of (by simp only [List.length_map, List.length_append, List.length_cons, List.length_nil, List.length_replicate]; omega)
  | exact Evl.sz_lt (by simp only [List.length_map, List.length_append, List.length_cons, List.length_nil, List.length_replicate]; omega))
local macro_rules | `(tactic| walk_at "cond") => `(tactic| first
  | exact Or.inr ⟨by decide, by decide⟩
  | (show (0 : Int) < _; first | decide | assumption | omega)
  | exact Or.inl ⟨by omega, by omega⟩
  | exact Or.inr ⟨by omega, by omega⟩
  | exact ⟨by decide, by decide, by decide⟩
  | exact log2_lt (by omega) (by omega)
  | exact ⟨by omega, by omega⟩)
local macro_rules | `(tactic| walk_at "ty") => `(tactic| first
  | exact ty_int | exact ty_bl | exact ty_str | exact ty_non
  | exact ty_L (by assumption) | exact ty_T (by assumption)
  | exact ty_L (SqL.of (by assumption)) | exact ty_T (SqT.of (by assumption)))
local macro_rules | `(tactic| walk_at "kit") => `(tactic| first
  | exact k_ii | exact k_ib | exact k_is | exact k_il | exact k_it
  | exact k_bb | exact k_bi | exact k_bs | exact k_bl | exact k_bt
  | exact k_ss | exact k_sb | exact k_si | exact k_sl | exact k_st
  | exact k_ll | exact k_lb | exact k_li | exact k_ls | exact k_lt
  | exact k_tt | exact k_tb | exact k_ti | exact k_ts | exact k_tl
  | exact k_nn | exact k_ni | exact k_ns | exact k_nl | exact k_nt)
local macro_rules | `(tactic| walk_at "s1") => `(tactic| first
  | with_reducible refine w_seq ?_
  | with_reducible refine w_set ?_
  | with_reducible refine w_op ?_
  | ((with_reducible refine' w_var ?h1 ?_); (case h1 => rfl))
  | with_reducible refine w_c ?_
  | with_reducible refine w_cb ?_
  | with_reducible refine w_cons ?_
  | with_reducible refine w_nil ?_
  | with_reducible refine w_I0 ?_
  | ((with_reducible refine' w_I ?c1 ?_); case c1 => walk_at "cond")
  | with_reducible refine w_ret ?_
  | with_reducible refine w_next ?_
  | with_reducible refine w_ifS ?_
  | with_reducible refine w_test ?_
  | with_reducible refine w_tB ?_
  | with_reducible refine w_k ?_
  | with_reducible refine w_eqI ?_
  | with_reducible refine w_neI ?_
  | with_reducible refine w_eqS ?_
  | with_reducible refine w_neS ?_
  | with_reducible refine w_and ?_
  | with_reducible refine w_or ?_
  | with_reducible refine w_not ?_
  | with_reducible refine w_andV ?_
  | with_reducible refine w_orV ?_
  | with_reducible refine w_notV ?_
  | with_reducible refine w_ifE ?_
  | with_reducible refine w_true ?_
  | with_reducible refine w_false ?_
  | with_reducible refine w_ntrue ?_
  | with_reducible refine w_nfalse ?_
  | with_reducible refine w_call ?_
  | with_reducible refine c_int ?_
  | with_reducible refine c_abs ?_
  | with_reducible refine c_max ?_
  | with_reducible refine c_min ?_
  | with_reducible refine w_drop ?_
  | with_reducible refine w_sfld ?_
  | with_reducible refine w_meth ?_
  | with_reducible refine w_make ?_
  | with_reducible refine w_prop ?_
  | with_reducible refine w_callK ?_
  | with_reducible refine w_callN ?_
  | with_reducible refine w_star ?_
  | with_reducible refine w_gcons ?_
  | with_reducible refine w_gname ?_
  | with_reducible refine w_gnil ?_
  | with_reducible refine w_retN ?_
  | with_reducible refine w_tup ?_
  | with_reducible refine w_lst ?_
  | with_reducible refine w_fld ?_
  | with_reducible refine w_bm ?_
  | with_reducible refine w_bm0 ?_
  | with_reducible refine w_forL ?_
  | with_reducible refine w_forT ?_
  | with_reducible refine w_forS ?_
  | with_reducible refine w_forR ?_
  | with_reducible refine w_lcR ?_
  | with_reducible refine w_lcL ?_
  | with_reducible refine w_lcT ?_
  | with_reducible refine w_isN ?_
  | with_reducible refine w_notN ?_
  | with_reducible refine w_asg ?_
  | with_reducible refine w_gsub ?_
  | ((with_reducible refine' w_aug ?h1 ?_); (case h1 => rfl))
  | with_reducible refine w_augS ?_
  | with_reducible refine w_ipI ?_
  | with_reducible refine w_un ?_
  | with_reducible refine w_U ?_
  | ((with_reducible refine' w_iteF ?f1 ?_); case f1 => (first | (intro h; cases h; done) | decide))
  | ((with_reducible refine' w_iteT ?f1 ?_); case f1 => rfl)
  | ((with_reducible refine' w_iteNF ?f1 ?_); case f1 => rfl)
  | ((with_reducible refine' w_iteNT ?f1 ?_); case f1 => (first | (intro h; cases h; done) | decide))
  | ((with_reducible refine' c_isi ?t1 ?k1 ?_); (case t1 => walk_at "ty"); (case k1 => walk_at "kit"))
  | ((with_reducible refine' w_eq ?e1 ?_); case e1 => rfl)
  | ((with_reducible refine' w_ne ?e1 ?_); case e1 => rfl)
  | walk_at "u1")
local macro_rules | `(tactic| walk_at "s") => `(tactic| repeat walk_at "s1")
local macro_rules | `(tactic| walk_at "mem") => `(tactic| first | with_reducible exact List.mem_cons_self .. | ((with_reducible refine' List.mem_cons_of_mem _ ?q); (case q => walk_at "mem")) | assumption | ((with_reducible refine' List.mem_append_right _ ?q); (case q => walk_at "mem")) | (exact List.mem_append_left _ (by assumption)))
local macro_rules | `(tactic| walk_at "pk") => `(tactic| first | with_reducible exact Pk.here | ((with_reducible refine' Pk.there ?q); (case q => walk_at "pk")) | ((with_reducible refine' Pk.app ?q); (case q => walk_at "pk")))
local macro_rules | `(tactic| walk_at "pkb") => `(tactic| first | with_reducible exact PkB.here | ((with_reducible refine' PkB.there ?q); (case q => walk_at "pkb")) | ((with_reducible refine' PkB.app ?q); (case q => walk_at "pkb")))
local macro_rules | `(tactic| walk_at "spl") => `(tactic| first | with_reducible exact Spl.nil | ((with_reducible refine' Spl.cons ?h ?t); (case h => walk_at "pk"); (case t => walk_at "spl")) | ((with_reducible refine' Spl.blk ?h ?t); (case h => walk_at "pkb"); (case t => walk_at "spl")))
local macro_rules | `(tactic| walk_at "sbx") => `(tactic| first | with_reducible exact Sb.refl | with_reducible exact Sb.nil | with_reducible exact Sb.left | ((with_reducible refine' Sb.cons ?h ?t); (case h => walk_at "pk"); (case t => walk_at "sbx")) | ((with_reducible refine' Sb.blk ?h ?t); (case h => walk_at "pkb"); (case t => walk_at "sbx")) | ((with_reducible refine' Sb.drop ?q); (case q => walk_at "sbx")) | ((with_reducible refine' Sb.right ?q); (case q => walk_at "sbx")))
local macro_rules | `(tactic| walk_at "hd") => `(tactic| first | assumption | exact Hd.sb (by assumption) (by walk_at "sbx"))
local macro_rules | `(tactic| walk_at "sq") => `(tactic| first
  | assumption
  | exact Hd.sqL (by assumption) (by walk_at "mem")
  | exact Hd.sqT (by assumption) (by walk_at "mem")
  | exact Hd.sqF (by assumption) (by walk_at "mem")
  | (refine .inl ?_; walk_at "sq")
  | (refine .inr ?_; walk_at "sq"))
local macro_rules | `(tactic| walk_at "at") => `(tactic| first | rfl | assumption | exact atI_nat (by assumption))
local macro_rules | `(tactic| walk_at "dn1") => `(tactic| first
  | exact Dn.int | exact Dn.str | exact Dn.non | exact Dn.bl | assumption
  | ((refine' Dn.tp ?a1 ?m1 ?l1 ?p1); (case a1 => assumption); (case m1 => walk_at "mem"); (case l1 => (simp only [List.length_cons, List.length_nil]; omega)); (case p1 => walk_at "dns"))
  | ((refine' Dn.lt ?a1 ?m1 ?l1 ?p1); (case a1 => assumption); (case m1 => walk_at "mem"); (case l1 => (simp only [List.length_cons, List.length_nil]; omega)); (case p1 => walk_at "dns")))
local macro_rules | `(tactic| walk_at "dns") => `(tactic| first | exact Paired.nil | exact Dn.ints | ((refine' Paired.cons ?a1 ?b1); (case a1 => walk_at "dn1"); (case b1 => walk_at "dns")))
local macro_rules | `(tactic| walk_at "g1") => `(tactic| first
  | ((with_reducible refine' g_ixI ?h1 ?h2 ?h3 ?_); (case h1 => assumption); (case h2 => walk_at "mem"); (case h3 => omega); intro z hz)
  | ((with_reducible refine' g_ixIT ?h1 ?h2 ?h3 ?_); (case h1 => assumption); (case h2 => walk_at "mem"); (case h3 => omega); intro z hz)
  | ((with_reducible refine' g_setI ?h1 ?h2 ?h3 ?_); (case h1 => assumption); (case h2 => walk_at "pk"); (case h3 => omega); intro H2 hh2)
  | ((with_reducible refine' w_ixL ?h1 ?h2 ?_); (case h1 => walk_at "sq"); (case h2 => walk_at "at"))
  | ((with_reducible refine' w_ixT ?h1 ?h2 ?_); (case h1 => walk_at "sq"); (case h2 => walk_at "at"))
  | ((with_reducible refine' w_ixAny ?h1 ?h2 ?_); (case h1 => walk_at "sq"); (case h2 => walk_at "at"))
  | ((with_reducible refine' c_lenA ?h1 ?_); (case h1 => walk_at "sq"))
  | ((with_reducible refine' c_isi ?t1 ?k1 ?_); (case t1 => first | exact ty_T (by walk_at "sq") | exact ty_L (by walk_at "sq")); (case k1 => walk_at "kit"))
  | ((with_reducible refine' g_lst ?h1 ?h2 ?_); (case h1 => assumption); (case h2 => walk_at "sz"); intro p H2 hh2)
  | ((with_reducible refine' g_tup ?h1 ?h2 ?_); (case h1 => assumption); (case h2 => walk_at "sz"); intro p H2 hh2)
  | ((with_reducible refine' g_dict ?h1 ?_); (case h1 => assumption); intro p H2 hh2)
  | ((with_reducible refine' g_listL ?h1 ?h2 ?_); (case h1 => assumption); (case h2 => walk_at "sq"); intro p H2 hh2)
  | ((with_reducible refine' g_listT ?h1 ?h2 ?_); (case h1 => assumption); (case h2 => walk_at "sq"); intro p H2 hh2)
  | ((with_reducible refine' g_tupL ?h1 ?h2 ?_); (case h1 => assumption); (case h2 => walk_at "sq"); intro p H2 hh2)
  | ((with_reducible refine' g_set ?h1 ?h2 ?h3 ?_); (case h1 => assumption); (case h2 => walk_at "pk"); (case h3 => first | rfl | assumption | exact Evl.ixN_nat (by first | omega | (simp only [List.length_cons, List.length_nil]; omega))); intro H2 hh2)
  | ((with_reducible refine' g_kbm ?h1 ?h2 ?_); (case h1 => assumption); (case h2 => walk_at "mem"))
  | ((with_reducible refine' g_kbm0 ?h1 ?h2 ?_); (case h1 => assumption); (case h2 => walk_at "mem"))
  | ((with_reducible refine' g_app ?h1 ?h2 ?h3 ?_); (case h1 => assumption); (case h2 => walk_at "pk"); (case h3 => walk_at "sz"); intro H2 hh2)
  | ((with_reducible refine' g_kapp ?h1 ?h2 ?h3 ?_); (case h1 => assumption); (case h2 => walk_at "pk"); (case h3 => walk_at "sz"); intro H2 hh2)
  | ((with_reducible refine' g_fld ?h1 ?h2 ?h3 ?h4 ?h5 ?_); (case h1 => assumption); (case h2 => walk_at "mem"); (case h3 => assumption); (case h4 => assumption); (case h5 => rfl))
  | ((with_reducible refine' g_sfld ?h1 ?h2 ?h3 ?h4 ?h5 ?_); (case h1 => assumption); (case h2 => walk_at "pk"); (case h3 => assumption); (case h4 => assumption); (case h5 => decide); intro H2 hh2)
  | ((with_reducible refine' g_meth ?h1 ?h2 ?h3 ?_); (case h1 => assumption); (case h2 => walk_at "mem"); (case h3 => rfl))
  | ((with_reducible refine' g_prop ?h1 ?h2 ?_); (case h1 => assumption); (case h2 => walk_at "mem"))
  | ((with_reducible refine' g_make ?h1 ?_); (case h1 => assumption); intro x H2 hh2)
  | ((with_reducible refine' g_cat ?h1 ?h2 ?h3 ?h4 ?_); (case h1 => assumption); (case h2 => walk_at "mem"); (case h3 => walk_at "mem"); (case h4 => walk_at "sz"); intro p H2 hh2)
  | ((with_reducible refine' g_inT ?h1 ?h2 ?h3 ?h4 ?h5 ?_); (case h1 => assumption); (case h2 => walk_at "mem"); (case h3 => rfl); (case h4 => rfl); (case h5 => rfl)))
local macro_rules | `(tactic| walk_at "gs") => `(tactic| repeat first | walk_at "s1" | walk_at "g1")
local macro_rules | `(tactic| walk_at "ite") => `(tactic| first
  | ((with_reducible refine' w_iteT ?h1 ?_); (case h1 => omega))
  | ((with_reducible refine' w_iteF ?h1 ?_); (case h1 => omega))
  | (with_reducible refine w_ite ?_ ?_ <;> intro hq)
  | ((with_reducible refine' w_iteNT ?h1 ?_); (case h1 => omega))
  | ((with_reducible refine' w_iteNF ?h1 ?_); (case h1 => omega))
  | (with_reducible refine w_iteN ?_ ?_ <;> intro hq))
local macro_rules | `(tactic| walk_at "go") => `(tactic| repeat' first | walk_at "s1" | walk_at "g1" | walk_at "ite")
local macro_rules | `(tactic| walk_at "g1") => `(tactic| first
  | ((with_reducible refine' g_take1 ?h1 ?h2 ?h3 ?h4 ?_); (case h1 => assumption); (case h2 => walk_at "spl"); (case h3 => omega); (case h4 => omega); intro k H2 hk1 hh2)
  | ((with_reducible refine' g_take ?h1 ?h2 ?h4 ?_); (case h1 => assumption); (case h2 => walk_at "spl"); (case h4 => omega); intro k H2 hk1 hh2)
  | ((with_reducible refine' g_betweenN ?h1 ?h2 ?h5 ?h3 ?h4 ?_); (case h1 => assumption); (case h2 => walk_at "spl"); (case h5 => omega); (case h3 => omega); (case h4 => omega); intro k H2 hk1 hk2 hh2)
  | ((with_reducible refine' g_between ?h1 ?h2 ?h3 ?h4 ?_); (case h1 => assumption); (case h2 => walk_at "spl"); (case h3 => omega); (case h4 => omega); intro k H2 hk1 hk2 hh2)
  | ((with_reducible refine' g_size ?h1 ?h2 ?h3 ?h4 ?_); (case h1 => assumption); (case h2 => walk_at "spl"); (case h3 => omega); (case h4 => omega); intro k H2 hk1 hh2)
  | ((with_reducible refine' g_word ?h1 ?h2 ?_); (case h1 => assumption); (case h2 => walk_at "spl"); intro k H2 hk1 hh2))
local macro_rules | `(tactic| walk_at "g1") => `(tactic| first | with_reducible refine w_sl ?_ | with_reducible refine w_part ?_ | with_reducible refine w_noPart ?_ | with_reducible refine w_exI ?_)
section
variable {P : Program} {w : World} {K : PySem.W.Frag} {mg : Str → Option Value} {base : Heap} {aREG aOPS : Addr}
/-! ### codes and instructions -/
theorem enc_dec {o f l : Nat} (h : InsR o f l) : codeO o f l ≤ 65535 ∧ ¬ insBad (codeO o f l) ∧ insO (codeO o f l / 4096) (codeO o f l / 1024 % 4) (codeO o f l % 1024) = insO o f l := by
  obtain ⟨ho, hf, hl, hs⟩ := h
  have hsh := op_shape o ho
  rcases hsh with ⟨e, hoo⟩ | ⟨e, hoo⟩ | ⟨e, hoo⟩ | ⟨e, hoo⟩ | ⟨e, hoo⟩
  · have m1 : 82 ∉ ("" : Str).cps.toList := by decide +kernel
    have m2 : ¬ (83 ∈ ("" : Str).cps.toList ∨ 78 ∈ ("" : Str).cps.toList) := by decide +kernel
    have g : greatest ("" : Str) = 0 := by decide +kernel
    have ec : codeO o f l = 4096 * o := by unfold codeO; rw [e, if_neg m1, if_neg m2]; omega
    rw [ec]
    have e1 : 4096 * o / 4096 = o := by omega
    have e2 : 4096 * o / 1024 % 4 = 0 := by omega
    have e3 : 4096 * o % 1024 = 0 := by omega
    refine ⟨by omega, fun hb => ?_, ?_⟩
    · have hb := (bad_iff e1).mp hb
      rw [e, g, e2, e3] at hb
      rcases hb with ⟨_, h⟩ | h <;> omega
    · rw [e1, e2, e3]; subst hoo; rfl
  · have m1 : 82 ∈ ("RN" : Str).cps.toList := by decide +kernel
    have m2 : (83 ∈ ("RN" : Str).cps.toList ∨ 78 ∈ ("RN" : Str).cps.toList) := by decide +kernel
    have g : greatest ("RN" : Str) = 1023 := by decide +kernel
    have ec : codeO o f l = 4096 * o + 1024 * f + l := by unfold codeO; rw [e, if_pos m1, if_pos m2]
    rw [ec]
    have e1 : (4096 * o + 1024 * f + l) / 4096 = o := by omega
    have e2 : (4096 * o + 1024 * f + l) / 1024 % 4 = f := by omega
    have e3 : (4096 * o + 1024 * f + l) % 1024 = l := by omega
    refine ⟨by omega, fun hb => ?_, ?_⟩
    · have hb := (bad_iff e1).mp hb
      rw [e, g, e2, e3] at hb
      rcases hb with ⟨h, _⟩ | h
      · exact h m1
      · omega
    · rw [e1, e2, e3]
  · have m1 : 82 ∈ ("RS" : Str).cps.toList := by decide +kernel
    have m2 : (83 ∈ ("RS" : Str).cps.toList ∨ 78 ∈ ("RS" : Str).cps.toList) := by decide +kernel
    have g : greatest ("RS" : Str) = 3 := by decide +kernel
    have ec : codeO o f l = 4096 * o + 1024 * f + l := by unfold codeO; rw [e, if_pos m1, if_pos m2]
    rw [ec]
    have e1 : (4096 * o + 1024 * f + l) / 4096 = o := by omega
    have e2 : (4096 * o + 1024 * f + l) / 1024 % 4 = f := by omega
    have e3 : (4096 * o + 1024 * f + l) % 1024 = l := by omega
    have hl4 := hs hoo.1 hoo.2
    refine ⟨by omega, fun hb => ?_, ?_⟩
    · have hb := (bad_iff e1).mp hb
      rw [e, g, e2, e3] at hb
      rcases hb with ⟨h, _⟩ | h
      · exact h m1
      · omega
    · rw [e1, e2, e3]
  · have m1 : 82 ∉ ("N" : Str).cps.toList := by decide +kernel
    have m2 : (83 ∈ ("N" : Str).cps.toList ∨ 78 ∈ ("N" : Str).cps.toList) := by decide +kernel
    have g : greatest ("N" : Str) = 1023 := by decide +kernel
    have ec : codeO o f l = 4096 * o + l := by unfold codeO; rw [e, if_neg m1, if_pos m2]; omega
    rw [ec]
    have e1 : (4096 * o + l) / 4096 = o := by omega
    have e2 : (4096 * o + l) / 1024 % 4 = 0 := by omega
    have e3 : (4096 * o + l) % 1024 = l := by omega
    refine ⟨by omega, fun hb => ?_, ?_⟩
    · have hb := (bad_iff e1).mp hb
      rw [e, g, e2, e3] at hb
      rcases hb with ⟨_, h⟩ | h <;> omega
    · rw [e1, e2, e3]; rcases hoo with rfl | rfl <;> rfl
  · have m1 : 82 ∈ ("R" : Str).cps.toList := by decide +kernel
    have m2 : ¬ (83 ∈ ("R" : Str).cps.toList ∨ 78 ∈ ("R" : Str).cps.toList) := by decide +kernel
    have g : greatest ("R" : Str) = 0 := by decide +kernel
    have ec : codeO o f l = 4096 * o + 1024 * f := by unfold codeO; rw [e, if_pos m1, if_neg m2]; omega
    rw [ec]
    have e1 : (4096 * o + 1024 * f) / 4096 = o := by omega
    have e2 : (4096 * o + 1024 * f) / 1024 % 4 = f := by omega
    have e3 : (4096 * o + 1024 * f) % 1024 = 0 := by omega
    refine ⟨by omega, fun hb => ?_, ?_⟩
    · have hb := (bad_iff e1).mp hb
      rw [e, g, e2, e3] at hb
      rcases hb with ⟨h, _⟩ | h
      · exact h m1
      · omega
    · rw [e1, e2, e3]; subst hoo; rfl
theorem reg_inj {f g : Nat} (hf : f < 4) (hg : g < 4) (e : regV f = regV g) : f = g := by
  have k : ∀ f g : Fin 4, regL.getD f.1 "" = regL.getD g.1 "" → f = g := by decide +kernel
  exact congrArg Fin.val (k ⟨f, hf⟩ ⟨g, hg⟩ (V.str.inj e))
/-- the tuple tells the code -/
theorem ins_code {o f l o' f' l' : Nat} (h : InsR o f l) (h' : InsR o' f' l') (e : insO o f l = insO o' f' l') : codeO o f l = codeO o' f' l' := by
  rw [insO_parts h.1, insO_parts h'.1] at e
  obtain ⟨e0, e1⟩ := List.cons.inj e
  obtain rfl : o = o' := nm_inj h.1 h'.1 (V.str.inj e0)
  obtain ⟨ho, hf, hl, hs⟩ := h
  obtain ⟨_, hf', hl', hs'⟩ := h'
  unfold codeO
  rcases op_shape o ho with ⟨es, hoo⟩ | ⟨es, hoo⟩ | ⟨es, hoo⟩ | ⟨es, hoo⟩ | ⟨es, hoo⟩
  · rw [es, if_neg (by decide +kernel), if_neg (by decide +kernel), if_neg (by decide +kernel), if_neg (by decide +kernel)]
  · rw [es] at e1 ⊢
    have e2 : [regV f, V.int l] = [regV f', V.int l'] := e1
    obtain ⟨a, b⟩ := List.cons.inj e2
    have b := (List.cons.inj b).1
    have : f = f' := reg_inj hf hf' a
    have : l = l' := by have := V.int.inj b; omega
    subst_vars; rfl
  · rw [es] at e1 ⊢
    have e2 : [regV f, regV l] = [regV f', regV l'] := e1
    obtain ⟨a, b⟩ := List.cons.inj e2
    have b := (List.cons.inj b).1
    have : f = f' := reg_inj hf hf' a
    have : l = l' := reg_inj (hs hoo.1 hoo.2) (hs' hoo.1 hoo.2) b
    subst_vars; rfl
  · rw [es] at e1 ⊢
    have e2 : [V.int l] = [V.int l'] := e1
    have : l = l' := by have := V.int.inj (List.cons.inj e2).1; omega
    subst this
    have m1 : 82 ∉ ("N" : Str).cps.toList := by decide +kernel
    rw [if_neg m1, if_neg m1]
  · rw [es] at e1 ⊢
    have e2 : [regV f] = [regV f'] := e1
    have : f = f' := reg_inj hf hf' (List.cons.inj e2).1
    subst this
    rw [if_neg (c := 83 ∈ _ ∨ _) (by decide +kernel), if_neg (c := 83 ∈ _ ∨ _) (by decide +kernel)]
/-! ### instructions as data -/
def SSc (v : V) : Prop := (∃ z, v = .str z ∧ PyData.strOk z = true) ∨ ∃ i, v = .int i
theorem reg_ok {f : Nat} (h : f < 4) : PyData.strOk (regL.getD f "") = true := by
  match f, h with
  | 0, _ | 1, _ | 2, _ | 3, _ => decide +kernel
theorem ins_ssc {o f l : Nat} (h : InsR o f l) : ∀ v ∈ insO o f l, SSc v := by
  intro v hv
  rw [insO_parts h.1] at hv
  rcases List.mem_cons.mp hv with rfl | hv
  · exact .inl ⟨_, rfl, nm_ok h.1⟩
  · obtain ⟨c, hc, rfl⟩ := List.mem_map.mp hv
    rcases (so_key h.1).2.2.1 c hc with rfl | rfl | rfl
    · exact .inr ⟨_, rfl⟩
    · exact .inl ⟨_, rfl, reg_ok h.2.1⟩
    · exact .inl ⟨_, rfl, reg_ok (h.2.2.2 ((so_key h.1).2.2.2.1 hc).1 ((so_key h.1).2.2.2.1 hc).2)⟩
theorem dp_sc {H : Hp} : ∀ {xs : List V}, (∀ v ∈ xs, SSc v) → DpAll K H xs (xs.map toD)
  | [], _ => .nil
  | v :: xs, h => by
    refine .cons ?_ (dp_sc fun x hx => h x (List.mem_cons_of_mem _ hx))
    rcases h v (List.mem_cons_self ..) with ⟨z, rfl, _⟩ | ⟨i, rfl⟩
    · exact .str z
    · exact .int i
theorem eqv_sc : ∀ {xs ys : List V}, (∀ v ∈ xs, SSc v) → (∀ v ∈ ys, SSc v) → PyData.eqvAll (xs.map toD) (ys.map toD) = decide (xs = ys)
  | [], [], _, _ => rfl
  | [], _ :: _, _, _ => rfl
  | _ :: _, [], _, _ => rfl
  | x :: xs, y :: ys, h, g => by
    have r := eqv_sc (xs := xs) (ys := ys) (fun v hv => h v (List.mem_cons_of_mem _ hv)) (fun v hv => g v (List.mem_cons_of_mem _ hv))
    show (PyData.eqv (toD x) (toD y) && PyData.eqvAll (xs.map toD) (ys.map toD)) = _
    rw [r]
    have k : PyData.eqv (toD x) (toD y) = decide (x = y) := by
      rcases h x (List.mem_cons_self ..) with ⟨z, rfl, _⟩ | ⟨i, rfl⟩ <;> rcases g y (List.mem_cons_self ..) with ⟨z', rfl, _⟩ | ⟨i', rfl⟩
      · show (z == z') = _
        by_cases e : z = z'
        · subst e; simp
        · rw [beq_eq_false_iff_ne.mpr e, decide_eq_false (fun h => e (V.str.inj h))]
      · exact (decide_eq_false (fun h => by cases h)).symm
      · exact (decide_eq_false (fun h => by cases h)).symm
      · show (i == i') = _
        by_cases e : i = i'
        · subst e; simp
        · rw [beq_eq_false_iff_ne.mpr e, decide_eq_false (fun h => e (V.int.inj h))]
    rw [k]
    by_cases e1 : x = y
    · by_cases e2 : xs = ys
      · subst e1 e2; simp
      · rw [decide_eq_false e2, Bool.and_false, decide_eq_false (fun h => e2 (List.cons.inj h).2)]
    · rw [decide_eq_false e1, Bool.false_and, decide_eq_false (fun h => e1 (List.cons.inj h).1)]
theorem lay_sc : ∀ {xs : List V}, (∀ v ∈ xs, SSc v) → PyData.canLayAll0 (xs.map toD) = true
  | [], _ => rfl
  | v :: xs, h => by
    show (PyData.canLay0 (toD v) && PyData.canLayAll0 (xs.map toD)) = true
    rw [lay_sc fun x hx => h x (List.mem_cons_of_mem _ hx), Bool.and_true]
    rcases h v (List.mem_cons_self ..) with ⟨z, rfl, hz⟩ | ⟨i, rfl⟩
    · exact hz
    · rfl
theorem dpa_sc : ∀ {xs : List V}, (∀ v ∈ xs, SSc v) → PyData.depthAll (xs.map toD) = 0
  | [], _ => rfl
  | v :: xs, h => by
    show max (PyData.depth (toD v)) (PyData.depthAll (xs.map toD)) = 0
    rw [dpa_sc fun x hx => h x (List.mem_cons_of_mem _ hx)]
    rcases h v (List.mem_cons_self ..) with ⟨z, rfl, _⟩ | ⟨i, rfl⟩ <;> rfl
theorem shp_sc {xs : List V} (h : ∀ v ∈ xs, SSc v) : SeqAt.shaped (.tuple (xs.map toD)) = true := by
  have hd : (PyData.tuple (xs.map toD)).depth ≤ 64 := by
    show PyData.depthAll (xs.map toD) + 1 ≤ 64
    rw [dpa_sc h]
    decide
  show (PyData.canLayAll0 (xs.map toD) && decide _) = true
  rw [lay_sc h, Bool.true_and]
  exact decide_eq_true hd
end
end K08
set_option Elab.async false
set_option linter.all false
set_option maxRecDepth 100000
set_option maxHeartbeats 4000000
namespace K08
open PySem PySem.Spec PyProof.Rows L2 Wk
local macro_rules | `(tactic| walk_at "u1") => `(tactic| fail "no more")
local macro_rules | `(tactic| walk_at "pos") => `(tactic| first | assumption | omega | decide | (simp only [Int.ofNat_eq_natCast] at *; omega))
local macro_rules | `(tactic| walk_at "sz") => `(tactic| first
  | (simp only [List.length_cons, List.length_nil]; decide)
  | exact Evl.sz_of (by omega)
  | exact Evl.sz_lt (by omega)
  | exact Evl.sz_of (by simp only [List.length_map, List.length_append, List.length_cons, List.length_nil, List.length_replicate]; omega)
  | exact Evl.sz_lt (by simp only [List.length_map, List.length_append, List.length_cons, List.length_nil, List.length_replicate]; omega))
local macro_rules | `(tactic| walk_at "cond") => `(tactic| first
  | exact Or.inr ⟨by decide, by decide⟩
  | (show (0 : Int) < _; first | decide | assumption | omega)
  | exact Or.inl ⟨by omega, by omega⟩
  | exact Or.inr ⟨by omega, by omega⟩
  | exact ⟨by decide, by decide, by decide⟩
  | exact log2_lt (by omega) (by omega)
  | exact ⟨by omega, by omega⟩)
local macro_rules | `(tactic| walk_at "ty") => `(tactic| first
  | exact ty_int | exact ty_bl | exact ty_str | exact ty_non
  | exact ty_L (by assumption) | exact ty_T (by assumption)
  | exact ty_L (SqL.of (by assumption)) | exact ty_T (SqT.of (by assumption)))
local macro_rules | `(tactic| walk_at "kit") => `(tactic| first
  | exact k_ii | exact k_ib | exact k_is | exact k_il | exact k_it
  | exact k_bb | exact k_bi | exact k_bs | exact k_bl | exact k_bt
  | exact k_ss | exact k_sb | exact k_si | exact k_sl | exact k_st
  | exact k_ll | exact k_lb | exact k_li | exact k_ls | exact k_lt
  | exact k_tt | exact k_tb | exact k_ti | exact k_ts | exact k_tl
  | exact k_nn | exact k_ni | exact k_ns | exact k_nl | exact k_nt)
local macro_rules | `(tactic| walk_at "s1") => `(tactic| first
  | with_reducible refine w_seq ?_
  | with_reducible refine w_set ?_
  | with_reducible refine w_op ?_
  | ((with_reducible refine' w_var ?h1 ?_); (case h1 => rfl))
  | with_reducible refine w_c ?_
  | with_reducible refine w_cb ?_
  | with_reducible refine w_cons ?_
  | with_reducible refine w_nil ?_
  | with_reducible refine w_I0 ?_
  | ((with_reducible refine' w_I ?c1 ?_); case c1 => walk_at "cond")
  | with_reducible refine w_ret ?_
  | with_reducible refine w_next ?_
  | with_reducible refine w_ifS ?_
  | with_reducible refine w_test ?_
  | with_reducible refine w_tB ?_
  | with_reducible refine w_k ?_
  | with_reducible refine w_eqI ?_
  | with_reducible refine w_neI ?_
  | with_reducible refine w_eqS ?_
  | with_reducible refine w_neS ?_
  | with_reducible refine w_and ?_
  | with_reducible refine w_or ?_
  | with_reducible refine w_not ?_
  | with_reducible refine w_andV ?_
  | with_reducible refine w_orV ?_
  | with_reducible refine w_notV ?_
  | with_reducible refine w_ifE ?_
  | with_reducible refine w_true ?_
  | with_reducible refine w_false ?_
  | with_reducible refine w_ntrue ?_
  | with_reducible refine w_nfalse ?_
  | with_reducible refine w_call ?_
  | with_reducible refine c_int ?_
  | with_reducible refine c_abs ?_
  | with_reducible refine c_max ?_
  | with_reducible refine c_min ?_
  | with_reducible refine w_drop ?_
  | with_reducible refine w_sfld ?_
  | with_reducible refine w_meth ?_
  | with_reducible refine w_make ?_
  | with_reducible refine w_prop ?_
  | with_reducible refine w_callK ?_
  | with_reducible refine w_callN ?_
  | with_reducible refine w_star ?_
  | with_reducible refine w_gcons ?_
  | with_reducible refine w_gname ?_
  | with_reducible refine w_gnil ?_
  | with_reducible refine w_retN ?_
  | with_reducible refine w_tup ?_
  | with_reducible refine w_lst ?_
  | with_reducible refine w_fld ?_
  | with_reducible refine w_bm ?_
  | with_reducible refine w_bm0 ?_
  | with_reducible refine w_forL ?_
  | with_reducible refine w_forT ?_
  | with_reducible refine w_forS ?_
  | with_reducible refine w_forR ?_
  | with_reducible refine w_lcR ?_
  | with_reducible refine w_lcL ?_
  | with_reducible refine w_lcT ?_
  | with_reducible refine w_isN ?_
  | with_reducible refine w_notN ?_
  | with_reducible refine w_asg ?_
  | with_reducible refine w_gsub ?_
  | ((with_reducible refine' w_aug ?h1 ?_); (case h1 => rfl))
  | with_reducible refine w_augS ?_
  | with_reducible refine w_ipI ?_
  | with_reducible refine w_un ?_
  | with_reducible refine w_U ?_
  | ((with_reducible refine' w_iteF ?f1 ?_); case f1 => (first | (intro h; cases h; done) | decide))
  | ((with_reducible refine' w_iteT ?f1 ?_); case f1 => rfl)
  | ((with_reducible refine' w_iteNF ?f1 ?_); case f1 => rfl)
  | ((with_reducible refine' w_iteNT ?f1 ?_); case f1 => (first | (intro h; cases h; done) | decide))
  | ((with_reducible refine' c_isi ?t1 ?k1 ?_); (case t1 => walk_at "ty"); (case k1 => walk_at "kit"))
  | ((with_reducible refine' w_eq ?e1 ?_); case e1 => rfl)
  | ((with_reducible refine' w_ne ?e1 ?_); case e1 => rfl)
  | walk_at "u1")
local macro_rules | `(tactic| walk_at "s") => `(tactic| repeat walk_at "s1")
local macro_rules | `(tactic| walk_at "mem") => `(tactic| first | with_reducible exact List.mem_cons_self .. | ((with_reducible refine' List.mem_cons_of_mem _ ?q); (case q => walk_at "mem")) | assumption | ((with_reducible refine' List.mem_append_right _ ?q); (case q => walk_at "mem")) | (exact List.mem_append_left _ (by assumption)))
local macro_rules | `(tactic| walk_at "pk") => `(tactic| first | with_reducible exact Pk.here | ((with_reducible refine' Pk.there ?q); (case q => walk_at "pk")) | ((with_reducible refine' Pk.app ?q); (case q => walk_at "pk")))
local macro_rules | `(tactic| walk_at "pkb") => `(tactic| first | with_reducible exact PkB.here | ((with_reducible refine' PkB.there ?q); (case q => walk_at "pkb")) | ((with_reducible refine' PkB.app ?q); (case q => walk_at "pkb")))
local macro_rules | `(tactic| walk_at "spl") => `(tactic| first | with_reducible exact Spl.nil | ((with_reducible refine' Spl.cons ?h ?t); (case h => walk_at "pk"); (case t => walk_at "spl")) | ((with_reducible refine' Spl.blk ?h ?t); (case h => walk_at "pkb"); (case t => walk_at "spl")))
local macro_rules | `(tactic| walk_at "sbx") => `(tactic| first | with_reducible exact Sb.refl | with_reducible exact Sb.nil | with_reducible exact Sb.left | ((with_reducible refine' Sb.cons ?h ?t); (case h => walk_at "pk"); (case t => walk_at "sbx")) | ((with_reducible refine' Sb.blk ?h ?t); (case h => walk_at "pkb"); (case t => walk_at "sbx")) | ((with_reducible refine' Sb.drop ?q); (case q => walk_at "sbx")) | ((with_reducible refine' Sb.right ?q); (case q => walk_at "sbx")))
local macro_rules | `(tactic| walk_at "hd") => `(tactic| first | assumption | exact Hd.sb (by assumption) (by walk_at "sbx"))
local macro_rules | `(tactic| walk_at "sq") => `(tactic| first
  | assumption
  | exact Hd.sqL (by assumption) (by walk_at "mem")
  | exact Hd.sqT (by assumption) (by walk_at "mem")
  | exact Hd.sqF (by assumption) (by walk_at "mem")
  | (refine .inl ?_; walk_at "sq")
  | (refine .inr ?_; walk_at "sq"))
local macro_rules | `(tactic| walk_at "at") => `(tactic| first | rfl | assumption | exact atI_nat (by assumption))
local macro_rules | `(tactic| walk_at "dn1") => `(tactic| first
  | exact Dn.int | exact Dn.str | exact Dn.non | exact Dn.bl | assumption
  | ((refine' Dn.tp ?a1 ?m1 ?l1 ?p1); (case a1 => assumption); (case m1 => walk_at "mem"); (case l1 => (simp only [List.length_cons, List.length_nil]; omega)); (case p1 => walk_at "dns"))
  | ((refine' Dn.lt ?a1 ?m1 ?l1 ?p1); (case a1 => assumption); (case m1 => walk_at "mem"); (case l1 => (simp only [List.length_cons, List.length_nil]; omega)); (case p1 => walk_at "dns")))
local macro_rules | `(tactic| walk_at "dns") => `(tactic| first | exact Paired.nil | exact Dn.ints | ((refine' Paired.cons ?a1 ?b1); (case a1 => walk_at "dn1"); (case b1 => walk_at "dns")))
local macro_rules | `(tactic| walk_at "g1") => `(tactic| first
  | ((with_reducible refine' g_ixI ?h1 ?h2 ?h3 ?_); (case h1 => assumption); (case h2 => walk_at "mem"); (case h3 => omega); intro z hz)
  | ((with_reducible refine' g_ixIT ?h1 ?h2 ?h3 ?_); (case h1 => assumption); (case h2 => walk_at "mem"); (case h3 => omega); intro z hz)
  | ((with_reducible refine' g_setI ?h1 ?h2 ?h3 ?_); (case h1 => assumption); (case h2 => walk_at "pk"); (case h3 => omega); intro H2 hh2)
  | ((with_reducible refine' w_ixL ?h1 ?h2 ?_); (case h1 => walk_at "sq"); (case h2 => walk_at "at"))
  | ((with_reducible refine' w_ixT ?h1 ?h2 ?_); (case h1 => walk_at "sq"); (case h2 => walk_at "at"))
  | ((with_reducible refine' w_ixAny ?h1 ?h2 ?_); (case h1 => walk_at "sq"); (case h2 => walk_at "at"))
  | ((with_reducible refine' c_lenA ?h1 ?_); (case h1 => walk_at "sq"))
  | ((with_reducible refine' c_isi ?t1 ?k1 ?_); (case t1 => first | exact ty_T (by walk_at "sq") | exact ty_L (by walk_at "sq")); (case k1 => walk_at "kit"))
  | ((with_reducible refine' g_lst ?h1 ?h2 ?_); (case h1 => assumption); (case h2 => walk_at "sz"); intro p H2 hh2)
  | ((with_reducible refine' g_tup ?h1 ?h2 ?_); (case h1 => assumption); (case h2 => walk_at "sz"); intro p H2 hh2)
  | ((with_reducible refine' g_dict ?h1 ?_); (case h1 => assumption); intro p H2 hh2)
  | ((with_reducible refine' g_listL ?h1 ?h2 ?_); (case h1 => assumption); (case h2 => walk_at "sq"); intro p H2 hh2)
  | ((with_reducible refine' g_listT ?h1 ?h2 ?_); (case h1 => assumption); (case h2 => walk_at "sq"); intro p H2 hh2)
  | ((with_reducible refine' g_tupL ?h1 ?h2 ?_); (case h1 => assumption); (case h2 => walk_at "sq"); intro p H2 hh2)
  | ((with_reducible refine' g_set ?h1 ?h2 ?h3 ?_); (case h1 => assumption); (case h2 => walk_at "pk"); (case h3 => first | rfl | assumption | exact Evl.ixN_nat (by first | omega | (simp only [List.length_cons, List.length_nil]; omega))); intro H2 hh2)
  | ((with_reducible refine' g_kbm ?h1 ?h2 ?_); (case h1 => assumption); (case h2 => walk_at "mem"))
  | ((with_reducible refine' g_kbm0 ?h1 ?h2 ?_); (case h1 => assumption); (case h2 => walk_at "mem"))
  | ((with_reducible refine' g_app ?h1 ?h2 ?h3 ?_); (case h1 => assumption); (case h2 => walk_at "pk"); (case h3 => walk_at "sz"); intro H2 hh2)
  | ((with_reducible refine' g_kapp ?h1 ?h2 ?h3 ?_); (case h1 => assumption); (case h2 => walk_at "pk"); (case h3 => walk_at "sz"); intro H2 hh2)
  | ((with_reducible refine' g_fld ?h1 ?h2 ?h3 ?h4 ?h5 ?_); (case h1 => assumption); (case h2 => walk_at "mem"); (case h3 => assumption); (case h4 => assumption); (case h5 => rfl))
  | ((with_reducible refine' g_sfld ?h1 ?h2 ?h3 ?h4 ?h5 ?_); (case h1 => assumption); (case h2 => walk_at "pk"); (case h3 => assumption); (case h4 => assumption); (case h5 => decide); intro H2 hh2)
  | ((with_reducible refine' g_meth ?h1 ?h2 ?h3 ?_); (case h1 => assumption); (case h2 => walk_at "mem"); (case h3 => rfl))
  | ((with_reducible refine' g_prop ?h1 ?h2 ?_); (case h1 => assumption); (case h2 => walk_at "mem"))
  | ((with_reducible refine' g_make ?h1 ?_); (case h1 => assumption); intro x H2 hh2)
  | ((with_reducible refine' g_cat ?h1 ?h2 ?h3 ?h4 ?_); (case h1 => assumption); (case h2 => walk_at "mem"); (case h3 => walk_at "mem"); (case h4 => walk_at "sz"); intro p H2 hh2)
  | ((with_reducible refine' g_inT ?h1 ?h2 ?h3 ?h4 ?h5 ?_); (case h1 => assumption); (case h2 => walk_at "mem"); (case h3 => rfl); (case h4 => rfl); (case h5 => rfl)))
local macro_rules | `(tactic| walk_at "gs") => `(tactic| repeat first | walk_at "s1" | walk_at "g1")
local macro_rules | `(tactic| walk_at "ite") => `(tactic| first
  | ((with_reducible refine' w_iteT ?h1 ?_); (case h1 => omega))
  | ((with_reducible refine' w_iteF ?h1 ?_); (case h1 => omega))
  | (with_reducible refine w_ite ?_ ?_ <;> intro hq)
  | ((with_reducible refine' w_iteNT ?h1 ?_); (case h1 => omega))
  | ((with_reducible refine' w_iteNF ?h1 ?_); (case h1 => omega))
  | (with_reducible refine w_iteN ?_ ?_ <;> intro hq))
local macro_rules | `(tactic| walk_at "go") => `(tactic| repeat' first | walk_at "s1" | walk_at "g1" | walk_at "ite")
local macro_rules | `(tactic| walk_at "g1") => `(tactic| first
  | ((with_reducible refine' g_take1 ?h1 ?h2 ?h3 ?h4 ?_); (case h1 => assumption); (case h2 => walk_at "spl"); (case h3 => omega); (case h4 => omega); intro k H2 hk1 hh2)
  | ((with_reducible refine' g_take ?h1 ?h2 ?h4 ?_); (case h1 => assumption); (case h2 => walk_at "spl"); (case h4 => omega); intro k H2 hk1 hh2)
  | ((with_reducible refine' g_betweenN ?h1 ?h2 ?h5 ?h3 ?h4 ?_); (case h1 => assumption); (case h2 => walk_at "spl"); (case h5 => omega); (case h3 => omega); (case h4 => omega); intro k H2 hk1 hk2 hh2)
  | ((with_reducible refine' g_between ?h1 ?h2 ?h3 ?h4 ?_); (case h1 => assumption); (case h2 => walk_at "spl"); (case h3 => omega); (case h4 => omega); intro k H2 hk1 hk2 hh2)
  | ((with_reducible refine' g_size ?h1 ?h2 ?h3 ?h4 ?_); (case h1 => assumption); (case h2 => walk_at "spl"); (case h3 => omega); (case h4 => omega); intro k H2 hk1 hh2)
  | ((with_reducible refine' g_word ?h1 ?h2 ?_); (case h1 => assumption); (case h2 => walk_at "spl"); intro k H2 hk1 hh2))
local macro_rules | `(tactic| walk_at "g1") => `(tactic| first | with_reducible refine w_sl ?_ | with_reducible refine w_part ?_ | with_reducible refine w_noPart ?_ | with_reducible refine w_exI ?_)
section
variable {P : Program} {w : World} {K : PySem.W.Frag} {mg : Str → Option Value} {base : Heap} {aREG aOPS : Addr}
abbrev Tr := Nat × Nat × Nat
abbrev trO (t : Tr) : List V := insO t.1 t.2.1 t.2.2
abbrev trR (t : Tr) : Prop := InsR t.1 t.2.1 t.2.2
abbrev trC (t : Tr) : Nat := codeO t.1 t.2.1 t.2.2
abbrev codeV (ts : List Tr) : List V := ts.map fun (t : Tr) => V.int (trC t : Nat)
def RowI (K : PySem.W.Frag) (H : Hp) (v : V) (t : Tr) : Prop := ∃ p, v = .ref p ∧ trR t ∧ SqT K H p (trO t)
def RowsI (K : PySem.W.Frag) (Z : List Cell) (xs : List V) (ts : List Tr) : Prop := ∀ H, Hd H Z → Paired (RowI K H) xs ts
theorem pairedGet {α β : Type} {F : α → β → Prop} : ∀ {xs : List α} {ys : List β} {i : Nat} {x : α}, Paired F xs ys → xs[i]? = some x → ∃ y, ys[i]? = some y ∧ F x y
  | _, _, _, _, .nil, h => by cases h
  | _, _, 0, _, .cons r _, h => by cases h; exact ⟨_, rfl, r⟩
  | _ :: xs, _ :: ys, n + 1, _, .cons _ t, h => pairedGet (xs := xs) (ys := ys) (i := n) t h
theorem pairedApp {α β : Type} {F : α → β → Prop} : ∀ {xs us : List α} {ys vs : List β}, Paired F xs ys → Paired F us vs → Paired F (xs ++ us) (ys ++ vs)
  | _, _, _, _, .nil, h => h
  | _, _, _, _, .cons r t, h => .cons r (pairedApp t h)
theorem pairedLen {α β : Type} {F : α → β → Prop} : ∀ {xs : List α} {ys : List β}, Paired F xs ys → xs.length = ys.length
  | _, _, .nil => rfl
  | _, _, .cons _ t => congrArg (· + 1) (pairedLen t)
theorem RowsI.get {Z : List Cell} {xs : List V} {ts : List Tr} {H : Hp} {i : Nat} (h : RowsI K Z xs ts) (hz : Hd H Z) (hi : i < xs.length) : ∃ p t, xs[i]? = some (.ref p) ∧ ts[i]? = some t ∧ trR t ∧ ∀ H', Hd H' Z → SqT K H' p (trO t) := by
  have hx : xs[i]? = some xs[i] := List.getElem?_eq_getElem hi
  obtain ⟨t, ht, p, e, hr, _⟩ := pairedGet (h H hz) hx
  refine ⟨p, t, by rw [hx, e], ht, hr, fun H' hz' => ?_⟩
  obtain ⟨t', ht', p', e', _, hs'⟩ := pairedGet (h H' hz') hx
  rw [e] at e'
  cases e'
  rw [ht] at ht'
  cases ht'
  exact hs'
theorem tr_len {t : Tr} (h : trR t) : (trO t).length ≤ 3 := by
  show (insO t.1 t.2.1 t.2.2).length ≤ 3
  rw [insO_parts h.1, List.length_cons, List.length_map]
  have := (so_key h.1).2.1
  omega
abbrev trD (t : Tr) : PyData := .tuple ((trO t).map toD)
theorem dn_row {H : Hp} {p : Addr} {t : Tr} (h : trR t) (hp : SqT K H p (trO t)) : Dn K [] H 1 (.ref p) (trD t) :=
  .inr (.inr ⟨p, _, _, rfl, rfl, List.not_mem_nil, hp, Nat.le_trans (tr_len h) (by decide), toD_dn (ins_sc h.1)⟩)
theorem RowsI.dn {Z : List Cell} {xs : List V} {ts : List Tr} {H : Hp} (h : RowsI K Z xs ts) (hz : Hd H Z) : Paired (Dn K [] H 1) xs (ts.map trD) := by
  have go : ∀ {xs : List V} {ts : List Tr}, Paired (RowI K H) xs ts → Paired (Dn K [] H 1) xs (ts.map trD) := by
    intro xs ts h
    induction h with
    | nil => exact .nil
    | cons r _ ih =>
      obtain ⟨p, rfl, hr, hp⟩ := r
      exact .cons (dn_row hr hp) ih
  exact go (h H hz)
theorem codes_dn {H : Hp} : ∀ {ts : List Tr}, Paired (Dn K [] H 0) (codeV ts) (ts.map fun (t : Tr) => PyData.int (trC t : Nat))
  | [] => .nil
  | _ :: _ => .cons Dn.int codes_dn
theorem code_iff {t u : Tr} (h : trR t) (g : trR u) : trC t = trC u ↔ trO t = trO u := by
  constructor
  · intro e
    have h1 := (enc_dec h).2.2
    have g1 := (enc_dec g).2.2
    rw [show codeO u.1 u.2.1 u.2.2 = codeO t.1 t.2.1 t.2.2 from e.symm] at g1
    exact h1.symm.trans g1
  · exact ins_code h g
theorem eqv_rows {t u : Tr} (h : trR t) (g : trR u) : PyData.eqv (trD t) (trD u) = decide ((trC t : Int) = (trC u : Int)) := by
  show PyData.eqvAll ((trO t).map toD) ((trO u).map toD) = _
  rw [eqv_sc (ins_ssc h) (ins_ssc g)]
  by_cases e : trO t = trO u
  · rw [decide_eq_true e, decide_eq_true (congrArg (fun (n : Nat) => (n : Int)) ((code_iff h g).mpr e))]
  · have ne : ¬ (trC t : Int) = (trC u : Int) := fun z => e ((code_iff h g).mp (Int.ofNat.inj z))
    rw [decide_eq_false e, decide_eq_false ne]
def sp_law (K : PySem.W.Frag) (tP : Addr) : Sp := fun vs H Q _ => ∃ (a : Addr) (ns : List Int), vs = [.ref a] ∧ SqL K H a (ns.map V.int) ∧ ns.length ≤ 63 ∧ GxR.TabG H tP ∧ ∀ H', Q (.bl true) H'
theorem c_law {tP f : Addr} {fd : FuncData} (T : Txt K mg aREG aOPS) (d : FunT K "law" s_law f fd) (c__law_store : C8.Cal P w K mg base 1 "_law_store" (sp_store K) []) (c__law_instruction : C8.Cal P w K mg base 4 "_law_instruction" sp_linstr []) (c__law_operations : C8.Cal P w K mg base 1 "_law_operations" (sp_opsL K) []) (c__law_drawn : C8.Cal P w K mg base 4 "_law_drawn" (sp_ldrawn K) [])
    (c__law_no_instruction : C8.Cal P w K mg base 8 "_law_no_instruction" (sp_noins K) []) (c__law_copy : C8.Cal P w K mg base 4 "_law_copy" (sp_copy K 4) []) (c__law_alike : C8.Cal P w K mg base 4 "_law_alike" (sp_alike K 4) []) (c__law_asked : C8.Cal P w K mg base 8 "_law_asked" (sp_lasked K tP) []) (c__law_code : C8.Cal P w K mg base 2 "_law_code" (sp_code K) [])
    (c_instruction_of : C8.Cal P w K mg base 5 "instruction_of" sp_instr []) (ck_instruction_of_word : CalK P w K mg base 5 "instruction_of" sp_instr 0 ["word"] (fun _ zs => zs)) (ck_code_of_instruction : CalK P w K mg base 7 "code_of" (sp_codeof K tP) 0 ["instruction"] (fun _ zs => zs)) : FnOk P w K mg base CX0 9 f fd ["script"] (sp_law K tP) := by
  refine mkF d sc_law (fun vs H Q E h => ?_) (fun fa cdv A outer s H vs Q E hr h => ?_)
  · obtain ⟨a, ns, rfl, _⟩ := h
    rfl
  · obtain ⟨a, ns, rfl, ha, hn, hT, q⟩ := h
    have hh : Hd H [tblC tP] := let ⟨ps, e, t⟩ := hT; Hd.one (c := tblC tP) e ⟨ps, rfl, t⟩
    refine ⟨_, (pss_cons (ps_set (i := 1) sc_law.nd rfl (Or.inr rfl) (C8.pe_c c__law_store hr (by first | decide | omega) rfl (pa_cons (pv 0) (pa_cons pe_int pa_nil))))
  (pss_cons (ps_setLc (i := 3) (own := [("k", 2)]) rfl sc_law.nd rfl rfl (sw_true rfl rfl rfl (by decide +kernel)) (pi_range1 rfl T.b_range (pa_cons pe_int pa_nil)) (blkOk_by (own := [("k", 2)]) (N := nm_law) (sc := defScope s_law) (by decide +kernel)) (fun _ _ _ _ _ => (pg_name (i := 2) sc_law.nd rfl (Or.inl rfl))) (fun _ _ _ _ _ => pts_nil) (fun _ _ _ _ _ => (C8.pe_c c__law_instruction hr (by first | decide | omega) rfl (pa_cons (pv 1) (pa_cons pe_int pa_nil)))))
  (pss_cons (ps_set (i := 3) sc_law.nd rfl (Or.inl rfl) (pe_op op_cat (pv 3) (pe_lc (own := [("row", 4)]) rfl sc_law.nd (pi_list (Wk.pe_c0 c__law_operations hr (by first | decide | omega) rfl)) (blkOk_by (own := [("row", 4)]) (N := nm_law) (sc := defScope s_law) (by decide +kernel)) (fun _ _ _ _ _ => (pg_name (i := 4) sc_law.nd rfl (Or.inl rfl))) (fun _ _ _ _ _ => pts_nil) (fun _ _ _ _ _ => (C8.pe_c c__law_drawn hr (by first | decide | omega) rfl (pa_cons (pv 1) (pa_cons (pv 4) pa_nil)))))))
  (pss_cons (ps_set (i := 5) sc_law.nd rfl (Or.inl rfl) (pe_lst pa_nil))
  (pss_cons (ps_for PassesOwn.never rfl (pi_range1 rfl T.b_range (pa_cons (pe_callB Wk.b_len (by rfl) T.b_len (by decide +kernel) (pa_cons (pv 3) pa_nil)) pa_nil)) (pg_name (i := 2) sc_law.nd rfl (Or.inl rfl))
    (pss_cons (ps_set (i := 4) sc_law.nd rfl (Or.inl rfl) (pe_ix ix_list (pv 3) (pv 2) (fun _ _ => rfl)))
      (C8.pss_cut (ps_if (pt_cmpR op_lt (pv 2) pe_int (nomark _))
        (pss_cons (ps_set (i := 6) sc_law.nd rfl (Or.inl rfl) (C8.pe_c c__law_no_instruction hr (by first | decide | omega) rfl (pa_cons (pv 1) pa_nil)))
          (pss_cons (ps_set (i := 7) sc_law.nd rfl (Or.inl rfl) (C8.pe_c c__law_copy hr (by first | decide | omega) rfl (pa_cons (pv 6) pa_nil)))
          (pss_cons (ps_if (pt_not (pt_val (C8.pe_c c__law_alike hr (by first | decide | omega) rfl (pa_cons (pe_tup (pa_cons (pe_tup (pa_cons pe_str (pa_cons pe_str pa_nil))) (pa_cons pe_non pa_nil))) (pa_cons (C8.pe_c c__law_asked hr (by first | decide | omega) rfl (pa_cons (pv 7) pa_nil)) pa_nil)))))
            (pss_one (ps_ret pe_bl))
            pss_nil)
          (pss_one (ps_if (pt_not (pt_val (C8.pe_c c__law_alike hr (by first | decide | omega) rfl (pa_cons (pv 6) (pa_cons (pv 7) pa_nil)))))
            (pss_one (ps_ret pe_bl))
            pss_nil)))))
        pss_nil)
      (pss_cons (ps_set (i := 8) sc_law.nd rfl (Or.inl rfl) (C8.pe_c c__law_code hr (by first | decide | omega) rfl (pa_cons (pv 4) pa_nil)))
      (pss_cons (ps_if (PW.pt (pw_or (pt_not (pt_val (C8.pe_c c__law_alike hr (by first | decide | omega) rfl (pa_cons (pe_tup (pa_cons pe_non (pa_cons (pv 8) pa_nil))) (pa_cons (C8.pe_c c__law_asked hr (by first | decide | omega) rfl (pa_cons (pv 4) pa_nil)) pa_nil))))) (pw_or1 (pt_not (pt_val (C8.pe_c c__law_alike hr (by first | decide | omega) rfl (pa_cons (pv 4) (pa_cons (C8.pe_c c_instruction_of hr (by first | decide | omega) rfl (pa_cons (pv 8) pa_nil)) pa_nil))))))))
        (pss_one (ps_ret pe_bl))
        pss_nil)
      (pss_cons (ps_for PassesOwn.never rfl (pi_range1 rfl T.b_range (pa_cons (pv 2) pa_nil)) (pg_name (i := 9) sc_law.nd rfl (Or.inl rfl))
        (pss_one (ps_if (pt_cmpR op_ne (pe_cmpR op_eq (pe_ix ix_list (pv 5) (pv 9) (fun _ _ => rfl)) (pv 8) (nomark _)) (pe_cmpR (op_eqD hr.units) (pe_ix ix_list (pv 3) (pv 9) (fun _ _ => rfl)) (pv 4) (nomark _)) (nomark _))
            (pss_one (ps_ret pe_bl))
            pss_nil)))
      (pss_one (ps_expr (pe_bm PySem.F.plainAttrs_list PySem.F.slot_list_append PySem.F.type_list_append mt_append (pv 5) (pa_cons (Wk.pe_ck ck_code_of_instruction hr (by first | decide | omega) rfl (pk_cons (pv 4) pk_nil)) pa_nil))))))))))
  (pss_cons (ps_if (pt_not (pt_val (C8.pe_c c__law_alike hr (by first | decide | omega) rfl (pa_cons (pe_lc (own := [("row", 4)]) rfl sc_law.nd (pi_list (pv 3)) (blkOk_by (own := [("row", 4)]) (N := nm_law) (sc := defScope s_law) (by decide +kernel)) (fun _ _ _ _ _ => (pg_name (i := 4) sc_law.nd rfl (Or.inl rfl))) (fun _ _ _ _ _ => pts_nil) (fun _ _ _ _ _ => (C8.pe_c c__law_code hr (by first | decide | omega) rfl (pa_cons (pv 4) pa_nil)))) (pa_cons (pv 5) pa_nil)))))
    (pss_one (ps_ret pe_bl))
    pss_nil)
  (pss_one (ps_ret (C8.pe_c c__law_alike hr (by first | decide | omega) rfl (pa_cons (pv 3) (pa_cons (pe_lc (own := [("code", 8)]) rfl sc_law.nd (pi_list (pv 5)) (blkOk_by (own := [("code", 8)]) (N := nm_law) (sc := defScope s_law) (by decide +kernel)) (fun _ _ _ _ _ => (pg_name (i := 8) sc_law.nd rfl (Or.inl rfl))) (fun _ _ _ _ _ => pts_nil) (fun _ _ _ _ _ => (Wk.pe_ck ck_instruction_of_word hr (by first | decide | omega) rfl (pk_cons (pv 8) pk_nil)))) pa_nil))))))))))), ?_⟩
    walk_at "gs"
    refine g_store (by assumption) ha hn (by omega) (by omega) fun st c H1 h1 => ?_
    walk_at "gs"
    refine g_lcR (m := 8) h1 rfl (by omega) (fun i D H => ∃ (xs : List V) (ts : List Tr) (Z : List Cell), xs.length = i ∧ RowsI K Z xs ts ∧ Hd H (stoC st c :: scrC c :: lstC D xs :: (Z ++ [tblC tP]))) (fun D H1 h1 => ⟨[], [], [], rfl, fun _ _ => .nil, Hd.sb (A := stoC st c :: scrC c :: lstC D [] :: [tblC tP]) h1 (by walk_at "sbx")⟩) ?_ ?_
    · rintro i D H2 hi ⟨xs, ts, Z, el, hR, h2⟩
      walk_at "gs"
      refine g_linstr (t := 1023) h2 (by walk_at "spl") (by omega) fun p o f l H3 hi3 h3 => ?_
      refine g_kapp h3 (by walk_at "pk") (by rw [el]; exact Nat.lt_of_lt_of_le (show i < 1001 by omega) (by decide)) fun H4 h4 => ?_
      refine ⟨xs ++ [.ref p], ts ++ [(o, f, l)], tupC p (insO o f l) :: Z, by rw [List.length_append, el]; rfl, fun H hz => Paired.snoc (hR H hz.tail) ⟨p, rfl, hi3, hz.sqT (List.mem_cons_self ..)⟩, Hd.sb (A := stoC st c :: scrC c :: lstC D (xs ++ [.ref p]) :: tupC p (insO o f l) :: (Z ++ [tblC tP])) h4 (by walk_at "sbx")⟩
    · rintro rl H2 ⟨xs, ts, Z, el, hR, h2⟩
      clear h1 hh
      walk_at "gs"
      refine g_ops h2 fun pO as ZO H3 hl16 hZ h3 => ?_
      clear h2
      refine g_lcL h3 (Hd.sqL h3 (by walk_at "mem")) (fun i D H => ∃ (ys : List V) (us : List Tr) (Y : List Cell), ys.length = i ∧ RowsI K Y ys us ∧ Hd H (stoC st c :: scrC c :: (ZO ++ (lstC D ys :: lstC pO (as.map V.ref) :: lstC rl xs :: (Y ++ (Z ++ [tblC tP])))))) (fun D H1 h1 => ⟨[], [], [], rfl, fun _ _ => .nil, Hd.sb (A := stoC st c :: scrC c :: (ZO ++ (lstC D [] :: lstC pO (as.map V.ref) :: lstC rl xs :: (Z ++ [tblC tP])))) h1 (by walk_at "sbx")⟩) (fun i D H _ h => by obtain ⟨_, _, _, _, _, h⟩ := h; exact Hd.sqL h (by walk_at "mem")) ?_ ?_
      · rintro i x D H4 hx ⟨ys, us, Y, ely, hY, h4⟩
        clear h3
        rw [List.getElem?_map] at hx
        cases ha : as[i]? with
        | none => rw [ha] at hx; cases hx
        | some a =>
          rw [ha] at hx
          cases hx
          have hi16 : i < 16 := by have := (List.getElem?_eq_some_iff.mp ha).1; omega
          have hop : opsL[i]? = some (opNm i, opSo i) := by
            have k : ∀ o : Fin 16, opsL[o.1]? = some (opNm o.1, opSo o.1) := by decide +kernel
            exact k ⟨i, hi16⟩
          have hrow : ∀ H, Hd H ZO → SqT K H a [.str (opNm i), .str (opSo i)] := fun H hz => hZ i a _ ha hop _ hz
          walk_at "gs"
          refine ⟨st, c, a, i, ZO, lstC D ys :: lstC pO (as.map V.ref) :: lstC rl xs :: (Y ++ (Z ++ [tblC tP])), rfl, hi16, hrow, h4, fun p f l H5 hi5 h5 => ?_⟩
          have h5' : Hd H5 (lstC D ys :: tupC p (insO i f l) :: stoC st c :: scrC c :: (ZO ++ (lstC pO (as.map V.ref) :: lstC rl xs :: (Y ++ (Z ++ [tblC tP]))))) := Hd.sb h5 (by walk_at "sbx")
          refine g_kapp h5' (by walk_at "pk") (by rw [ely]; exact Nat.lt_of_lt_of_le (show i < 1001 by omega) (by decide)) fun H6 h6 => ?_
          refine ⟨ys ++ [.ref p], us ++ [(i, f, l)], tupC p (insO i f l) :: Y, by rw [List.length_append, ely]; rfl, fun H hz => Paired.snoc (hY H hz.tail) ⟨p, rfl, hi5, hz.sqT (List.mem_cons_self ..)⟩, Hd.sb (A := stoC st c :: scrC c :: (ZO ++ (lstC D (ys ++ [.ref p]) :: lstC pO (as.map V.ref) :: lstC rl xs :: tupC p (insO i f l) :: (Y ++ (Z ++ [tblC tP]))))) h6 (by walk_at "sbx")⟩
      · rintro D H4 ⟨ys, us, Y, ely, hY, h4⟩
        clear h3
        rw [List.length_map, hl16] at ely
        walk_at "gs"
        rename_i wl _ _ cl H5 h5
        have h6 : Hd H5 (stoC st c :: scrC c :: lstC cl (codeV ((ts ++ us).take 0)) :: lstC wl (xs ++ ys) :: ((Y ++ Z) ++ [tblC tP])) := by
          rw [List.append_assoc]
          exact Hd.sb (A := stoC st c :: scrC c :: lstC cl [] :: lstC wl (xs ++ ys) :: (Y ++ (Z ++ [tblC tP]))) h5 (by walk_at "sbx")
        have hRR : RowsI K (Y ++ Z) (xs ++ ys) (ts ++ us) := fun H hz => pairedApp (hR H hz.app) (hY H hz.left)
        have hlx : (xs ++ ys).length = 24 := by rw [List.length_append, el, ely]
        have hlt : (ts ++ us).length = 24 := by
          have h1 : Hd H5 (Y ++ Z) := Hd.sb h6 (by walk_at "sbx")
          rw [← pairedLen (hRR _ h1)]
          exact hlx
        clear h4 h5 hR hY hZ el ely
        generalize xs ++ ys = xs at h6 hRR hlx
        generalize ts ++ us = ts at h6 hRR hlt
        generalize Y ++ Z = Z at h6 hRR
        refine l_range (m := 24) (by rw [hlx]) (by decide) (fun i σ H => ∃ v2 v4 v6 v7 v8 v9 : Option V, σ = [some (.ref a), some (.ref st), v2, some (.ref wl), v4, some (.ref cl), v6, v7, v8, v9] ∧ Hd H (stoC st c :: scrC c :: lstC cl (codeV (ts.take i)) :: lstC wl xs :: (Z ++ [tblC tP]))) ⟨none, none, none, none, none, none, rfl, h6⟩ ?_ ?_
        · rintro i σ H6 hi ⟨v2, v4, v6, v7, v8, v9, rfl, h7⟩
          obtain ⟨p, t, hxi, hti, hr3, hrow⟩ := hRR.get (i := i) (Hd.sb h7 (by walk_at "sbx")) (by omega)
          clear h6
          walk_at "gs"
          refine w_cut (fun σ H => ∃ v6 v7 : Option V, σ = [some (.ref a), some (.ref st), some (.int (i : Int)), some (.ref wl), some (.ref p), some (.ref cl), v6, v7, v8, v9] ∧ Hd H (stoC st c :: scrC c :: lstC cl (codeV (ts.take i)) :: lstC wl xs :: (Z ++ [tblC tP]))) ?_ ?_
          · walk_at "gs"
            refine w_ite (fun e => ?_) (fun e => ?_)
            · walk_at "gs"
              refine ⟨st, c, lstC cl (codeV (ts.take i)) :: lstC wl xs :: (Z ++ [tblC tP]), rfl, h7, fun v d W H8 hb hw h8 => ?_⟩
              clear h7
              walk_at "gs"
              refine g_copyZ (k := 3) h8 (hw _ (Hd.sb h8 (by walk_at "sbx"))) fun v' W' H9 h9 hw' => ?_
              clear h8
              walk_at "gs"
              rename_i p1 _ _ p2 H10 h10
              refine .inr ⟨v', d, 3, tupC p2 [.ref p1, .non] :: tupC p1 [.str "BadArgument", .str "instruction"] :: (W' ++ (stoC st c :: scrC c :: (W ++ (Z ++ [lstC cl (codeV (ts.take i)), lstC wl xs])))), rfl, fun H hz => hw' _ (Hd.sb hz (by walk_at "sbx")), hb, Hd.sb h10 (by walk_at "sbx"), fun t1 t2 H11 h11 => ?_⟩
              clear h9 h10
              walk_at "gs"
              refine u_alike (n := 3) (d := .tuple [.tuple [.str "BadArgument", .str "instruction"], .none])
                (Dn.tp (n := 2) h11 (by walk_at "mem") (by simp) (.cons (Dn.tp (n := 1) h11 (by walk_at "mem") (by simp) (.cons Dn.str (.cons Dn.str .nil))) (.cons Dn.non .nil)))
                (Dn.tp (n := 2) h11 (by walk_at "mem") (by simp) (.cons (Dn.tp (n := 1) h11 (by walk_at "mem") (by simp) (.cons Dn.str (.cons Dn.str .nil))) (.cons Dn.non .nil))) ?_
              walk_at "gs"
              refine u_alike (n := 3) (d := d) (hw _ (Hd.sb h11 (by walk_at "sbx"))) (hw' _ (Hd.sb h11 (by walk_at "sbx"))) ?_
              walk_at "gs"
              exact ⟨_, _, rfl, Hd.sb h11 (by walk_at "sbx")⟩
            · walk_at "gs"
              exact ⟨_, _, rfl, h7⟩
          · rintro σ H8 ⟨v6, v7, rfl, h8⟩
            clear h7
            have hz8 : Hd H8 Z := Hd.sb h8 (by walk_at "sbx")
            walk_at "gs"
            refine g_code h8 (hrow _ hz8) hr3 fun k0 H9 _ ek h9 => ?_
            clear h8 hz8
            have ek : k0 = trC t := ek
            subst ek
            walk_at "gs"
            rename_i p3 H10 h10
            have hed := enc_dec hr3
            refine .inl ⟨p, t.1, t.2.1, t.2.2, tupC p3 [.non, .int (trC t : Nat)] :: stoC st c :: scrC c :: (Z ++ [lstC cl (codeV (ts.take i)), lstC wl xs]), rfl, hr3, fun H' h => hrow H' (Hd.sb h (by walk_at "sbx")), Hd.sb h10 (by walk_at "sbx"), fun u H11 h11 => ?_⟩
            clear h9 h10
            walk_at "gs"
            refine u_alike (n := 3) (d := .tuple [.none, .int (trC t : Nat)]) (Dn.tp (n := 2) h11 (by walk_at "mem") (by simp) (.cons Dn.non (.cons Dn.int .nil))) (Dn.tp (n := 2) h11 (by walk_at "mem") (by simp) (.cons Dn.non (.cons Dn.int .nil))) ?_
            walk_at "gs"
            refine u_instr (w := trC t) hed.1 (fun hb => absurd hb hed.2.1) (fun _ p4 H12 e1 e2 u12 => ?_)
            have h12 := new_tup' (xs := trO t) h11 u12 e1 (by rw [insV_o hed.1, hed.2.2] at e2; exact e2)
            clear h11
            walk_at "gs"
            refine u_alike (n := 3) (d := trD t) (Dn.up (n := 1) (by decide) (dn_row hr3 (hrow _ (Hd.sb h12 (by walk_at "sbx"))))) (Dn.up (n := 1) (by decide) (dn_row hr3 (h12.sqT (List.mem_cons_self ..)))) ?_
            have h13 : Hd H12 (stoC st c :: scrC c :: lstC cl (codeV (ts.take i)) :: lstC wl xs :: (Z ++ [tblC tP])) := Hd.sb h12 (by walk_at "sbx")
            clear h12
            walk_at "gs"
            refine l_range (m := i) rfl (by omega) (fun j σ H => ∃ v9 : Option V, σ = [some (.ref a), some (.ref st), some (.int (i : Int)), some (.ref wl), some (.ref p), some (.ref cl), v6, v7, some (.int (trC t : Nat)), v9] ∧ Hd H (stoC st c :: scrC c :: lstC cl (codeV (ts.take i)) :: lstC wl xs :: (Z ++ [tblC tP]))) ⟨v9, rfl, h13⟩ ?_ ?_
            · rintro j σ H13 hj ⟨v9, rfl, h14⟩
              clear h13
              have hz14 : Hd H13 Z := Hd.sb h14 (by walk_at "sbx")
              obtain ⟨pj, tj, hxj, htj, hrj, hrowj⟩ := hRR.get (i := j) hz14 (by omega)
              have hcj : (codeV (ts.take i))[j]? = some (.int (trC tj : Nat)) := by rw [List.getElem?_map, List.getElem?_take_of_lt hj, htj]; rfl
              walk_at "gs"
              refine w_ixL (v := .int (trC tj : Nat)) (Hd.sqL h14 (by walk_at "mem")) (atI_nat hcj) ?_
              walk_at "gs"
              refine w_ixL (v := .ref pj) (Hd.sqL h14 (by walk_at "mem")) (atI_nat hxj) ?_
              walk_at "gs"
              refine ⟨trD tj, trD t, .tup (hrowj _ hz14) (dp_sc (ins_ssc hrj)), .tup (hrow _ hz14) (dp_sc (ins_ssc hr3)), shp_sc (ins_ssc hrj), shp_sc (ins_ssc hr3), ?_⟩
              rw [eqv_rows hrj hr3]
              refine w_ne rfl ?_
              refine ⟨_, rfl, ?_⟩
              rw [decide_eq_true rfl]
              refine ⟨_, rfl, h14⟩
            · rintro σ H13 ⟨v9, rfl, h14⟩
              clear h13
              walk_at "gs"
              refine ⟨rfl, ?_⟩
              refine g_codeof h14 (by walk_at "spl") hr3 (fun H' h => hrow H' (Hd.sb h (by walk_at "sbx"))) fun H14 h15 => ?_
              clear h14
              walk_at "gs"
              have hcl : (codeV (ts.take i)).length ≤ 24 := by rw [List.length_map, List.length_take]; omega
              refine w_append (h15.lst (by walk_at "mem")) (Nat.lt_of_le_of_lt hcl (by decide)) fun H15 ch => ?_
              have h16 := h15.chgL (by walk_at "pk") ch
              walk_at "gs"
              refine ⟨_, _, _, _, _, _, rfl, ?_⟩
              have etk : codeV (ts.take (i + 1)) = codeV (ts.take i) ++ [V.int (trC t : Nat)] := by rw [take_succ' hti]; exact List.map_append ..
              rw [etk]
              exact Hd.sb h16 (by walk_at "sbx")
        · rintro σ H6 ⟨v2, v4, v6, v7, v8, v9, rfl, h7⟩
          clear h6
          rw [List.take_of_length_le (Nat.le_of_eq hlt)] at h7
          walk_at "gs"
          refine g_lcL h7 (Hd.sqL h7 (by walk_at "mem")) (fun i D H => Hd H (stoC st c :: scrC c :: lstC D (codeV (ts.take i)) :: lstC cl (codeV ts) :: lstC wl xs :: (Z ++ [tblC tP]))) (fun D H1 h1 => Hd.sb (A := stoC st c :: scrC c :: lstC D [] :: lstC cl (codeV ts) :: lstC wl xs :: (Z ++ [tblC tP])) h1 (by walk_at "sbx")) (fun i D H _ h => Hd.sqL h (by walk_at "mem")) ?_ ?_
          · rintro i x D H8 hx h8
            have hil : i < xs.length := (List.getElem?_eq_some_iff.mp hx).1
            have hz8 : Hd H8 Z := Hd.sb h8 (by walk_at "sbx")
            obtain ⟨p, t, hxi, hti, hr3, hrow⟩ := hRR.get (i := i) hz8 hil
            rw [hxi] at hx
            cases hx
            clear h7
            walk_at "gs"
            refine g_code h8 (hrow _ hz8) hr3 fun k0 H9 _ ek h9 => ?_
            clear h8 hz8
            have ek : k0 = trC t := ek
            subst ek
            have hcl : (codeV (ts.take i)).length ≤ 24 := by rw [List.length_map, List.length_take]; omega
            refine g_kapp h9 (by walk_at "pk") (Nat.lt_of_le_of_lt hcl (by decide)) fun H10 h10 => ?_
            have etk : codeV (ts.take (i + 1)) = codeV (ts.take i) ++ [V.int (trC t : Nat)] := by rw [take_succ' hti]; exact List.map_append ..
            show Hd H10 _
            rw [etk]
            exact Hd.sb h10 (by walk_at "sbx")
          · rintro D H8 h8
            clear h7
            rw [show ts.take xs.length = ts from List.take_of_length_le (by omega)] at h8
            have hll : (codeV ts).length ≤ 100000 := by rw [List.length_map]; omega
            walk_at "gs"
            refine u_alike (n := 3) (d := .list (ts.map fun (t : Tr) => PyData.int (trC t : Nat))) (Dn.up (n := 1) (by decide) (Dn.lt (n := 0) h8 (by walk_at "mem") hll codes_dn)) (Dn.up (n := 1) (by decide) (Dn.lt (n := 0) h8 (by walk_at "mem") hll codes_dn)) ?_
            walk_at "gs"
            refine g_lcL h8 (Hd.sqL h8 (by walk_at "mem")) (fun i D2 H => ∃ (ys : List V) (Y : List Cell), ys.length = i ∧ (∀ H, Hd H Y → Paired (Dn K [] H 1) ys ((ts.take i).map trD)) ∧ Hd H (lstC D2 ys :: (Y ++ (lstC cl (codeV ts) :: lstC wl xs :: (Z ++ [tblC tP]))))) (fun D2 H1 h1 => ⟨[], [], rfl, fun _ _ => .nil, Hd.sb (A := lstC D2 [] :: lstC cl (codeV ts) :: lstC wl xs :: (Z ++ [tblC tP])) h1 (by walk_at "sbx")⟩) (fun i D H _ h => by obtain ⟨_, _, _, _, h⟩ := h; exact Hd.sqL h (by walk_at "mem")) ?_ ?_
            · rintro i x D2 H9 hx ⟨ys, Y, hyl, hy, h9⟩
              rw [List.getElem?_map] at hx
              cases hti : ts[i]? with
              | none => rw [hti] at hx; cases hx
              | some t =>
                rw [hti] at hx
                cases hx
                have hil : i < 24 := by have := (List.getElem?_eq_some_iff.mp hti).1; omega
                obtain ⟨p, t', hxi, hti', hr3, hrow⟩ := hRR.get (i := i) (H := H9) (Hd.sb h9 (by walk_at "sbx")) (by omega)
                rw [hti] at hti'
                cases hti'
                have hed := enc_dec hr3
                clear h8
                walk_at "gs"
                refine ⟨rfl, ?_⟩
                refine u_instr (w := trC t) hed.1 (fun hb => absurd hb hed.2.1) (fun _ p4 H12 e1 e2 u12 => ?_)
                have h12 := new_tup' (xs := trO t) h9 u12 e1 (by rw [insV_o hed.1, hed.2.2] at e2; exact e2)
                refine g_kapp h12 (by walk_at "pk") (by rw [hyl]; exact Nat.lt_of_lt_of_le (show i < 1001 by omega) (by decide)) fun H13 h13 => ?_
                refine ⟨ys ++ [.ref p4], tupC p4 (trO t) :: Y, by rw [List.length_append, hyl]; rfl, fun H hz' => ?_, h13⟩
                rw [take_succ' hti, List.map_append]
                exact Paired.snoc (hy H hz'.tail) (dn_row hr3 (hz'.sqT (List.mem_cons_self ..)))
            · rintro D2 H9 ⟨ys, Y, hyl, hy, h9⟩
              clear h8
              rw [List.length_map] at hyl
              rw [List.length_map, List.take_length] at hy
              have p1 := hRR.dn (H := H9) (Hd.sb h9 (by walk_at "sbx"))
              have p2 := hy H9 (Hd.sb h9 (by walk_at "sbx"))
              walk_at "gs"
              refine u_alike (n := 3) (d := .list (ts.map trD)) (Dn.up (n := 2) (by decide) (Dn.lt (n := 1) h9 (by walk_at "mem") (by omega) p1)) (Dn.up (n := 2) (by decide) (Dn.lt (n := 1) h9 (by walk_at "mem") (by omega) p2)) ?_
              exact q _
end
end K08
set_option Elab.async false
set_option linter.all false
set_option maxRecDepth 100000
set_option maxHeartbeats 4000000
namespace K08
open PySem PySem.Spec PyProof.Rows L2 Wk
local macro_rules | `(tactic| walk_at "u1") => `(tactic| fail "no more")
local macro_rules | `(tactic| walk_at "pos") => `(tactic| first | assumption | omega | decide | (simp only [Int.ofNat_eq_natCast] at *; omega))
local macro_rules | `(tactic| walk_at "sz") => `(tactic| first
  | (simp only [List.length_cons, List.length_nil]; decide)
  | exact Evl.sz_of (by omega)
  | exact Evl.sz_lt (by omega)
  | exact Evl.sz_of (by simp only [List.length_map, List.length_append, List.length_cons, List.length_nil, List.length_replicate]; omega)
  | exact Evl.sz_lt (by simp only [List.length_map, List.length_append, List.length_cons, List.length_nil, List.length_replicate]; omega))
local macro_rules | `(tactic| walk_at "cond") => `(tactic| first
  | exact Or.inr ⟨by decide, by decide⟩
  | (show (0 : Int) < _; first | decide | assumption | omega)
  | exact Or.inl ⟨by omega, by omega⟩
  | exact Or.inr ⟨by omega, by omega⟩
  | exact ⟨by decide, by decide, by decide⟩
  | exact log2_lt (by omega) (by omega)
  | exact ⟨by omega, by omega⟩)
local macro_rules | `(tactic| walk_at "ty") => `(tactic| first
  | exact ty_int | exact ty_bl | exact ty_str | exact ty_non
  | exact ty_L (by assumption) | exact ty_T (by assumption)
  | exact ty_L (SqL.of (by assumption)) | exact ty_T (SqT.of (by assumption)))
local macro_rules | `(tactic| walk_at "kit") => `(tactic| first
  | exact k_ii | exact k_ib | exact k_is | exact k_il | exact k_it
  | exact k_bb | exact k_bi | exact k_bs | exact k_bl | exact k_bt
  | exact k_ss | exact k_sb | exact k_si | exact k_sl | exact k_st
  | exact k_ll | exact k_lb | exact k_li | exact k_ls | exact k_lt
  | exact k_tt | exact k_tb | exact k_ti | exact k_ts | exact k_tl
  | exact k_nn | exact k_ni | exact k_ns | exact k_nl | exact k_nt)
local macro_rules | `(tactic| walk_at "s1") => `(tactic| first
  | with_reducible refine w_seq ?_
  | with_reducible refine w_set ?_
  | with_reducible refine w_op ?_
  | ((with_reducible refine' w_var ?h1 ?_); (case h1 => rfl))
  | with_reducible refine w_c ?_
  | with_reducible refine w_cb ?_
  | with_reducible refine w_cons ?_
  | with_reducible refine w_nil ?_
  | with_reducible refine w_I0 ?_
  | ((with_reducible refine' w_I ?c1 ?_); case c1 => walk_at "cond")
  | with_reducible refine w_ret ?_
  | with_reducible refine w_next ?_
  | with_reducible refine w_ifS ?_
  | with_reducible refine w_test ?_
  | with_reducible refine w_tB ?_
  | with_reducible refine w_k ?_
  | with_reducible refine w_eqI ?_
  | with_reducible refine w_neI ?_
  | with_reducible refine w_eqS ?_
  | with_reducible refine w_neS ?_
  | with_reducible refine w_and ?_
  | with_reducible refine w_or ?_
  | with_reducible refine w_not ?_
  | with_reducible refine w_andV ?_
  | with_reducible refine w_orV ?_
  | with_reducible refine w_notV ?_
  | with_reducible refine w_ifE ?_
  | with_reducible refine w_true ?_
  | with_reducible refine w_false ?_
  | with_reducible refine w_ntrue ?_
  | with_reducible refine w_nfalse ?_
  | with_reducible refine w_call ?_
  | with_reducible refine c_int ?_
  | with_reducible refine c_abs ?_
  | with_reducible refine c_max ?_
  | with_reducible refine c_min ?_
  | with_reducible refine w_drop ?_
  | with_reducible refine w_sfld ?_
  | with_reducible refine w_meth ?_
  | with_reducible refine w_make ?_
  | with_reducible refine w_prop ?_
  | with_reducible refine w_callK ?_
  | with_reducible refine w_callN ?_
  | with_reducible refine w_star ?_
  | with_reducible refine w_gcons ?_
  | with_reducible refine w_gname ?_
  | with_reducible refine w_gnil ?_
  | with_reducible refine w_retN ?_
  | with_reducible refine w_tup ?_
  | with_reducible refine w_lst ?_
  | with_reducible refine w_fld ?_
  | with_reducible refine w_bm ?_
  | with_reducible refine w_bm0 ?_
  | with_reducible refine w_forL ?_
  | with_reducible refine w_forT ?_
  | with_reducible refine w_forS ?_
  | with_reducible refine w_forR ?_
  | with_reducible refine w_lcR ?_
  | with_reducible refine w_lcL ?_
  | with_reducible refine w_lcT ?_
  | with_reducible refine w_isN ?_
  | with_reducible refine w_notN ?_
  | with_reducible refine w_asg ?_
  | with_reducible refine w_gsub ?_
  | ((with_reducible refine' w_aug ?h1 ?_); (case h1 => rfl))
  | with_reducible refine w_augS ?_
  | with_reducible refine w_ipI ?_
  | with_reducible refine w_un ?_
  | with_reducible refine w_U ?_
  | ((with_reducible refine' w_iteF ?f1 ?_); case f1 => (first | (intro h; cases h; done) | decide))
  | ((with_reducible refine' w_iteT ?f1 ?_); case f1 => rfl)
  | ((with_reducible refine' w_iteNF ?f1 ?_); case f1 => rfl)
  | ((with_reducible refine' w_iteNT ?f1 ?_); case f1 => (first | (intro h; cases h; done) | decide))
  | ((with_reducible refine' c_isi ?t1 ?k1 ?_); (case t1 => walk_at "ty"); (case k1 => walk_at "kit"))
  | ((with_reducible refine' w_eq ?e1 ?_); case e1 => rfl)
  | ((with_reducible refine' w_ne ?e1 ?_); case e1 => rfl)
  | walk_at "u1")
local macro_rules | `(tactic| walk_at "s") => `(tactic| repeat walk_at "s1")
local macro_rules | `(tactic| walk_at "mem") => `(tactic| first | with_reducible exact List.mem_cons_self .. | ((with_reducible refine' List.mem_cons_of_mem _ ?q); (case q => walk_at "mem")) | assumption | ((with_reducible refine' List.mem_append_right _ ?q); (case q => walk_at "mem")) | (exact List.mem_append_left _ (by assumption)))
local macro_rules | `(tactic| walk_at "pk") => `(tactic| first | with_reducible exact Pk.here | ((with_reducible refine' Pk.there ?q); (case q => walk_at "pk")) | ((with_reducible refine' Pk.app ?q); (case q => walk_at "pk")))
local macro_rules | `(tactic| walk_at "pkb") => `(tactic| first | with_reducible exact PkB.here | ((with_reducible refine' PkB.there ?q); (case q => walk_at "pkb")) | ((with_reducible refine' PkB.app ?q); (case q => walk_at "pkb")))
local macro_rules | `(tactic| walk_at "spl") => `(tactic| first | with_reducible exact Spl.nil | ((with_reducible refine' Spl.cons ?h ?t); (case h => walk_at "pk"); (case t => walk_at "spl")) | ((with_reducible refine' Spl.blk ?h ?t); (case h => walk_at "pkb"); (case t => walk_at "spl")))
local macro_rules | `(tactic| walk_at "sbx") => `(tactic| first | with_reducible exact Sb.refl | with_reducible exact Sb.nil | with_reducible exact Sb.left | ((with_reducible refine' Sb.cons ?h ?t); (case h => walk_at "pk"); (case t => walk_at "sbx")) | ((with_reducible refine' Sb.blk ?h ?t); (case h => walk_at "pkb"); (case t => walk_at "sbx")) | ((with_reducible refine' Sb.drop ?q); (case q => walk_at "sbx")) | ((with_reducible refine' Sb.right ?q); (case q => walk_at "sbx")))
local macro_rules | `(tactic| walk_at "hd") => `(tactic| first | assumption | exact Hd.sb (by assumption) (by walk_at "sbx"))
local macro_rules | `(tactic| walk_at "sq") => `(tactic| first
  | assumption
  | exact Hd.sqL (by assumption) (by walk_at "mem")
  | exact Hd.sqT (by assumption) (by walk_at "mem")
  | exact Hd.sqF (by assumption) (by walk_at "mem")
  | (refine .inl ?_; walk_at "sq")
  | (refine .inr ?_; walk_at "sq"))
local macro_rules | `(tactic| walk_at "at") => `(tactic| first | rfl | assumption | exact atI_nat (by assumption))
local macro_rules | `(tactic| walk_at "dn1") => `(tactic| first
  | exact Dn.int | exact Dn.str | exact Dn.non | exact Dn.bl | assumption
  | ((refine' Dn.tp ?a1 ?m1 ?l1 ?p1); (case a1 => assumption); (case m1 => walk_at "mem"); (case l1 => (simp only [List.length_cons, List.length_nil]; omega)); (case p1 => walk_at "dns"))
  | ((refine' Dn.lt ?a1 ?m1 ?l1 ?p1); (case a1 => assumption); (case m1 => walk_at "mem"); (case l1 => (simp only [List.length_cons, List.length_nil]; omega)); (case p1 => walk_at "dns")))
local macro_rules | `(tactic| walk_at "dns") => `(tactic| first | exact Paired.nil | exact Dn.ints | ((refine' Paired.cons ?a1 ?b1); (case a1 => walk_at "dn1"); (case b1 => walk_at "dns")))
local macro_rules | `(tactic| walk_at "g1") => `(tactic| first
  | ((with_reducible refine' g_ixI ?h1 ?h2 ?h3 ?_); (case h1 => assumption); (case h2 => walk_at "mem"); (case h3 => omega); intro z hz)
  | ((with_reducible refine' g_ixIT ?h1 ?h2 ?h3 ?_); (case h1 => assumption); (case h2 => walk_at "mem"); (case h3 => omega); intro z hz)
  | ((with_reducible refine' g_setI ?h1 ?h2 ?h3 ?_); (case h1 => assumption); (case h2 => walk_at "pk"); (case h3 => omega); intro H2 hh2)
  | ((with_reducible refine' w_ixL ?h1 ?h2 ?_); (case h1 => walk_at "sq"); (case h2 => walk_at "at"))
  | ((with_reducible refine' w_ixT ?h1 ?h2 ?_); (case h1 => walk_at "sq"); (case h2 => walk_at "at"))
  | ((with_reducible refine' w_ixAny ?h1 ?h2 ?_); (case h1 => walk_at "sq"); (case h2 => walk_at "at"))
  | ((with_reducible refine' c_lenA ?h1 ?_); (case h1 => walk_at "sq"))
  | ((with_reducible refine' c_isi ?t1 ?k1 ?_); (case t1 => first | exact ty_T (by walk_at "sq") | exact ty_L (by walk_at "sq")); (case k1 => walk_at "kit"))
  | ((with_reducible refine' g_lst ?h1 ?h2 ?_); (case h1 => assumption); (case h2 => walk_at "sz"); intro p H2 hh2)
  | ((with_reducible refine' g_tup ?h1 ?h2 ?_); (case h1 => assumption); (case h2 => walk_at "sz"); intro p H2 hh2)
  | ((with_reducible refine' g_dict ?h1 ?_); (case h1 => assumption); intro p H2 hh2)
  | ((with_reducible refine' g_listL ?h1 ?h2 ?_); (case h1 => assumption); (case h2 => walk_at "sq"); intro p H2 hh2)
  | ((with_reducible refine' g_listT ?h1 ?h2 ?_); (case h1 => assumption); (case h2 => walk_at "sq"); intro p H2 hh2)
  | ((with_reducible refine' g_tupL ?h1 ?h2 ?_); (case h1 => assumption); (case h2 => walk_at "sq"); intro p H2 hh2)
  | ((with_reducible refine' g_set ?h1 ?h2 ?h3 ?_); (case h1 => assumption); (case h2 => walk_at "pk"); (case h3 => first | rfl | assumption | exact Evl.ixN_nat (by first | omega | (simp only [List.length_cons, List.length_nil]; omega))); intro H2 hh2)
  | ((with_reducible refine' g_kbm ?h1 ?h2 ?_); (case h1 => assumption); (case h2 => walk_at "mem"))
  | ((with_reducible refine' g_kbm0 ?h1 ?h2 ?_); (case h1 => assumption); (case h2 => walk_at "mem"))
  | ((with_reducible refine' g_app ?h1 ?h2 ?h3 ?_); (case h1 => assumption); (case h2 => walk_at "pk"); (case h3 => walk_at "sz"); intro H2 hh2)
  | ((with_reducible refine' g_kapp ?h1 ?h2 ?h3 ?_); (case h1 => assumption); (case h2 => walk_at "pk"); (case h3 => walk_at "sz"); intro H2 hh2)
  | ((with_reducible refine' g_fld ?h1 ?h2 ?h3 ?h4 ?h5 ?_); (case h1 => assumption); (case h2 => walk_at "mem"); (case h3 => assumption); (case h4 => assumption); (case h5 => rfl))
  | ((with_reducible refine' g_sfld ?h1 ?h2 ?h3 ?h4 ?h5 ?_); (case h1 => assumption); (case h2 => walk_at "pk"); (case h3 => assumption); (case h4 => assumption); (case h5 => decide); intro H2 hh2)
  | ((with_reducible refine' g_meth ?h1 ?h2 ?h3 ?_); (case h1 => assumption); (case h2 => walk_at "mem"); (case h3 => rfl))
  | ((with_reducible refine' g_prop ?h1 ?h2 ?_); (case h1 => assumption); (case h2 => walk_at "mem"))
  | ((with_reducible refine' g_make ?h1 ?_); (case h1 => assumption); intro x H2 hh2)
  | ((with_reducible refine' g_cat ?h1 ?h2 ?h3 ?h4 ?_); (case h1 => assumption); (case h2 => walk_at "mem"); (case h3 => walk_at "mem"); (case h4 => walk_at "sz"); intro p H2 hh2)
  | ((with_reducible refine' g_inT ?h1 ?h2 ?h3 ?h4 ?h5 ?_); (case h1 => assumption); (case h2 => walk_at "mem"); (case h3 => rfl); (case h4 => rfl); (case h5 => rfl)))
local macro_rules | `(tactic| walk_at "gs") => `(tactic| repeat first | walk_at "s1" | walk_at "g1")
local macro_rules | `(tactic| walk_at "ite") => `(tactic| first
  | ((with_reducible refine' w_iteT ?h1 ?_); (case h1 => omega))
  | ((with_reducible refine' w_iteF ?h1 ?_); (case h1 => omega))
  | (with_reducible refine w_ite ?_ ?_ <;> intro hq)
  | ((with_reducible refine' w_iteNT ?h1 ?_); (case h1 => omega))
  | ((with_reducible refine' w_iteNF ?h1 ?_); (case h1 => omega))
  | (with_reducible refine w_iteN ?_ ?_ <;> intro hq))
local macro_rules | `(tactic| walk_at "go") => `(tactic| repeat' first | walk_at "s1" | walk_at "g1" | walk_at "ite")
local macro_rules | `(tactic| walk_at "g1") => `(tactic| first
  | ((with_reducible refine' g_take1 ?h1 ?h2 ?h3 ?h4 ?_); (case h1 => assumption); (case h2 => walk_at "spl"); (case h3 => omega); (case h4 => omega); intro k H2 hk1 hh2)
  | ((with_reducible refine' g_take ?h1 ?h2 ?h4 ?_); (case h1 => assumption); (case h2 => walk_at "spl"); (case h4 => omega); intro k H2 hk1 hh2)
  | ((with_reducible refine' g_betweenN ?h1 ?h2 ?h5 ?h3 ?h4 ?_); (case h1 => assumption); (case h2 => walk_at "spl"); (case h5 => omega); (case h3 => omega); (case h4 => omega); intro k H2 hk1 hk2 hh2)
  | ((with_reducible refine' g_between ?h1 ?h2 ?h3 ?h4 ?_); (case h1 => assumption); (case h2 => walk_at "spl"); (case h3 => omega); (case h4 => omega); intro k H2 hk1 hk2 hh2)
  | ((with_reducible refine' g_size ?h1 ?h2 ?h3 ?h4 ?_); (case h1 => assumption); (case h2 => walk_at "spl"); (case h3 => omega); (case h4 => omega); intro k H2 hk1 hh2)
  | ((with_reducible refine' g_word ?h1 ?h2 ?_); (case h1 => assumption); (case h2 => walk_at "spl"); intro k H2 hk1 hh2))
local macro_rules | `(tactic| walk_at "g1") => `(tactic| first | with_reducible refine w_sl ?_ | with_reducible refine w_part ?_ | with_reducible refine w_noPart ?_ | with_reducible refine w_exI ?_)
section
variable {P : Program} {w : World} {K : PySem.W.Frag} {mg : Str → Option Value} {base : Heap} {aREG aOPS : Addr}
/-- every def of the text under its name -/
structure Defs (K : PySem.W.Frag) (mg : Str → Option Value) (C cW : Addr) : Prop where
  is_integer : DefAt K mg "is_integer" s_is_integer
  is_in_range : DefAt K mg "is_in_range" s_is_in_range
  is_word : DefAt K mg "is_word" s_is_word
  ask_word : DefAt K mg "ask_word" s_ask_word
  code_of : DefAt K mg "code_of" s_code_of
  instruction_of : DefAt K mg "instruction_of" s_instruction_of
  is_instruction : DefAtC K mg "is_instruction" s_is_instruction cW
  operands_of : DefAt K mg "operands_of" s_operands_of
  is_number : DefAt K mg "is_number" s_is_number
  number_of : DefAt K mg "_number_of" s__number_of
  greatest_last : DefAt K mg "_greatest_last" s__greatest_last
  is_operand : DefAt K mg "_is_operand" s__is_operand
  mixed : DefAt K mg "_law_mixed" s__law_mixed
  store : DefAt K mg "_law_store" s__law_store
  take : DefAt K mg "_law_take" s__law_take
  between : DefAt K mg "_law_between" s__law_between
  pick : DefAt K mg "_law_pick" s__law_pick
  integer : DefAt K mg "_law_integer" s__law_integer
  text : DefAt K mg "_law_text" s__law_text
  plain : DefAt K mg "_law_plain" s__law_plain
  wrong_integer : DefAt K mg "_law_wrong_integer" s__law_wrong_integer
  alike : DefAt K mg "_law_alike" s__law_alike
  copy : DefAt K mg "_law_copy" s__law_copy
  error : DefAt K mg "_law_error" s__law_error
  operations : DefAt K mg "_law_operations" s__law_operations
  instruction : DefAt K mg "_law_instruction" s__law_instruction
  code : DefAt K mg "_law_code" s__law_code
  no_instruction : DefAt K mg "_law_no_instruction" s__law_no_instruction
  asked : DefAt K mg "_law_asked" s__law_asked
  drawn : DefAt K mg "_law_drawn" s__law_drawn
theorem all_law {C CE W cW tP f fBI : Addr} {fd fdBI : FuncData} (T : Txt K mg aREG aOPS) (B : Tabs K aREG aOPS) (TB : GxR.TabB base mg cW tP) (D : Defs K mg C cW)
    (F : FunT K "law" s_law f fd) (R : ErrC K mg CE W fBI) (dBI : DefM K "__init__" "BadArgument.__init__" s_BadArgument____init__ [] fBI fdBI) : FnOk P w K mg base CX0 9 f fd ["script"] (sp_law K tP) := by
  have mixed := c_mixed (P := P) (w := w) (base := base) T D.mixed
  have store := c_store (P := P) (w := w) (base := base) T D.store
  have take := c_take T D.take mixed
  have pick := c_pick T D.pick take
  have between := c_between T D.between take
  have alike := c_alike (P := P) (w := w) (base := base) T D.alike 4
  have copy := c_copy (P := P) (w := w) (base := base) T D.copy 4
  have int_ := c_integer (P := P) (w := w) (base := base) T D.is_integer
  have range := c_range T D.is_in_range int_
  have isword := c_isword T D.is_word range
  have askW := c_askW T D.ask_word isword
  have great := c_greatest (P := P) (w := w) (base := base) T D.greatest_last
  have instr := c_instr T B D.instruction_of askW great
  have instrK := ck_instr T B D.instruction_of askW great
  have ops := c_ops (P := P) (w := w) (base := base) T D.operations
  have opsL := c_opsL (P := P) (w := w) (base := base) T D.operations
  have code := c_code T D.code ops
  have linstr := c_linstr T D.instruction take pick between opsL
  have numof := c_numof (P := P) (w := w) (base := base) T B D.number_of
  have opsof := c_opsof T B D.operands_of numof
  have isins := c_isins T B TB D.is_instruction D.is_integer D.is_in_range D.is_number D.is_operand opsof
  have codeof := c_codeof T B D.code_of isins numof
  have codeofK := ck_codeof T B D.code_of isins numof
  have numofF := c_numofF (P := P) (w := w) (base := base) T B D.number_of
  have opsofF := c_opsofF T B D.operands_of numofF
  have isinsF := c_isinsF T B TB D.is_instruction D.is_integer D.is_in_range D.is_number D.is_operand opsofF
  have codeX := x_codeof T R dBI D.code_of isinsF numof
  have wrong := c_wrongD T D.wrong_integer take pick
  have lint := c_lint T D.integer take pick
  have ltext := c_ltext T D.text take
  have lplain := c_lplain T D.plain take pick lint ltext 3
  have drawn := c_ldrawn T D.drawn take between
  have noins := c_noins T D.no_instruction take pick ltext linstr wrong opsL drawn lplain
  obtain ⟨fE, fdE, FE, hmE⟩ := D.error
  have asked := c_lasked T R D.asked codeof codeX (e_err T R FE) hmE FE.kp (FunD.bindsN FE fun _ _ _ _ _ _ us hl => match us, hl with | [_], _ => rfl)
  exact c_law T F store linstr opsL drawn noins copy alike asked code instr instrK codeofK
end
end K08
namespace K08
open PySem PySem.Spec PyProof.Rows L2 Wk
theorem facts_err {K : PySem.W.Frag} {h : Heap} {mg : Str → Option Value} (X : K.In h) (G : h.Ns mainGlobals mg) (c : errB K = true) : ErrC K mg (He.ga K "BadArgument") (He.ga K "WardError") (He.fAd K ("BadArgument", some "__init__")) := by
  obtain ⟨h1, c⟩ := He.ba c
  obtain ⟨h2, c⟩ := He.ba c
  obtain ⟨h3, c⟩ := He.ba c
  obtain ⟨h4, c⟩ := He.ba c
  obtain ⟨h5, c⟩ := He.ba c
  obtain ⟨h6, c⟩ := He.ba c
  obtain ⟨h7, c⟩ := He.ba c
  obtain ⟨h8, c⟩ := He.ba c
  obtain ⟨h9, c⟩ := He.ba c
  obtain ⟨h10, c⟩ := He.ba c
  obtain ⟨h11, c⟩ := He.ba c
  obtain ⟨h12, c⟩ := He.ba c
  obtain ⟨h13, c⟩ := He.ba c
  obtain ⟨h14, c⟩ := He.ba c
  obtain ⟨h15, c⟩ := He.ba c
  refine ⟨PySem.W.mg_of X G (He.eqO_ok h1), PySem.W.mg_of X G (He.eqO_ok h2), PySem.W.mg_none_of X G (He.eqO_ok h3), oexB_ok h4, L2.xfB_ok h5, excB_ok h6, He.eqO_ok h7, He.eqO_ok h8, of_decide_eq_true h9, He.eqO_ok h10, wrB_ok h11, of_decide_eq_true h12, of_decide_eq_true h13, of_decide_eq_true h14, of_decide_eq_true h15, fun x hx => ?_⟩
  obtain ⟨z1, z2⟩ := He.ba (List.all_eq_true.mp c x hx)
  exact ⟨_, PySem.W.mg_of X G (He.eqO_ok z1), of_decide_eq_true z2⟩
theorem facts {P : Program} {w : World} {K : PySem.W.Frag} {h : Heap} {mg : Str → Option Value} {f : Addr} (X : K.In h) (G : h.Ns mainGlobals mg) (hfa : mg ("law" : Str) = some (.ref f)) (c : He.SaysX fa fn [] tf ex w h K) :
    ∃ fd : FuncData, (∀ (s : Shared) (v : Value), BindsTo s fd ⟨[v], []⟩ [("script", v)]) ∧ ∀ base : Heap, (GxR.TabB base mg (He.codeOf K ("is_instruction", none)) (He.tabOf K (He.codeOf K ("is_instruction", none)))) → FnOk P w K mg base CX0 9 f fd ["script"] (sp_law K (He.tabOf K (He.codeOf K ("is_instruction", none)))) := by
  have cm := c.more
  obtain ⟨x1, cm⟩ := He.ba cm
  obtain ⟨x2, cm⟩ := He.ba cm
  obtain ⟨x3, x6⟩ := He.ba cm
  obtain ⟨fd_is_integer, F_is_integer⟩ := c.t.d.def_ 0 (d := d_is_integer) rfl
  obtain ⟨fd_is_in_range, F_is_in_range⟩ := c.t.d.def_ 1 (d := d_is_in_range) rfl
  obtain ⟨fd_is_word, F_is_word⟩ := c.t.d.def_ 2 (d := d_is_word) rfl
  obtain ⟨fd_ask_word, F_ask_word⟩ := c.t.d.def_ 3 (d := d_ask_word) rfl
  obtain ⟨fd_code_of, F_code_of⟩ := c.t.d.def_ 4 (d := d_code_of) rfl
  obtain ⟨fd_instruction_of, F_instruction_of⟩ := c.t.d.def_ 5 (d := d_instruction_of) rfl
  obtain ⟨fd_is_instruction, F_is_instruction⟩ := c.t.d.def_ 6 (d := d_is_instruction) rfl
  obtain ⟨fd_operands_of, F_operands_of⟩ := c.t.d.def_ 7 (d := d_operands_of) rfl
  obtain ⟨fd_is_number, F_is_number⟩ := c.t.d.def_ 8 (d := d_is_number) rfl
  obtain ⟨fd__number_of, F__number_of⟩ := c.t.d.def_ 9 (d := d__number_of) rfl
  obtain ⟨fd__greatest_last, F__greatest_last⟩ := c.t.d.def_ 10 (d := d__greatest_last) rfl
  obtain ⟨fd__is_operand, F__is_operand⟩ := c.t.d.def_ 11 (d := d__is_operand) rfl
  obtain ⟨fd__law_mixed, F__law_mixed⟩ := c.t.d.def_ 12 (d := d__law_mixed) rfl
  obtain ⟨fd__law_store, F__law_store⟩ := c.t.d.def_ 13 (d := d__law_store) rfl
  obtain ⟨fd__law_take, F__law_take⟩ := c.t.d.def_ 14 (d := d__law_take) rfl
  obtain ⟨fd__law_between, F__law_between⟩ := c.t.d.def_ 15 (d := d__law_between) rfl
  obtain ⟨fd__law_pick, F__law_pick⟩ := c.t.d.def_ 16 (d := d__law_pick) rfl
  obtain ⟨fd__law_integer, F__law_integer⟩ := c.t.d.def_ 17 (d := d__law_integer) rfl
  obtain ⟨fd__law_text, F__law_text⟩ := c.t.d.def_ 18 (d := d__law_text) rfl
  obtain ⟨fd__law_plain, F__law_plain⟩ := c.t.d.def_ 19 (d := d__law_plain) rfl
  obtain ⟨fd__law_wrong_integer, F__law_wrong_integer⟩ := c.t.d.def_ 20 (d := d__law_wrong_integer) rfl
  obtain ⟨fd__law_alike, F__law_alike⟩ := c.t.d.def_ 21 (d := d__law_alike) rfl
  obtain ⟨fd__law_copy, F__law_copy⟩ := c.t.d.def_ 22 (d := d__law_copy) rfl
  obtain ⟨fd__law_error, F__law_error⟩ := c.t.d.def_ 23 (d := d__law_error) rfl
  obtain ⟨fd__law_operations, F__law_operations⟩ := c.t.d.def_ 24 (d := d__law_operations) rfl
  obtain ⟨fd__law_instruction, F__law_instruction⟩ := c.t.d.def_ 25 (d := d__law_instruction) rfl
  obtain ⟨fd__law_code, F__law_code⟩ := c.t.d.def_ 26 (d := d__law_code) rfl
  obtain ⟨fd__law_no_instruction, F__law_no_instruction⟩ := c.t.d.def_ 27 (d := d__law_no_instruction) rfl
  obtain ⟨fd__law_asked, F__law_asked⟩ := c.t.d.def_ 28 (d := d__law_asked) rfl
  obtain ⟨fd__law_drawn, F__law_drawn⟩ := c.t.d.def_ 29 (d := d__law_drawn) rfl
  obtain ⟨fd_law, F_law⟩ := c.t.d.def_ 30 (d := d_law) rfl
  obtain ⟨fdB_init, FB_init⟩ := c.t.d.def_ 31 (d := d_B_init) rfl
  have e := hfa.symm.trans (He.glo_ok X G (c.t.d.fact 30 (f := .glo "law") rfl))
  cases e
  have b := FunD.bindsA (ps := ["script"]) F_law fun _ _ _ _ _ _ us hl => match us, hl with | [_], _ => rfl
  have T : Txt K mg (He.ga K "REGISTERS") (He.ga K "OPERATIONS") := ⟨⟨He.free_ok X G (c.t.d.fact 34 (f := .free "int") rfl), He.free_ok X G (c.t.d.fact 35 (f := .free "len") rfl), He.free_ok X G (c.t.d.fact 36 (f := .free "range") rfl), He.free_ok X G (c.t.d.fact 37 (f := .free "list") rfl), He.free_ok X G (c.t.d.fact 38 (f := .free "abs") rfl), He.free_ok X G (c.t.d.fact 39 (f := .free "min") rfl), He.free_ok X G (c.t.d.fact 40 (f := .free "max") rfl), He.free_ok X G (c.t.d.fact 41 (f := .free "isinstance") rfl), He.free_ok X G (c.t.d.fact 42 (f := .free "bool") rfl), He.free_ok X G (c.t.d.fact 43 (f := .free "str") rfl), He.free_ok X G (c.t.d.fact 44 (f := .free "tuple") rfl), He.free_ok X G (c.t.d.fact 45 (f := .free "dict") rfl), He.free_ok X G (c.t.d.fact 46 (f := .free "sorted") rfl), He.free_ok X G (c.t.d.fact 47 (f := .free "all") rfl), He.free_ok X G (c.t.d.fact 48 (f := .free "any") rfl), He.free_ok X G (c.t.d.fact 49 (f := .free "zip") rfl), He.free_ok X G (c.t.d.fact 50 (f := .free "enumerate") rfl), He.free_ok X G (c.t.d.fact 51 (f := .free "sum") rfl)⟩, let ⟨t, e⟩ := He.int_ok X G (c.t.d.fact 33 (f := .int "WORDS" 65536) rfl); ⟨_, e, ⟨t, rfl⟩⟩, ⟨_, He.glo_ok X G (c.t.d.fact 31 (f := .glo "REGISTERS") rfl), rfl⟩, ⟨_, He.glo_ok X G (c.t.d.fact 32 (f := .glo "OPERATIONS") rfl), rfl⟩⟩
  have B : Tabs K (He.ga K "REGISTERS") (He.ga K "OPERATIONS") := ⟨fun H => He.tupB_ok x1 H, regB_ok x2, opsB_ok x3⟩
  have code : ∃ c0, fd_is_instruction.code = .ref c0 ∧ He.codeOf K ("is_instruction", none) = c0 := by
    obtain ⟨oc, od, dV, kV, doc, pm, an, cdv, ct, osl, e, lk, hcd, _⟩ := F_is_instruction.ex
    obtain ⟨c0, rfl⟩ := He.codeIn_ref hcd
    exact ⟨c0, by rw [e], He.codeOf_eq lk (by rw [e])⟩
  obtain ⟨c0, hc0, hc1⟩ := code
  have D : Defs K mg 0 (He.codeOf K ("is_instruction", none)) := ⟨
    ⟨_, _, F_is_integer, He.glo_ok X G (c.t.d.fact 0 (f := .glo "is_integer") rfl)⟩,
    ⟨_, _, F_is_in_range, He.glo_ok X G (c.t.d.fact 1 (f := .glo "is_in_range") rfl)⟩,
    ⟨_, _, F_is_word, He.glo_ok X G (c.t.d.fact 2 (f := .glo "is_word") rfl)⟩,
    ⟨_, _, F_ask_word, He.glo_ok X G (c.t.d.fact 3 (f := .glo "ask_word") rfl)⟩,
    ⟨_, _, F_code_of, He.glo_ok X G (c.t.d.fact 4 (f := .glo "code_of") rfl)⟩,
    ⟨_, _, F_instruction_of, He.glo_ok X G (c.t.d.fact 5 (f := .glo "instruction_of") rfl)⟩,
    ⟨_, _, ⟨F_is_instruction, hc1 ▸ hc0⟩, He.glo_ok X G (c.t.d.fact 6 (f := .glo "is_instruction") rfl)⟩,
    ⟨_, _, F_operands_of, He.glo_ok X G (c.t.d.fact 7 (f := .glo "operands_of") rfl)⟩,
    ⟨_, _, F_is_number, He.glo_ok X G (c.t.d.fact 8 (f := .glo "is_number") rfl)⟩,
    ⟨_, _, F__number_of, He.glo_ok X G (c.t.d.fact 9 (f := .glo "_number_of") rfl)⟩,
    ⟨_, _, F__greatest_last, He.glo_ok X G (c.t.d.fact 10 (f := .glo "_greatest_last") rfl)⟩,
    ⟨_, _, F__is_operand, He.glo_ok X G (c.t.d.fact 11 (f := .glo "_is_operand") rfl)⟩,
    ⟨_, _, F__law_mixed, He.glo_ok X G (c.t.d.fact 12 (f := .glo "_law_mixed") rfl)⟩,
    ⟨_, _, F__law_store, He.glo_ok X G (c.t.d.fact 13 (f := .glo "_law_store") rfl)⟩,
    ⟨_, _, F__law_take, He.glo_ok X G (c.t.d.fact 14 (f := .glo "_law_take") rfl)⟩,
    ⟨_, _, F__law_between, He.glo_ok X G (c.t.d.fact 15 (f := .glo "_law_between") rfl)⟩,
    ⟨_, _, F__law_pick, He.glo_ok X G (c.t.d.fact 16 (f := .glo "_law_pick") rfl)⟩,
    ⟨_, _, F__law_integer, He.glo_ok X G (c.t.d.fact 17 (f := .glo "_law_integer") rfl)⟩,
    ⟨_, _, F__law_text, He.glo_ok X G (c.t.d.fact 18 (f := .glo "_law_text") rfl)⟩,
    ⟨_, _, F__law_plain, He.glo_ok X G (c.t.d.fact 19 (f := .glo "_law_plain") rfl)⟩,
    ⟨_, _, F__law_wrong_integer, He.glo_ok X G (c.t.d.fact 20 (f := .glo "_law_wrong_integer") rfl)⟩,
    ⟨_, _, F__law_alike, He.glo_ok X G (c.t.d.fact 21 (f := .glo "_law_alike") rfl)⟩,
    ⟨_, _, F__law_copy, He.glo_ok X G (c.t.d.fact 22 (f := .glo "_law_copy") rfl)⟩,
    ⟨_, _, F__law_error, He.glo_ok X G (c.t.d.fact 23 (f := .glo "_law_error") rfl)⟩,
    ⟨_, _, F__law_operations, He.glo_ok X G (c.t.d.fact 24 (f := .glo "_law_operations") rfl)⟩,
    ⟨_, _, F__law_instruction, He.glo_ok X G (c.t.d.fact 25 (f := .glo "_law_instruction") rfl)⟩,
    ⟨_, _, F__law_code, He.glo_ok X G (c.t.d.fact 26 (f := .glo "_law_code") rfl)⟩,
    ⟨_, _, F__law_no_instruction, He.glo_ok X G (c.t.d.fact 27 (f := .glo "_law_no_instruction") rfl)⟩,
    ⟨_, _, F__law_asked, He.glo_ok X G (c.t.d.fact 28 (f := .glo "_law_asked") rfl)⟩,
    ⟨_, _, F__law_drawn, He.glo_ok X G (c.t.d.fact 29 (f := .glo "_law_drawn") rfl)⟩⟩
  refine ⟨fd_law, fun s v => b s [v] rfl, fun base TB => ?_⟩
  exact all_law T B TB D F_law (facts_err X G x6) FB_init
end K08
open PySem PySem.W PySem.Calls PyProof.Rows
theorem PySem.Challenge.cw_wardwork_k08_code_and_back_holds : PySem.Challenge.rw_wardwork_k08_code_and_back.Holds := by
  w_on; o_law
  refine HandSHeadRun.head_any (r := OpenLaw.row PySem.Challenge.rw_wardwork_k08_code_and_back) (q := view (OpenLaw.row PySem.Challenge.rw_wardwork_k08_code_and_back).prog [51]) (H := K08.hookY) (ob := K08.ob) (M := 20000) (loose := K08.loose) (d := HandSHeadRun.topDef (OpenLaw.row PySem.Challenge.rw_wardwork_k08_code_and_back).prog 51) (kwd := []) K08.ob_eq
    (by kernel_rfl) (fun s => by kernel_rfl) K08.run (by kernel_rfl) (by kernel_rfl) (by kernel_rfl) (by rfl) (by first | assumption | decide +kernel) (by decide +kernel) ⟨rfl, rfl, rfl, rfl, rfl, by decide +kernel⟩ ?hw ?hc
  case hw => w_witness2
  case hc =>
    refine LamX.walk_ofTsE (l := PySem.Challenge.rw_wardwork_k08_code_and_back) (n := 63) (k := 9) (x := "script") (CX := fun _ => C8.CX0) rfl (by decide) (by kernel_rfl) ⟨rfl, by decide, by decide⟩ ?F (fun _ _ _ _ _ z => z)
    intro w mg fa h Y G hmg0
    obtain ⟨K, KX, c⟩ := Y
    have hmg : mg ("law" : PySem.Str) = some (.ref fa) := by
      have e : (HandSHeadRun.topDef (OpenLaw.row PySem.Challenge.rw_wardwork_k08_code_and_back).prog 51).name = ("law" : PySem.Str) := by kernel_rfl
      rw [← e]
      exact hmg0
    obtain ⟨fd, hb, hF⟩ := K08.facts (P := (PySem.Challenge.rw_wardwork_k08_code_and_back).prog) (w := w) KX G hmg c
    refine ⟨K, KX, fd, [He.cT K ("is_instruction", none)], K08.sp_law K (He.tabOf K (He.codeOf K ("is_instruction", none))), fun p hp => ?_, fun p hp => ?_, fun p hp => ?_, hb, fun H a ns hl _ hT hS => ⟨a, ns, rfl, hS, hl, ⟨#[], hT _ (List.mem_cons_self ..), trivial⟩, fun _ => rfl⟩, fun base _ _ hTB => hF base ?_⟩
    · cases List.mem_singleton.mp hp
      exact c.empty _ (List.mem_cons_self ..)
    · cases List.mem_singleton.mp hp
      exact c.out _ (List.mem_cons_self ..)
    · cases List.mem_singleton.mp hp
      exact PySem.W.codeHd_of_K KX (c.hd _ (List.mem_cons_self ..))
    · have t := hTB _ (List.mem_cons_self ..)
      exact ⟨t.code, t.bm, t.gP⟩
